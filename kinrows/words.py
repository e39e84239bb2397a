"""Rows and words: a row's text taken apart, written again, and what its words are."""

from kinrows.errors import BadRow, BadWord

LONGEST_ROW = 1000
LONGEST_WORD = 20
MOST_WORDS = 30
KEPT = ("and", "def", "do", "else", "end", "for", "if", "in", "not", "or", "return", "use", "while")


def begins_name(sign):
    return "a" <= sign <= "z" or "A" <= sign <= "Z" or sign == "_"


def is_figure(sign):
    # str.isdigit would also take figures of other scripts.
    return "0" <= sign <= "9"


def continues_name(sign):
    return begins_name(sign) or is_figure(sign)


def run_end(text, at):
    """The place behind the name, the number or the single sign that begins at this place."""
    end = at + 1
    if begins_name(text[at]):
        while end < len(text) and continues_name(text[end]):
            end += 1
    elif is_figure(text[at]):
        while end < len(text) and is_figure(text[end]):
            end += 1
    return end


def taken_apart(text):
    """The names, numbers and single signs of a text, however long they are."""
    parts = []
    at = 0
    while at < len(text):
        end = run_end(text, at)
        if text[at] != " ":
            parts.append(text[at:end])
        at = end
    return parts


def is_text(thing, longest):
    """Whether it is a text of at most so many signs, from the blank to ~ alone."""
    if not isinstance(thing, str) or len(thing) > longest:
        return False
    return all(" " <= sign <= "~" for sign in thing)


def read(row):
    """The list of a row's words; BadRow of anything that is no row."""
    if not is_text(row, LONGEST_ROW):
        raise BadRow("a row is a text of at most 1000 signs from the blank to ~")
    words = taken_apart(row)
    if len(words) > MOST_WORDS:
        raise BadRow("a row has at most 30 words")
    if any(len(word) > LONGEST_WORD for word in words):
        raise BadRow("a name or a number in a row has at most 20 signs")
    return words


def write(words):
    """The plain text of a list of words; BadWord, if one is none, then BadRow, if they are more than 30."""
    if not isinstance(words, list) or not all(is_word(word) for word in words):
        raise BadWord("a row is written from a list of words")
    if len(words) > MOST_WORDS:
        raise BadRow("a row has at most 30 words")
    return " ".join(words)


def plain(row):
    """A row's words with one blank between two of them; BadRow of anything that is no row."""
    return write(read(row))


def is_word(thing):
    """Whether it is a name or a number of at most 20 signs, or one other sign from ! to ~."""
    return is_text(thing, LONGEST_WORD) and taken_apart(thing) == [thing]


def is_name(thing):
    """Whether it is a word that begins with a letter or _, kept or free."""
    return is_word(thing) and begins_name(thing[0])


def is_free(thing):
    """Whether it is a name that is not kept."""
    return is_word(thing) and is_free_word(thing)


def is_free_word(word):
    """Whether a word is a free name; asked of words alone, which need not be taken apart again."""
    return begins_name(word[0]) and word not in KEPT
