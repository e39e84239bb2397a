"""The desk: promises 75 to 83."""

import inspect
import random
import unittest

from kinrows.commands import KINDS
from kinrows.desk import Desk
from kinrows.folds import unfold
from kinrows.forms import form_of
from kinrows.words import read
from tests.chances import any_step
from tests.desks import PlainDesk, commands, taken
from tests.test_mends import MENDS
from tests.test_yards import DEEDS

NO_NUMBERS = ["00", "01", "012", "1234567890", "0000000001", "-1", "+1", "-0", "1.0", "1x", "x", "x1", "1,", "?", "=",
              "a", "one", "1_0", "0x1", "~"]


def desk_told(*texts, least=2):
    """A desk that did all these; none of them is refused."""
    desk = Desk(least)
    for text in texts:
        answer = desk.say(text)
        assert answer and answer[0].split()[0] in ("done", "day"), (text, answer)
    return desk


def copies(*more):
    """Numbers 0 to 2 in a, 3 and 4 in b, none in c."""
    return desk_told("file a\nx = 1\nif x\nend", "file b\ny = 1\nif y", "file c", *more)


def all_told(desk):
    """The answers to all questions about a desk's yard, as far as titles go."""
    told = [desk.say(text) for text in ("titles", "pairs", "come", "gone", "owed")]
    for title in desk.say("titles"):
        told += [desk.say(f"{word} {title}") for word in ("show", "numbers")]
        many = len(desk.say(f"show {title}"))
        for first in range(many):
            told += [desk.say(f"{word} {title} {first} {many - first}") for word in ("since", "oldest")]
    return told


def text_of(deed):
    """A deed or question with its things as a command, the day left out."""
    name, *things = deed
    if name not in ("back", "again"):
        things = things[1:]
    rows = things.pop() if name in ("file", "put") else [things.pop()] if name in ("turn", "mend") else []
    return "\n".join([" ".join([name, *map(str, things)]), *rows])


def any_question(chance, yard):
    pieces = chance.choice([pieces for pieces in commands() if pieces[0] not in DEEDS + MENDS])
    titles = yard.titles() + ["zz"] * (chance.random() < 0.1) or ["a"]
    things = []
    for piece in pieces[1:]:
        if piece in ("T", "T2"):
            things.append(chance.choice(titles))
        elif piece == "NAME":
            things.append(chance.choice(["f", "g", "use", "1"]))
        elif piece == "MOST":
            things.append(str(chance.randrange(4)))
        elif piece == "DAY":
            things.append(str(yard.day() + chance.choice([0, 1, 2, -1])))
        else:
            things.append(str(chance.choice([0, 0, 1, 1, 2, 3, 4])))
    return chance.choice([" ", "  "]).join([pieces[0], *things])


class SequenceTest(unittest.TestCase):
    def test_long_rows_of_texts(self):
        words = []
        for seed in range(200):
            chance = random.Random(seed)
            least = chance.choice([1, 2, 3])
            desk, plain = Desk(least), PlainDesk(least)
            for step in range(60):
                if chance.random() < 0.5:
                    text = any_question(chance, plain.yard)
                else:
                    text = text_of(any_step(chance, plain.yard, 14, DEEDS + MENDS * 3, chance.random() < 0.5,
                                            chance.random() < 0.3))
                answer = desk.say(text)
                self.assertEqual(answer, plain.say(text), text)
                words.append((text.split()[0], " ".join(answer[:1]).split(" ")[0]))
        for pieces in commands():
            told = [answer for word, answer in words if word == pieces[0] and answer not in ("no", "what")]
            self.assertGreater(len(told), 10, pieces)
        self.assertGreater(words.count(("back", "no")) + words.count(("again", "no")), 5)

    def test_all_taken_back_and_done_again(self):
        for seed in range(5):
            chance = random.Random(seed)
            desk, told = Desk(2), []
            while len(told) < 20:
                before = all_told(desk)
                text = text_of(any_step(chance, desk.yard, 12, DEEDS + MENDS, 0, 0))
                done = desk.say(text)
                if done[0].startswith("done"):
                    told.append((before, text, done, all_told(desk)))
            for before, text, done, behind in reversed(told):
                word, came, went = done[0].split()
                self.assertEqual(desk.say("back"), [f"done {went} {came}"])
                self.assertEqual([*all_told(desk)[:2], *all_told(desk)[4:]], [*before[:2], *before[4:]])
            self.assertEqual(desk.say("back"), ["no deed"])
            for before, text, done, behind in told:
                self.assertEqual((desk.say("again"), all_told(desk)), (done, behind))
            self.assertEqual(desk.say("again"), ["no deed"])


class CommandTest(unittest.TestCase):
    def test_the_commands_are_those_of_the_document(self):
        self.assertEqual({pieces[0]: len(pieces) - 1 for pieces in commands()},
                         {word: len(KINDS[word]) for word in KINDS})

    def hold_what(self, text):
        self.assertIsNone(taken(text), text)
        self.assertEqual(self.desk.say(text), ["what"], text)

    def setUp(self):
        self.desk = copies("day 4", "mend a 0 2 1\nif x + 1", "put c 0\nq", "back")
        self.before = all_told(self.desk)

    def tearDown(self):
        self.assertEqual(all_told(self.desk), self.before)
        self.assertEqual(self.desk.say("again"), ["done 0 0"])
        self.assertEqual(self.desk.say("show c"), ["q"])

    def right(self):
        """Each command with pieces that are right, as a list of pieces and the rows behind."""
        things = {"T": "a", "T2": "b", "NAME": "f", "MANY": "1", "MANY2": "1"}
        return [([pieces[0], *[things.get(piece, "0") for piece in pieces[1:]]],
                 ["q"] if pieces[0] in ("file", "put", "turn", "mend") else []) for pieces in commands()]

    def test_a_piece_less_or_more(self):
        for pieces, rows in self.right():
            self.assertIsNotNone(taken("\n".join([" ".join(pieces), *rows])))
            for wrong in (pieces[:-1], pieces + ["0"], pieces + ["a"], pieces[1:], [pieces[0], *pieces],
                          pieces + ["="]):
                if wrong != pieces:
                    self.hold_what("\n".join([" ".join(wrong), *rows]))

    def test_another_first_piece(self):
        for pieces, rows in self.right():
            for word in (pieces[0].upper(), pieces[0].title(), pieces[0] + "s", pieces[0][:-1], pieces[0] + ":", "what",
                         "no", "done", "none", "near", "rows", "files", "0", "?", "use"):
                if word not in KINDS:
                    self.hold_what("\n".join([" ".join([word, *pieces[1:]]), *rows]))

    def test_numbers_that_are_none(self):
        for (pieces, rows), kinds in zip(self.right(), commands()):
            for at, kind in enumerate(kinds):
                if at and kind not in ("T", "T2", "NAME"):
                    for wrong in NO_NUMBERS + (["4", "5", "10", "03"] if kind == "MOST" else []):
                        text = " ".join(pieces[:at] + [wrong] + pieces[at + 1:])
                        self.hold_what("\n".join([text, *rows]))

    def test_rows_behind(self):
        for pieces, rows in self.right():
            text = " ".join(pieces)
            if pieces[0] in ("turn", "mend"):
                for wrong in ([], ["q", "q"], ["", ""], ["q", "", ""]):
                    self.hold_what("\n".join([text, *wrong]))
            elif pieces[0] not in ("file", "put"):
                for wrong in (["q"], [""], ["", ""], [pieces[0]], [" "]):
                    self.hold_what("\n".join([text, *wrong]))

    def test_no_pieces(self):
        for text in ("", " ", "   ", "\n", "\nfile a", " \ntitles", "\n\n"):
            self.hold_what(text)

    def test_most(self):
        for most in range(4):
            self.assertEqual(self.desk.say(f"laid a 0 1 b 0 1 {most}"), ["0 0"])
        self.hold_what("laid a 0 1 b 0 1 4")
        self.hold_what("laid zz 0 1 b 0 1 4")

    def test_what_comes_ahead_of_refusals(self):
        for text in ("drop zz 0", "turn zz 0", "day 100001 0", "mend zz 0 0 0", "show zz\n", "cut zz 0 01",
                     "fold zz 0 1", "day 1000000000"):
            self.hold_what(text)


class FormatTest(unittest.TestCase):
    def test_blanks_and_numbers(self):
        desk = Desk(least=1)
        self.assertEqual(desk.say("   file    a  \n x=1 \n"), ["done 0 0"])
        self.assertEqual(desk.say(" show  a "), ["x = 1", ""])
        self.assertEqual(desk.say("  day   0  "), ["day 0"])
        self.assertEqual(desk.say("put  a   0 \nx = 1"), ["done 1 0"])
        for text in ("cut a 999999999 1", "cut a 0 123456789", "turn a 999999999\nq", "since a 0 100000000"):
            self.assertEqual(desk.say(text), ["no place"])
        self.assertEqual(desk.say("day 999999999"), ["no day"])
        self.assertEqual(desk.say("cut a 0 1000000000"), ["what"])
        self.assertEqual(desk.say("numbers a"), ["2", "0", "1"])

    def test_rows_as_they_stand(self):
        desk = Desk()
        self.assertEqual(desk.say("file a"), ["done 0 0"])
        self.assertEqual(desk.say("show a"), [])
        self.assertEqual(desk.say("file b\n"), ["done 0 0"])
        self.assertEqual(desk.say("show b"), [""])
        self.assertEqual(desk.say("put b 1\n\nfile  c\n  \nwhat"), ["done 0 0"])
        self.assertEqual(desk.say("show b"), ["", "", "file c", "", "what"])
        self.assertEqual(desk.say("turn b 4\n"), ["done 0 0"])
        self.assertEqual(desk.say("numbers b"), ["0", "1", "2", "3", "4"])
        self.assertEqual(desk.say("show b")[4], "")

    def test_by_name_and_of_its_own_class(self):
        self.assertEqual(Desk(least=1).say(text="titles"), [])
        self.assertTrue(inspect.isfunction(vars(Desk)["say"]))

    def test_least(self):
        for desk, came in ((Desk(), 0), (Desk(2), 1), (Desk(least=3), 0)):
            desk.say("file a\nif x\nend")
            self.assertEqual(desk.say("file b\nif y\nend"), [f"done {came} 0"])
        desk = Desk()
        desk.say("file a\nif x\nend\nx")
        self.assertEqual(desk.say("file b\nif y\nend\ny"), ["done 1 0"])

    def test_deeds(self):
        desk = copies()
        for text, answer in (("pairs", ["a 0 b 0 2"]), ("turn b 1\nif y + 1", ["done 0 1"]), ("gone", ["0 1 = 3 4"]),
                             ("come", []), ("back", ["done 1 0"]), ("come", ["0 1 = 3 4"]), ("gone", []),
                             ("again", ["done 0 1"]), ("back", ["done 1 0"]), ("move a 0 2 b 2", ["done 0 0"]),
                             ("pairs", ["b 0 b 2 2"]), ("numbers b", ["3", "4", "0", "1"]), ("titles", ["a", "b", "c"]),
                             ("divide b 2 use", ["done 0 0"]), ("pairs", ["b 0 use 0 2"]),
                             ("unite use a", ["done 0 0"]), ("show use", ["x = 1", "if x", "end"]),
                             ("cut b 1 1", ["done 0 1"]),
                             ("drop use", ["done 0 0"]), ("titles", ["b", "c"]), ("put b 0\n+", ["done 0 0"]),
                             ("numbers b", ["5", "3"])):
            self.assertEqual(desk.say(text), answer, text)

    def test_what_there_is_none_of(self):
        desk = Desk()
        for text in ("titles", "pairs", "come", "gone", "owed"):
            self.assertEqual(desk.say(text), [])
        desk.say("file a")
        for text in ("show a", "numbers a"):
            self.assertEqual(desk.say(text), [])

    def test_families(self):
        desk = copies("day 7", "turn a 0\nx = 1")
        self.assertEqual(desk.say("family b 0 2"), ["a 0", "b 0"])
        self.assertEqual(desk.say("oldest a 0 2"), ["b 0"])
        self.assertEqual(desk.say("oldest a 1 1"), ["a 1"])
        self.assertEqual(desk.say("since a 0 3"), ["day 7"])
        self.assertEqual(desk.say("since a 1 2"), ["day 0"])
        self.assertEqual(desk.say("form b 0 2"), ["?0 = 1", "if ?0"])
        self.assertEqual(desk.say("form a 2 1"), ["end"])
        desk = desk_told("file a\nx ? y\n\ny", "file b\ny ? x\n\nx", "file c\nz ? z\n\n")
        self.assertEqual(desk.say("form a 0 3"), ["?0 ? ?1", "", "?1"])
        self.assertEqual(desk.say("form c 1 2"), ["", ""])

    def test_more_holes_than_ten(self):
        rows = [" ".join(f"{sign}{at}" for at in range(12)) for sign in "xy"]
        desk = desk_told("file a\n" + "\n".join(rows))
        self.assertEqual(desk.say("form a 0 1"), [" ".join(f"?{at}" for at in range(12))])

    def test_laid(self):
        desk = desk_told("file a\nq\nx = 1\nuse x", "file b\nend\ny = 1\nif y\nuse y")
        self.assertEqual(desk.say("laid a 1 2 b 1 3 1"), ["0 0", "1 2"])
        self.assertEqual(desk.say("laid a 1 2 b 1 3 0"), ["none"])
        self.assertEqual(desk.say("laid b 0 4 a 1 2 2"), ["1 0", "3 1"])
        self.assertEqual(desk.say("laid a 0 1 a 0 1 0"), ["0 0"])
        for text, answer in (("laid zz 9 9 yy 9 9 0", "no file"), ("laid a 9 9 yy 9 9 0", "no file"),
                             ("laid a 9 9 b 0 1 0", "no place"), ("laid a 0 1 b 4 1 0", "no place"),
                             ("laid a 0 0 b 0 1 0", "no place"), ("laid a 0 1 b 0 0 3", "no place")):
            self.assertEqual(desk.say(text), [answer], text)
        desk = desk_told("file a" + "\nx" * 13, "file b\ny")
        self.assertEqual(desk.say("laid a 0 12 a 1 12 0")[-1], "11 11")
        for text, answer in (("laid a 0 13 b 0 1 0", "no long"), ("laid b 0 1 a 0 13 3", "no long"),
                             ("laid a 0 13 b 0 2 0", "no place"), ("laid a 0 13 c 0 1 0", "no file")):
            self.assertEqual(desk.say(text), [answer], text)

    def test_owed(self):
        desk = copies("day 3", "mend a 0 2 1\nif x>1")
        self.assertEqual(desk.say("owed"), ["b 1 1 = if y > 1"])
        self.assertEqual(desk.say("mend a 0 2 1\nif y"), ["done 0 0"])
        self.assertEqual(desk.say("owed"), ["b 1 1 ?"])
        self.assertEqual(desk.say("settle b 1"), ["no debt"])
        self.assertEqual(desk.say("mend a 0 2 1\n"), ["done 0 0"])
        self.assertEqual(desk.say("owed"), ["b 1 1 ="])
        self.assertEqual(desk.say("settle b 1"), ["done 1 0"])
        self.assertEqual((desk.say("owed"), desk.say("show b")), ([], ["y = 1", ""]))
        self.assertEqual(desk.say("since b 1 1"), ["day 3"])
        self.assertEqual(desk.say("back"), ["done 0 1"])
        self.assertEqual(desk.say("waive b 1"), ["done 0 0"])
        self.assertEqual(desk.say("waive b 1"), ["no debt"])
        self.assertEqual(desk.say("waive b 0"), ["no debt"])


class DayTest(unittest.TestCase):
    def test_days(self):
        desk = Desk()
        for text, answer in (
                ("file a\nx", "done 0 0"), ("since a 0 1", "day 0"), ("day 5", "day 5"), ("turn a 0\ny", "done 0 0"),
                ("since a 0 1", "day 5"), ("day 4", "no day"), ("day 5", "day 5"), ("day 100001", "no day"),
                ("day 100000", "day 100000"), ("day 6", "day 6"), ("turn a 0\ny", "done 0 0"), ("since a 0 1", "day 6"),
                ("back", "done 0 0"), ("since a 0 1", "day 5"), ("put a 1\nz", "done 0 0"), ("since a 1 1", "day 6"),
                ("back", "done 0 0"), ("back", "done 0 0"), ("day 2", "day 2"), ("again", "done 0 0"),
                ("since a 0 1", "day 5"), ("turn a 0\nq", "no day"), ("day 2", "no day"), ("turn a 0\nq", "no day"),
                ("back", "done 0 0"), ("turn a 0\nq", "done 0 0"), ("since a 0 1", "day 2"), ("again", "no deed")):
            self.assertEqual(desk.say(text), [answer], text)

    def test_a_day_is_no_deed(self):
        desk = desk_told("file a\nx", "back", "day 3")
        self.assertEqual((desk.say("again"), desk.say("since a 0 1")), (["done 0 0"], ["day 0"]))


class FoldTest(unittest.TestCase):
    def test_members_of_the_file(self):
        desk = desk_told("file a\nx = 1\nif x\nend\ny = 1\nif y", "file b\nz = 1\nif z")
        before = all_told(desk)
        self.assertEqual(desk.say("fold a 0 2 f"), ["use f x", "end", "use f y"])
        self.assertEqual(desk.say("fold a 3 2 f"), ["use f x", "end", "use f y"])
        self.assertEqual(desk.say("fold b 0 2 f"), ["use f z"])
        self.assertEqual(desk.say("fold a 2 1 show"), ["x = 1", "if x", "use show", "y = 1", "if y"])
        self.assertEqual(all_told(desk), before)

    def test_as_many_as_can_stand_apart(self):
        desk = desk_told("file a\nx\ny\nz\nq\n\nr\ns")
        # Of the parts of two rows from 0, 1, 2 and 5 on the one that is named gives way.
        self.assertEqual(desk.say("family a 1 2"), ["a 0", "a 1", "a 2", "a 5"])
        self.assertEqual(desk.say("fold a 1 2 f"), ["use f x y", "use f z q", "", "use f r s"])

    def test_it_unfolds_again(self):
        many = 0
        for seed in range(60):
            chance = random.Random(seed)
            desk = Desk(1)
            for step in range(8):
                desk.say(text_of(any_step(chance, desk.yard, 20, DEEDS, 0, 0)))
            for title in desk.say("titles"):
                shown = desk.say(f"show {title}")
                for first in range(len(shown)):
                    size = min(chance.randrange(1, 4), len(shown) - first)
                    members = [member.split() for member in desk.say(f"family {title} {first} {size}")]
                    parts = [[read(row) for row in desk.say(f"show {other}")[int(at):int(at) + size]]
                             for other, at in members]
                    folded = desk.say(f"fold {title} {first} {size} f")
                    rows = unfold([read(row) for row in folded], {"f": form_of(parts)})
                    self.assertEqual([" ".join(row) for row in rows], shown)
                    many += len(shown) - len(folded)
        self.assertGreater(many, 100)

    def test_refused(self):
        desk = desk_told("file a\nx = 1\nif x")
        for text, answer in (("fold zz 0 9 if", "no file"), ("fold a 0 9 if", "no place"),
                             ("fold a 0 0 if", "no place"), ("fold a 0 2 if", "no name"), ("fold a 0 2 1", "no name"),
                             ("fold a 0 2 use", "no name"),
                             ("fold a 0 2 " + "f" * 21, "no name"), ("fold a 0 2 " + "f" * 20, "use " + "f" * 20)):
            self.assertEqual(desk.say(text), [answer], text)
        wide = [" ".join(f"{sign}{at}" for at in range(29)) for sign in "xy"]
        desk = desk_told("file a\n" + "\n".join(wide))
        self.assertEqual(desk.say("fold a 0 1 if"), ["no wide"])
        self.assertEqual(desk.say("fold a 0 3 if"), ["no place"])
        desk = desk_told("file a\n" + "\n".join(row[:row.rindex(" ")] for row in wide))
        self.assertEqual(desk.say("fold a 0 1 if"), ["no name"])
        self.assertEqual([len(row.split()) for row in desk.say("fold a 0 1 f")], [30, 30])


class RefusalTest(unittest.TestCase):
    def test_words(self):
        desk = copies("day 4", "mend a 0 2 1\nif y", "put c 0\nq", "back")
        before = all_told(desk)
        long = "a" * 21
        for answer, texts in {
                "day": ("day 3", "day 100001"),
                "file": ("drop zz", "put zz 9", "cut zz 0 0", "turn zz 9\n" + long, "move zz 9 9 yy 9",
                         "move a 9 9 yy 9", "divide zz 9 1", "unite zz zz", "unite a zz", "mend zz 9 9 9\n" + long,
                         "settle zz 9",
                         "waive 1 9", "show zz", "numbers +", "since zz 9 9", "family zz 9 9", "oldest zz 9 9",
                         "form zz 9 9"),
                "title": ("file 1\n" + long, "file +", "file " + long, "divide a 9 1", "file a=b", "divide a 9 ?0"),
                "known": ("file a\n" + long, "divide a 9 a", "divide a 9 b"),
                "same": ("unite a a", "unite c c"),
                "place": ("put a 4", "cut a 0 0", "cut a 0 4", "turn a 3\n" + long, "turn c 0\n", "move a 0 1 b 3",
                          "move a 0 3 a 1", "divide a 4 d", "mend a 0 2 2\n" + long, "mend a 1 1 0\n", "settle a 3",
                          "waive c 0", "since a 0 0", "family a 0 4", "oldest a 3 1", "form a 2 2"),
                "rows": ("put a 0",),
                "row": ("put a 0\n" + long, "file d\nq\n" + long, "turn a 0\n" + "+" * 31,
                        "mend a 0 2 1\n" + " " * 1001, "file d\n\n" + "x\n" * 60 + long),
                "full": ("file d" + "\nx" * 61, "put c 0" + "\n" * 61, "put a 0" + "\nx" * 58),
                "debt": ("settle b 1", "settle b 0", "waive b 0", "settle a 1")}.items():
            for text in texts:
                self.assertEqual(desk.say(text), [f"no {answer}"], text)
                self.assertEqual(all_told(desk), before)
        self.assertEqual((desk.say("again"), desk.say("show c")), (["done 0 0"], ["q"]))
        self.assertEqual(desk.say("again"), ["no deed"])
        self.assertEqual(Desk().say("back"), ["no deed"])

    def test_a_day_that_has_gone_comes_first(self):
        desk = copies("day 9", "put c 0\nq", "back", "day 2", "again")
        for text in ("file 1\n" + "a" * 21, "drop zz", "put zz 9", "cut zz 0 0", "turn zz 9\n", "move zz 9 9 zz 9",
                     "divide zz 9 1", "unite zz zz", "mend zz 9 9 9\n", "settle zz 9", "waive zz 9", "day 8"):
            self.assertEqual(desk.say(text), ["no day"], text)

    def test_full(self):
        desk = desk_told(*[f"file f{at}" for at in range(12)])
        self.assertEqual(desk.say("file g"), ["no full"])
        self.assertEqual(desk.say("divide f0 0 g"), ["no full"])


class OwnTest(unittest.TestCase):
    def test_titles_of_the_desks_own_words(self):
        desk = Desk(1)
        for word in KINDS:
            for text, answer in ((f"file {word}\n{word}", ["done 0 0"]), (f"show {word}", [word]),
                                 (f"mend {word} 0 1 0\nx", ["done 0 0"]), (f"family {word} 0 1", [f"{word} 0"]),
                                 (f"divide {word} 0 what", ["done 0 0"]), (f"unite what {word}", ["done 0 0"]),
                                 ("titles", ["what"]), ("drop what", ["done 0 0"])):
                self.assertEqual(desk.say(text), answer, text)
        desk_told("file day", "file no", "file done", "file none", "unite day no")

    def test_changing_what_was_told_changes_nothing(self):
        desk = copies("mend a 0 2 1\nend")
        before = all_told(desk)
        for text in ("titles", "show a", "numbers a", "pairs", "come", "gone", "owed", "family a 0 1", "form a 0 1",
                     "fold a 0 1 f", "what", "drop zz"):
            answer = desk.say(text)
            self.assertIsInstance(answer, list)
            answer.append("changed")
            answer.clear()
        self.assertEqual(all_told(desk), before)
        for text in ("what", "drop zz"):
            self.assertEqual(desk.say(text), ["what"] if text == "what" else ["no file"])

    def test_each_desk_goes_by_itself(self):
        one, other = desk_told("day 5", "file a\nx"), Desk()
        self.assertEqual((other.say("titles"), other.say("back")), ([], ["no deed"]))
        self.assertEqual(other.say("file a\ny"), ["done 0 0"])
        self.assertEqual((one.say("show a"), other.say("since a 0 1")), (["x"], ["day 0"]))


if __name__ == "__main__":
    unittest.main()
