"""Things of kinds that are neither rows, words nor renamings, for the tests of wrong inputs."""


class Odd:
    """An object of no kind that the program knows."""


def odd_things():
    """Things that are no texts and no lists, made anew for each asker."""
    return [None, True, False, 0, 1, -1, 10 ** 50, (), ("a",), ("a", "b"), {}, {"a": "b"}, {"a"}, frozenset(),
            b"", b"a", bytearray(b"a"), range(2), Odd(), Odd, len]


def odd_lists():
    return [[], ["a"], [[]], [["a"]], [("a", "b")], [None]]


def no_forms():
    """Things that are no forms, of many kinds, most of them wrong at one place alone."""
    wrong = odd_things() + ["", "a", "ab", (["a"],), ((),), {0: ["a"]}, {"a": []}]
    for row in odd_things() + ["", "a", "ab", ("a",), (0,), {0: "a"}]:
        wrong += [[row], [["a", 0], row], [row, [0]]]
    for item in ["", " ", "a b", "1a", "==", "a" * 21, "1" * 21, "a\n", "\t", [], ["a"], [0], -1, -10 ** 30] + [
            thing for thing in odd_things() if type(thing) is not int]:
        wrong += [[[item]], [["a", item]], [[0, item]], [[0], [], [1, item, 2]]]
    return wrong + holes_out_of_order() + [[["a"]] * 61, [[]] * 61, [["a"] * 31], [[0] * 31], [[], ["a"] * 30 + [0]]]


def holes_out_of_order():
    """Lists of rows of items that are no forms for the numbers of their holes alone."""
    return [[[1]], [[2]], [[10 ** 50]], [["a", 1]], [[0, 2]], [[1, 0]], [[0], [2]], [[0], [], [2, 1]], [[0, 1, 3, 2]],
            [[0, 0, 2]], [["a"], [0, 1], [1, 0], [3]]]
