"""Things of kinds that are neither rows, words nor renamings, for the tests of wrong inputs."""


class Odd:
    """An object of no kind that the program knows."""


def odd_things():
    """Things that are no texts and no lists, made anew for each asker."""
    return [None, True, False, 0, 1, -1, 10 ** 50, (), ("a",), ("a", "b"), {}, {"a": "b"}, {"a"}, frozenset(),
            b"", b"a", bytearray(b"a"), range(2), Odd(), Odd, len]


def odd_lists():
    return [[], ["a"], [[]], [["a"]], [("a", "b")], [None]]
