"""What several tests share: things that are such and things that are not, and how a refusal is asked for."""

import unittest


class Refusing(unittest.TestCase):
    def refuses(self, error, call, *args):
        """The call is refused with just this class, none under it."""
        with self.assertRaises(error) as caught:
            call(*args)
        self.assertIs(caught.exception.__class__, error)


def deep(many):
    """A list within a list, and so on, so many times."""
    thing = []
    for _ in range(many):
        thing = [thing]
    return thing


def deep_tuple(many):
    thing = ()
    for _ in range(many):
        thing = (thing,)
    return thing


NO_NAMES = (
    "", "abcdefghi", "a" * 100, "A", "aB", "Ab", "ABC", "a1", "1", "0", "a b", " a", "a ", " ", "\n", "a\n", "\na",
    "a\nb", "a\t", "a-b", "a_b", "-", "~", "{", "`", "a.b", "/", "\u00e9", "a\u00e9", "\u00df", "\u0430", "\uff41",
    None, True, False, 0, 1, -1, (), [], ("a",), ["a"], ("a", "b"), [["a"]], (None,), deep(50), deep(100000),
    deep_tuple(50), deep_tuple(100000),
)

NO_WHOLES = (
    True, False, None, "", "1", "a", (), [], (1,), [1], deep(50), deep(100000), deep_tuple(50), deep_tuple(100000),
)

SIXTY = 10 ** 60 - 1
GREAT = 10 ** 5000

WORKS = (
    ("put", "a", 1), ("put", "a", 0), ("put", "a", -1), ("put", "abcdefgh", SIXTY), ("put", "z", -SIXTY),
    ("add", "a", 1), ("add", "a", 0), ("add", "a", -1), ("add", "abcdefgh", SIXTY), ("add", "z", -SIXTY),
    ("drop", "a"), ("drop", "abcdefgh"), ("drop", "put"), ("put", "drop", 1), ("add", "add", 1),
)
NO_WORKS = (
    (), ("put",), ("add",), ("drop",), ("put", "a"), ("add", "a"), ("drop", "a", 1), ("drop", "a", None),
    ("put", "a", 1, 1), ("add", "a", 1, 2), ("put", "a", 1, None), ("drop", "a", "b"), ("a", 1), ("a",),
    ("Put", "a", 1), ("put ", "a", 1), ("pu", "a", 1), ("puts", "a", 1), ("", "a", 1), ("take", "a", 1),
    ("take", "a"), (None, "a", 1), (True, "a", 1), (0, "a", 1), (("put",), "a", 1), (["put"], "a", 1),
    (deep(100000), "a", 1), (deep(100000), "a"), ("DROP", "a"), ("dro", "a"),
    ("put", 1, "a"), ("put", "a", "1"), ("put", "a", None), ("add", "a", None), ("put", "a", ""),
    ("put", "a", (1,)), ("put", "a", [1]), ("add", "a", (1,)),
    ("put", "a", True), ("put", "a", False), ("add", "a", True), ("add", "a", False),
    ("put", "a", SIXTY + 1), ("put", "a", -SIXTY - 1), ("add", "a", SIXTY + 1), ("add", "a", -SIXTY - 1),
    ("put", "a", 10 ** 100), ("add", "a", -10 ** 5000),
    ["put", "a", 1], ["add", "a", 1], ["drop", "a"], (("put", "a", 1),), [("put", "a", 1)],
    ("put", ("a", 1)), ("put", ["a", 1]),
    "put", "put a 1", "drop", "da", "", None, True, False, 0, 1, [], deep(50), deep(100000),
)

# Benches at every edge of point 7, and what is none in every way that it names; other tests spoil what holds a bench.
BENCHES = (
    (("a",), (), ()), (("a", "b"), (), ()), (("a", "b", "c"), (), ()), (("abcdefgh",), (), ("abcdefgi",)),
    (tuple("abcdefg"), (), ()), (tuple("abcdefg"), (), tuple("hijk")), (("b",), (), ("a",)),
    (("a",), ("b",), ()), (("a",), ("a",), ()), (("a", "b"), ("b", "c"), ("d",)), (("b", "c"), ("a", "b"), ("d",)),
    (tuple("abcdefg"), tuple("abcdefg"), ()), (tuple("abcdefg"), tuple("hijklmn"), tuple("opqr")),
    (("a",), tuple("tuvwxyz"), tuple("bcde")), (("a", "b"), ("b",), ("a",)), (tuple("abcdefg"), ("z",), tuple("abcd")),
    (("a", "aa", "ab", "b"), (), ()), (("aa", "b"), ("a", "b"), ("ab",)),
)

NO_TUPLES_OF_NAMES = (
    [], ["a"], ["a", "b"], "", "a", "ab", None, True, False, 0, 1, -1, GREAT, -GREAT, deep(50), deep(100000),
    deep_tuple(50), deep_tuple(100000), ("a", deep_tuple(100000)),
    ("b", "a"), ("a", "a"), ("a", "b", "b"), ("a", "c", "b"), ("aa", "a"), ("b", "aa"), (("a",),), (["a"],), ((),), ([],),
    ("a", ("b",)), ("a", ["b"]), ("a", None), (None, "a"), ("a", 1), (1, 2), (True,), ("a", False), (GREAT,),
    ("a", deep(100000)), (deep(100000),),
    ("abcdefghi",), ("",), ("a", ""), ("", "a"), ("A",), ("A", "b"), ("aB",), ("a1",), ("1",), ("a b",), ("a\n",),
    ("\u00e9",), tuple("abcdefgh"), tuple("hgfedcba"), tuple("abcdefghi"),
)

NO_BENCHES = tuple(
    bench for part in NO_TUPLES_OF_NAMES for bench in
    ((part, (), ()), (("a",), part, ()), (("a",), (), part), (part, ("y",), ("z",)), (("x",), part, ("z",)),
     (("x",), ("y",), part), part)
) + (
    [("a",), (), ()], [("a",), ("b",), ()], [["a"], [], []], (["a"], (), ()), (("a",), [], ()), (("a",), (), []),
    (), (("a",),), (("a",), ()), (("a",), ("b",)), (("a",), (), (), ()), (("a",), ("b",), ("c",), ()),
    (("a",), (), (), None), ("a", "b", "c"), ("a", (), ()), ((("a",), (), ()),), (None, None, None),
    ((), (), ()), ((), ("a",), ()), ((), (), ("a",)), ((), ("a",), ("b",)),
    (tuple("abcdefgh"), (), ()), (tuple("abcdefgh"), ("z",), ()), (("a",), tuple("abcdefgh"), ()),
    (("z",), (), tuple("abcde")), (("z",), ("y",), tuple("abcde")), (tuple("abcdefg"), tuple("abcdefgh"), ()),
    (("a",), (), ("a",)), (("a", "b"), (), ("b",)), (("a", "b"), (), ("a", "b")), (("b", "c"), (), ("a", "c")),
    (("a",), ("b",), ("b",)), (("a", "b"), ("b", "c"), ("a", "c")), (("a",), ("b", "c"), ("b", "d")),
    (("a",), ("a",), ("a",)),
)

ENTRIES = tuple(
    (term, deed)
    for term in (1, 2, 10 ** 60, GREAT)
    for deed in (("first",),) + tuple(("ask", "ann", number, WORKS[0]) for number in (1, 2, 10 ** 60, GREAT))
    + tuple(("ask", "abcdefgh", 7, work) for work in WORKS) + tuple(("bench", bench) for bench in BENCHES)
)

NO_DEEDS = (
    (), "first", "", "bench", None, True, False, 0, 1, GREAT, [], ["first"], deep(50), deep(100000), (("first",),),
    deep_tuple(50), deep_tuple(100000), (deep_tuple(100000), 1),
    ("first", None), ("first", ()), ("First",), ("",), (None,), (True,), (deep(100000),), ("last",), ("first", "first"),
    ("ask",), ("ask", "a"), ("ask", "a", 1), ("ask", "a", 1, ("drop", "a"), None), ("ask", ("a", 1, ("drop", "a"))),
    ["ask", "a", 1, ("drop", "a")], ("Ask", "a", 1, ("drop", "a")), ("a", 1, ("drop", "a")),
    ("ask", 1, "a", ("drop", "a")), ("ask", "a", "1", ("drop", "a")), ("ask", "a", None, ("drop", "a")),
    ("ask", "a", 0, ("drop", "a")), ("ask", "a", -1, ("drop", "a")), ("ask", "a", True, ("drop", "a")),
    ("ask", "a", -GREAT, ("drop", "a")), ("put", "a", 1), ("drop", "a"),
    ("bench",), ("bench", (("a",), (), ()), None), ("bench", ("a",), (), ()), ["bench", (("a",), (), ())],
    (("a",), (), ()), ("Bench", (("a",), (), ())), ("first", (("a",), (), ())), ("bench", "a"),
) + tuple(("ask", "a", 1, work) for work in NO_WORKS) + tuple(
    ("ask", name, 1, ("drop", "a")) for name in NO_NAMES
) + tuple(("bench", bench) for bench in NO_BENCHES)

NO_ENTRIES = tuple((1, deed) for deed in NO_DEEDS) + (
    (), (1,), (("first",),), (("first",), 1), (1, ("first",), None), (1, 1, ("first",)), [1, ("first",)],
    ((1, ("first",)),), [(1, ("first",))], (1, "first"), "first", "", None, True, False, 0, 1, GREAT, [],
    (0, ("first",)), (-1, ("first",)), (-GREAT, ("first",)), (True, ("first",)), (False, ("first",)),
    (None, ("first",)), ("1", ("first",)), ("", ("first",)), ((1,), ("first",)), ([1], ("first",)),
    (deep(100000), ("first",)), deep(50), deep(100000), deep_tuple(100000), (deep_tuple(100000), ("first",)),
    (0, ("bench", BENCHES[0])), (0, ("ask", "a", 1, WORKS[0])),
)
