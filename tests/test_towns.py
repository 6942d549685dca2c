"""Points 37 to 39: what a town is made of, its deeds with their refusals, and what it tells."""

import unittest

from chainhouse.errors import Down, NoBench, NoDeed, NoHouse, NoLetter, NoTown, NotChair, NotYet, Old, Standing
from chainhouse.houses import House
from chainhouse.stands import first_stand
from chainhouse.towns import Town
from storms import told_of
from things import BENCHES, GREAT, NO_BENCHES, NO_NAMES, NO_WHOLES, NO_WORKS, Refusing, deep, deep_tuple

BENCH = (("a", "b", "c"), (), ())
PAIRS = (("a", 2), ("b", 4), ("c", 6), ("d", 8))
ALL = 10 ** 60


def made(bench=BENCH, pairs=PAIRS, size=20):
    return Town(bench, pairs, size)


def with_chair():
    """A town in which a is chair in term 1, its first entry settled at all, and no letter waits."""
    town = made()
    for deed in (("turn", "a"), ("turn", "a"), ("run", ALL), ("turn", "a"), ("run", ALL)):
        town.do(deed)
    return town


def word_of(letter):
    return letter[:3]


class Made(Refusing):
    def test_at_first(self):
        town = made()
        self.assertEqual(town.standing(), ("a", "b", "c", "d"))
        for told in (town.waiting(), town.answers(), town.reads(), town.papers()):
            self.assertEqual(told, ())
        for name in "abcd":
            self.assertEqual(town.written(name), (0, None, 0, first_stand(BENCH), ()))
            self.assertEqual((town.part(name), town.chair_known(name), town.table(name)), ("plain", None, ((), ())))
        self.assertEqual(town.journals(), (("a", ()), ("b", ()), ("c", ()), ("d", ())))

    def test_kinds(self):
        town = with_chair()
        for told in (
            town.standing(), town.waiting(), town.answers(), town.reads(), town.papers(), town.journals(), town.written("a"),
            town.table("a"), town.journals()[0], town.journals()[0][1],
        ):
            self.assertIs(type(told), tuple)

    def test_of_one_up_to_nine_houses(self):
        for many in range(1, 10):
            names = "abcdefghi"[:many]
            town = made((("a",), (), ()), tuple((name, 2) for name in names))
            self.assertEqual(town.standing(), tuple(names))
        self.refuses(NoTown, made, (("a",), (), ()), ())
        self.refuses(NoTown, made, (("a",), (), ()), tuple((name, 2) for name in "abcdefghij"))

    def test_names(self):
        bench = (("a",), (), ())
        for names in (("b", "a"), ("a", "a"), ("a", "b", "b"), ("a", "c", "b")):
            self.refuses(NoTown, made, bench, tuple((name, 2) for name in names))
        for name in NO_NAMES:
            self.refuses(NoTown, made, bench, (("a", 2), (name, 2)))
            self.refuses(NoTown, made, bench, ((name, 2), ("a", 2)))
            self.refuses(NoTown, made, bench, ((name, 2),))

    def test_waits(self):
        bench = (("a",), (), ())
        for wait in (2, 3, 19, 20):
            self.assertEqual(made(bench, (("a", wait), ("b", 2))).standing(), ("a", "b"))
        for wait in NO_WHOLES + (1, 0, -1, -2, 21, 22, GREAT, -GREAT):
            self.refuses(NoTown, made, bench, (("a", wait), ("b", 2)))
            self.refuses(NoTown, made, bench, (("a", 2), ("b", wait)))

    def test_sizes(self):
        for size in (1, 2, 199, 200):
            self.assertEqual(made(size=size).standing(), tuple("abcd"))
        for size in NO_WHOLES + (0, -1, 201, 202, GREAT, -GREAT):
            self.refuses(NoTown, made, BENCH, PAIRS, size)

    def test_members_without_a_house(self):
        for bench in ((("a", "e"), (), ()), (("a",), ("b", "e"), ()), (("a",), (), ("e",)), (("aa",), (), ())):
            self.refuses(NoTown, made, bench)
        for bench in ((("a", "d"), (), ()), (("a",), ("b", "d"), ()), (("a",), (), ("d",)), (tuple("abcd"), (), ())):
            self.assertEqual(made(bench).written("c")[3], first_stand(bench))

    def test_a_bench_that_is_none(self):
        for bench in NO_BENCHES:
            self.refuses(NoTown, made, bench)

    def test_each_bench(self):
        for bench in BENCHES:
            names = sorted(set(bench[0] + bench[1] + bench[2]))
            if len(names) <= 9:
                self.assertEqual(made(bench, tuple((name, 2) for name in names)).standing(), tuple(names))

    def test_lists_and_other_things(self):
        for pairs in (
            list(PAIRS), tuple(list(pair) for pair in PAIRS), (("a", 2, 2),), (("a",),), ("a",), "ab", None, True, 3, (None,),
            ((),), ([],), (("a", 2), None), deep(100000), deep_tuple(100000), (deep_tuple(100000),), ((("a", 2),),), ("ab", "cd"),
        ):
            self.refuses(NoTown, made, (("a",), (), ()), pairs)

    def test_its_houses_are_as_told(self):
        town = made(size=7)
        other = House("b", 4, 7, BENCH)
        for _ in range(3):
            town.do(("turn", "b"))
            other.turn()
        self.assertEqual(town.waiting(), ())
        town.do(("turn", "b"))
        self.assertEqual(town.waiting(), other.turn())


class NoDeeds(Refusing):
    def refused(self, error, *deeds, town=None):
        town = town or with_chair()
        before = told_of(town)
        for number, deed in enumerate(deeds):
            with self.subTest(number=number):
                self.refuses(error, town.do, deed)
        self.assertEqual(told_of(town), before)

    def test_other_things(self):
        self.refused(
            NoDeed, None, True, False, 0, 1, GREAT, "", "turn", "turn a", (), [], ("turn",), (None,), (("turn", "a"),),
            ["turn", "a"], ("Turn", "a"), ("", "a"), (None, "a"), (["turn"], "a"), (("turn",), "a"), (1, "a"), (True, 0),
            deep(100000), deep_tuple(100000), (deep_tuple(100000), "a"), (deep(100000), 1), ("walk", "a"), ("wait", 0),
            ("first",), ("bench", BENCH), ("put", "a", 1),
        )

    def test_a_part_more_or_fewer(self):
        work = ("drop", "k")
        deeds = (
            ("turn", "a"), ("carry", 0), ("lose", 0), ("double", 0), ("run", 0), ("fall", "a"), ("up", "a"), ("cut", "a"),
            ("ask", "a", "ann", 1, work), ("read", "a", "ann", 1, "k"), ("change", "a", ("a",), ()),
        )
        for deed in deeds:
            for part in (None, 0, "a", ()):
                self.refused(NoDeed, deed + (part,))
            self.refused(NoDeed, deed[:-1], list(deed), deed[:1], (deed,), (deed[0].upper(),) + deed[1:])

    def test_numbers_that_are_none(self):
        for number in NO_WHOLES:
            self.refused(NoDeed, *((word, number) for word in ("carry", "lose", "double", "run")))
            self.refused(NoDeed, ("ask", "a", "ann", number, ("drop", "k")), ("read", "a", "ann", number, "k"))

    def test_numbers_below_nought(self):
        for number in (-1, -2, -GREAT):
            self.refused(NoDeed, ("run", number))
            self.refused(NoLetter, ("carry", number), ("lose", number), ("double", number))
        for number in (0, -1, -GREAT):
            self.refused(NoDeed, ("ask", "a", "ann", number, ("drop", "k")), ("read", "a", "ann", number, "k"))

    def test_names_that_are_none(self):
        for name in NO_NAMES:
            self.refused(NoDeed, *((word, name) for word in ("turn", "fall", "up", "cut")))
            self.refused(
                NoDeed, ("ask", name, "ann", 1, ("drop", "k")), ("read", name, "ann", 1, "k"), ("change", name, ("a",), ()),
                ("ask", "a", name, 1, ("drop", "k")), ("read", "a", name, 1, "k"), ("read", "a", "ann", 1, name),
            )

    def test_works_that_are_none(self):
        self.refused(NoDeed, *(("ask", "a", "ann", 1, work) for work in NO_WORKS))

    def test_no_house_s_name(self):
        for name in ("e", "aa", "turn", "abcdefgh"):
            self.refused(NoHouse, *((word, name) for word in ("turn", "fall", "up", "cut")))
            self.refused(
                NoHouse, ("ask", name, "ann", 1, ("drop", "k")), ("read", name, "ann", 1, "k"), ("change", name, ("a",), ()),
                ("change", name, None, 5),
            )

    def test_an_ask_that_is_none_goes_ahead_of_a_name_that_is_no_house_s(self):
        self.refused(NoDeed, ("ask", "e", "ann", 0, ("drop", "k")), ("read", "e", "ann", 1, "K"))
        self.refused(NoDeed, ("ask", "e", "Ann", 1, ("drop", "k")), ("read", "e", "Ann", 1, "k"), ("ask", "e", "ann", 1, ()))

    def test_up_of_one_that_stands(self):
        self.refused(Standing, ("up", "a"), ("up", "d"))

    def test_at_one_that_does_not_stand(self):
        town = with_chair()
        town.do(("fall", "a"))
        self.refused(
            Down, ("turn", "a"), ("fall", "a"), ("cut", "a"), ("ask", "a", "ann", 1, ("drop", "k")),
            ("read", "a", "ann", 1, "k"), ("change", "a", ("a",), ()), ("change", "a", ("z",), ()), ("change", "a", [], 1),
            town=town,
        )
        self.refused(
            NoDeed, ("turn", "A"), ("ask", "a", "ann", 0, ("drop", "k")), ("read", "a", "ann", 1, ""), ("cut", "a", "a"),
            town=town,
        )

    def test_no_such_letter(self):
        town = made()
        self.refused(NoLetter, ("carry", 0), ("lose", 0), ("double", 0), ("carry", GREAT), town=town)
        town.do(("turn", "a"))
        town.do(("turn", "a"))
        self.refused(NoLetter, ("carry", 2), ("lose", 2), ("double", 2), ("lose", -1), ("carry", 10 ** 60), town=town)
        town.do(("carry", 1))

    def test_changes_that_bear_what_is_no_house_s_name(self):
        # At the chair, and at one that would refuse it with NotChair behind it.
        for name in ("a", "b"):
            for names in (("e",), ("a", "e"), ("e", "a"), ("a", ""), (None,), (1,), (True,), ((),), ([],), (("a",),), (deep(9),)):
                self.refused(NoHouse, ("change", name, names, ()), ("change", name, ("a",), names))
                self.refused(NoHouse, ("change", name, names, None), ("change", name, [], names), ("change", name, names, names))
            self.refused(NoHouse, ("change", name, (deep_tuple(100000),), ()), ("change", name, (), (deep(100000), "a")))

    def test_changes_that_the_house_refuses(self):
        for voters, learners in ((["a"], ()), ([], ()), ("a", ()), (None, None), ((), ()), (("b", "a"), ()), (("a",), ["b"])):
            self.refused(NotChair, ("change", "b", voters, learners))
            self.refused(NoBench, ("change", "a", voters, learners))
        self.refused(NoBench, ("change", "a", ("a", "b"), ("b",)), ("change", "a", ("a", "a"), ()), ("change", "a", ("a",), 1))
        self.refused(NoBench, ("change", "a", deep(100000), ()), ("change", "a", ("a",), deep(100000)))
        town = with_chair()
        town.do(("change", "a", ("a", "b"), ()))
        self.refused(NotYet, ("change", "a", ("a",), ()), ("change", "a", [], 1), town=town)
        self.refused(NoHouse, ("change", "a", ("z",), ()), town=town)

    def test_asks_and_reads_that_the_house_refuses(self):
        town = with_chair()
        for name, chair in (("b", "a"), ("c", "a"), ("d", None)):
            for deed in (("ask", name, "ann", 1, ("drop", "k")), ("read", name, "ann", 1, "k"), ("change", name, ("a",), ())):
                with self.assertRaises(NotChair) as caught:
                    town.do(deed)
                self.assertEqual(caught.exception.chair, chair)
        town.do(("ask", "a", "ann", 5, ("add", "k", 1)))
        town.do(("run", ALL))
        self.refused(Old, ("ask", "a", "ann", 4, ("add", "k", 1)), town=town)
        town = made()
        for deed in (("turn", "a"), ("turn", "a"), ("run", 5)):
            town.do(deed)
        while town.part("a") != "chair":
            town.do(("carry", 0))
        self.refused(NotYet, ("read", "a", "ann", 1, "k"), ("change", "a", ("a",), ()), town=town)


class Deeds(Refusing):
    def test_give_nothing_back(self):
        town = with_chair()
        for deed in (
            ("turn", "a"), ("double", 0), ("carry", 0), ("lose", 0), ("run", 2), ("cut", "b"), ("fall", "b"), ("up", "b"),
            ("ask", "a", "ann", 1, ("drop", "k")), ("read", "a", "ann", 1, "k"), ("change", "a", ("a", "d"), ("b",)),
        ):
            self.assertIsNone(town.do(deed))

    def test_a_turn_sends(self):
        town = made()
        town.do(("turn", "a"))
        self.assertEqual(town.waiting(), ())
        town.do(("turn", "a"))
        self.assertEqual(town.waiting(), (("look", "a", "b", 1, 0, 0), ("look", "a", "c", 1, 0, 0)))
        self.assertEqual((town.part("a"), town.part("b")), ("looker", "plain"))

    def test_carried(self):
        town = made()
        town.do(("turn", "a"))
        town.do(("turn", "a"))
        town.do(("carry", 1))
        self.assertEqual(town.waiting(), (("look", "a", "b", 1, 0, 0), ("saw", "c", "a", 0, True, 1)))
        town.do(("carry", 1))
        self.assertEqual([word_of(letter) for letter in town.waiting()], [("look", "a", "b"), ("vote", "a", "b"), ("vote", "a", "c")])
        self.assertEqual(town.written("a")[:2], (1, "a"))

    def test_lost_and_doubled(self):
        town = made()
        town.do(("turn", "a"))
        town.do(("turn", "a"))
        before = town.waiting()
        town.do(("double", 0))
        self.assertEqual(town.waiting(), before + before[:1])
        town.do(("lose", 1))
        self.assertEqual(town.waiting(), before[:1] * 2)
        town.do(("lose", 0))
        town.do(("lose", 0))
        self.assertEqual((town.waiting(), town.part("a")), ((), "looker"))

    def test_run(self):
        town, other = made(), made()
        for each in (town, other):
            each.do(("turn", "a"))
            each.do(("turn", "a"))
        for many in (0, 1, 3, 2):
            town.do(("run", many))
            for _ in range(many):
                other.do(("carry", 0))
            self.assertEqual(told_of(town), told_of(other))
        town.do(("run", ALL))
        while other.waiting():
            other.do(("carry", 0))
        self.assertEqual(told_of(town), told_of(other))
        self.assertEqual((town.part("a"), town.chair_known("c")), ("chair", "a"))
        town.do(("run", 7))
        self.assertEqual(told_of(town), told_of(other))

    def test_letters_to_a_house_that_is_down_are_gone(self):
        town = made()
        town.do(("turn", "a"))
        town.do(("turn", "a"))
        town.do(("fall", "b"))
        town.do(("carry", 0))
        self.assertEqual(town.waiting(), (("look", "a", "c", 1, 0, 0),))
        town.do(("up", "b"))
        town.do(("run", ALL))
        self.assertEqual((town.part("a"), town.chair_known("b"), town.chair_known("c")), ("chair", "a", "a"))

    def test_letters_to_a_house_that_came_up_meanwhile_are_heard(self):
        town = made()
        town.do(("turn", "a"))
        town.do(("turn", "a"))
        town.do(("fall", "b"))
        town.do(("up", "b"))
        town.do(("carry", 0))
        self.assertEqual(town.waiting()[-1], ("saw", "b", "a", 0, True, 1))

    def test_letters_that_a_fallen_house_sent_stay(self):
        town = made()
        town.do(("turn", "a"))
        town.do(("turn", "a"))
        town.do(("fall", "a"))
        self.assertEqual(len(town.waiting()), 2)
        town.do(("run", 2))
        self.assertEqual(town.waiting(), (("saw", "b", "a", 0, True, 1), ("saw", "c", "a", 0, True, 1)))
        town.do(("run", 1))
        town.do(("up", "a"))
        town.do(("run", ALL))
        self.assertEqual((town.part("a"), town.written("a")[0]), ("plain", 0))

    def test_what_is_told_of_a_house_that_is_down(self):
        town = with_chair()
        town.do(("ask", "a", "ann", 1, ("put", "k", 5)))
        town.do(("run", ALL))
        written, journal = town.written("a"), town.journals()
        town.do(("fall", "a"))
        self.assertEqual(town.standing(), ("b", "c", "d"))
        for _ in range(2):
            self.assertEqual((town.part("a"), town.chair_known("a"), town.written("a")), ("plain", None, written))
            self.assertEqual(town.table("a"), ((("k", 5),), (("ann", 1, None),)))
            self.assertEqual(town.journals(), journal)
            if "a" not in town.standing():
                town.do(("up", "a"))
        self.assertEqual(town.standing(), ("a", "b", "c", "d"))

    def test_cut(self):
        town = with_chair()
        town.do(("ask", "a", "ann", 1, ("put", "k", 5)))
        town.do(("run", ALL))
        town.do(("cut", "a"))
        self.assertEqual(town.written("a")[3:], ((2, 1, BENCH, (("k", 5),), (("ann", 1, None),)), ()))
        self.assertEqual(town.waiting(), ())

    def test_change(self):
        town = with_chair()
        town.do(("change", "a", ("a", "d"), ("b",)))
        self.assertEqual([word_of(letter) for letter in town.waiting()], [("rows", "a", "b"), ("rows", "a", "c"), ("rows", "a", "d")])
        town.do(("run", ALL))
        town.do(("turn", "a"))
        town.do(("run", ALL))
        self.assertEqual(town.written("d")[4][-1], (1, ("bench", (("a", "d"), (), ("b",)))))
        self.assertEqual(town.written("d")[2], 3)

    def test_names_in_a_change_are_of_the_town_s_houses(self):
        town = with_chair()
        self.refuses(NoHouse, town.do, ("change", "a", ("a", "e"), ()))
        town.do(("change", "a", ("a", "d"), ()))


class Told(unittest.TestCase):
    def test_answers_and_reads_in_the_order_of_their_coming(self):
        town = with_chair()
        town.do(("ask", "a", "zed", 1, ("put", "k", 5)))
        town.do(("ask", "a", "ann", 1, ("add", "k", 5)))
        self.assertEqual(town.answers(), ())
        town.do(("run", ALL))
        self.assertEqual(town.answers(), (("a", "zed", 1, None), ("a", "ann", 1, 10)))
        town.do(("read", "a", "zed", 9, "k"))
        town.do(("read", "a", "ann", 2, "m"))
        self.assertEqual(town.reads(), ())
        town.do(("run", ALL))
        self.assertEqual(town.reads(), (("a", "zed", 9, 10, 3), ("a", "ann", 2, None, 3)))
        # c knows no chair any more where it comes up: so it says yes to b's look.
        for deed in (("fall", "a"), ("fall", "c"), ("up", "c")) + (("turn", "b"),) * 4:
            town.do(deed)
        town.do(("run", ALL))
        town.do(("turn", "b"))
        town.do(("run", ALL))
        self.assertEqual(town.part("b"), "chair")
        town.do(("ask", "b", "ann", 1, ("add", "k", 5)))
        town.do(("ask", "b", "ann", 2, ("drop", "k")))
        town.do(("run", ALL))
        self.assertEqual(town.answers()[2:], (("b", "ann", 1, 10), ("b", "ann", 2, 10)))
        town.do(("read", "b", "ann", 3, "k"))
        town.do(("run", ALL))
        self.assertEqual(town.reads()[2:], (("b", "ann", 3, None, 5),))

    def test_papers_in_the_order_of_their_coming(self):
        town = with_chair()
        # c knows no chair any more where it comes up: so it says yes to b's look.
        for deed in (("fall", "a"), ("fall", "c"), ("up", "c")) + (("turn", "b"),) * 4:
            town.do(deed)
        town.do(("run", ALL))
        self.assertEqual(town.papers(), (
            ("chair", 1, "a", BENCH, ("a", "b")),
            ("settled", 1, "a", 1, ((1, ("first",)),), BENCH, ("a", "b")),
            ("chair", 2, "b", BENCH, ("b", "c")),
            ("settled", 2, "b", 2, ((2, ("first",)),), BENCH, ("b", "c")),
        ))

    def test_journals(self):
        town = with_chair()
        first = ((1, ("first",)),)
        self.assertEqual(town.journals(), (
            ("a", (("vote", 1, "a", 0, 0), ("put", 1, ("first",)))),
            ("b", (("vote", 1, "a", 0, 0), ("rows", 1, "a", 0, 0, first), ("rows", 1, "a", 1, 1, ()))),
            ("c", (("vote", 1, "a", 0, 0), ("rows", 1, "a", 0, 0, first), ("rows", 1, "a", 1, 1, ()))),
            ("d", ()),
        ))

    def test_what_was_told_stays(self):
        town = with_chair()
        before, copy = told_of(town), repr(told_of(town))
        for deed in (("ask", "a", "ann", 1, ("put", "k", 5)), ("run", ALL), ("cut", "a"), ("fall", "b"), ("turn", "a")):
            town.do(deed)
        self.assertEqual(repr(before), copy)
        self.assertNotEqual(told_of(town), before)

    def test_a_twin_stands_as_it_does(self):
        town = with_chair()
        for deed in (
            ("ask", "a", "bob", 1, ("put", "k", 5)), ("read", "a", "bob", 2, "k"), ("run", ALL),
            ("ask", "a", "ann", 1, ("put", "k", 5)), ("fall", "c"), ("carry", 0),
        ):
            town.do(deed)
        twin = town.twin()
        self.assertEqual((len(twin.answers()), len(twin.reads()), len(twin.waiting())), (1, 1, 2))
        self.assertEqual(told_of(twin), told_of(town))
        for deed in (
            ("run", ALL), ("read", "a", "ann", 2, "k"), ("up", "c"), ("turn", "a"), ("double", 1), ("run", 3), ("cut", "a"),
            ("change", "a", ("a", "d"), ()), ("run", 9), ("fall", "a"), ("run", ALL),
        ):
            town.do(deed)
            twin.do(deed)
            self.assertEqual(told_of(twin), told_of(town))

    def test_a_twin_and_its_town_are_apart(self):
        town = with_chair()
        town.do(("ask", "a", "ann", 1, ("put", "k", 5)))
        before = told_of(town)
        twin = town.twin()
        deeds = (("fall", "c"), ("run", ALL), ("read", "a", "ann", 2, "k"), ("run", ALL), ("cut", "a"), ("turn", "a"), ("lose", 0))
        for deed in deeds:
            twin.do(deed)
        self.assertEqual(told_of(town), before)
        after = told_of(twin)
        other = town.twin()
        for deed in deeds:
            town.do(deed)
        self.assertEqual((told_of(town), told_of(twin), told_of(other)), (after, after, before))
        self.assertEqual((len(twin.answers()), len(twin.reads())), (1, 1))
