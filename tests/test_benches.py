import itertools
import unittest

from chainhouse.benches import behind, check_bench, is_half, is_joined, joined, members, speakers
from chainhouse.errors import NoBench, NotYet
from things import BENCHES, NO_BENCHES, NO_TUPLES_OF_NAMES, Refusing

PLAIN = tuple(bench for bench in BENCHES if bench[1] == ())
JOINED = tuple(bench for bench in BENCHES if bench[1] != ())


def is_let_by(thing):
    try:
        told = check_bench(thing)
    except NoBench as refusal:
        assert refusal.__class__ is NoBench
        return False
    assert told is None
    return True


def model_rises(names):
    return list(names) == sorted(set(names))


def model_bench(bench):
    """Whether this is a bench, of three tuples of at most three names: by the words of point 7."""
    voters, coming, learners = bench
    if not (model_rises(voters) and model_rises(coming) and model_rises(learners)) or not voters:
        return False
    return not set(learners) & set(coming if coming else voters)


def some_names(letters, most):
    return [names for many in range(most + 1) for names in itertools.product(letters, repeat=many)]


class Benches(Refusing):
    def test_benches_are_let_by(self):
        for bench in BENCHES:
            with self.subTest(bench):
                self.assertIsNone(check_bench(bench))

    def test_what_is_no_bench_is_refused(self):
        for number, thing in enumerate(NO_BENCHES):
            with self.subTest(number=number):
                self.refuses(NoBench, check_bench, thing)

    def test_every_bench_of_a_few_names_and_every_unlike_thing(self):
        for bench in itertools.product(some_names("abc", 3), repeat=3):
            self.assertIs(is_let_by(bench), model_bench(bench), bench)

    def test_how_many(self):
        names = tuple("abcdefghi")
        others = tuple("nopqrstuv")
        learners = tuple("xyz") + ("za", "zb", "zc")
        for voters, coming, learning in itertools.product(range(10), range(10), range(7)):
            bench = (names[:voters], others[:coming], learners[:learning])
            self.assertIs(is_let_by(bench), 1 <= voters <= 7 and coming <= 7 and learning <= 4, bench)

    def test_a_learner_among_the_voters(self):
        self.refuses(NoBench, check_bench, (("a", "b"), (), ("b",)))
        self.assertIsNone(check_bench((("a", "b"), ("a",), ("b",))))
        self.refuses(NoBench, check_bench, (("a", "b"), ("a",), ("a",)))

    def test_what_is_looked_at_is_not_changed(self):
        thing = [["b", "a"], [], [["c"]]]
        self.refuses(NoBench, check_bench, thing)
        self.refuses(NoBench, check_bench, (thing, thing, thing))
        self.assertEqual(thing, [["b", "a"], [], [["c"]]])


class Told(unittest.TestCase):
    def test_speakers_and_members(self):
        cases = (
            ((("a",), (), ()), ("a",), ("a",)),
            ((("b",), (), ("a",)), ("b",), ("a", "b")),
            ((("b", "c"), ("a", "c", "d"), ()), ("a", "b", "c", "d"), ("a", "b", "c", "d")),
            ((("b", "d"), ("a", "d"), ("b", "c")), ("a", "b", "d"), ("a", "b", "c", "d")),
            ((("aa", "b"), ("a", "ab"), ("ba",)), ("a", "aa", "ab", "b"), ("a", "aa", "ab", "b", "ba")),
        )
        for bench, speaking, all_of_them in cases:
            with self.subTest(bench):
                self.assertEqual(speakers(bench), speaking)
                self.assertEqual(members(bench), all_of_them)

    def test_each_once_and_rising_for_every_bench(self):
        for bench in BENCHES:
            for told, names in ((speakers(bench), bench[0] + bench[1]), (members(bench), sum(bench, ()))):
                self.assertIs(type(told), tuple)
                self.assertEqual(list(told), sorted(set(names)))

    def test_joined_and_plain(self):
        for bench in PLAIN:
            self.assertIs(is_joined(bench), False)
        for bench in JOINED:
            self.assertIs(is_joined(bench), True)
        self.assertIs(is_joined((("a",), (), ("b",))), False)


class MoreThanHalf(unittest.TestCase):
    def test_plain_benches_at_the_very_half_and_one_beyond(self):
        for many in range(1, 8):
            voters = tuple("abcdefg"[:many])
            bench = (voters, (), ("x", "y"))
            for yes in range(many + 1):
                for names in itertools.combinations(voters, yes):
                    self.assertIs(is_half(bench, names), yes > many / 2, (bench, names))

    def test_even_benches(self):
        bench = (("a", "b", "c", "d"), (), ())
        self.assertIs(is_half(bench, ("a", "b")), False)
        self.assertIs(is_half(bench, ("a", "b", "d")), True)

    def test_none(self):
        for bench in BENCHES:
            self.assertIs(is_half(bench, ()), False)
            self.assertIs(is_half(bench, speakers(bench)), True)

    def test_names_told_twice_count_once(self):
        bench = (("a", "b", "c"), (), ())
        self.assertIs(is_half(bench, ("a", "a")), False)
        self.assertIs(is_half(bench, ("a", "a", "a", "a")), False)
        self.assertIs(is_half(bench, ("a", "b", "a")), True)

    def test_names_of_none_and_of_learners_count_nothing(self):
        bench = (("a", "b", "c"), (), ("d", "e"))
        self.assertIs(is_half(bench, ("d", "e", "x", "y", "z")), False)
        self.assertIs(is_half(bench, ("a", "d", "e")), False)
        self.assertIs(is_half(bench, ("x", "c", "b")), True)

    def test_in_whatever_order_and_kind_they_are_told(self):
        bench = (("a", "b", "c"), (), ())
        self.assertIs(is_half(bench, ("c", "a")), True)
        self.assertIs(is_half(bench, ["c", "a"]), True)
        self.assertIs(is_half(bench, ["c"]), False)

    def test_joined_benches_where_one_side_lacks(self):
        bench = (("a", "b", "c"), ("c", "d", "e"), ())
        self.assertIs(is_half(bench, ("a", "b")), False)
        self.assertIs(is_half(bench, ("d", "e")), False)
        self.assertIs(is_half(bench, ("a", "c")), False)
        self.assertIs(is_half(bench, ("a", "b", "c")), False)
        self.assertIs(is_half(bench, ("a", "c", "d")), True)
        self.assertIs(is_half(bench, ("a", "b", "d", "e")), True)
        self.assertIs(is_half((("a",), ("b",), ("a",)), ("a",)), False)
        self.assertIs(is_half((("a",), ("b",), ("a",)), ("b",)), False)

    def test_every_joined_bench_of_a_few_names(self):
        sides = [side for many in range(1, 5) for side in itertools.combinations("abcd", many)]
        for voters, coming in itertools.product(sides, repeat=2):
            for names in itertools.chain([()], sides):
                enough = all(2 * len(set(side) & set(names)) > len(side) for side in (voters, coming))
                self.assertIs(is_half((voters, coming, ()), names), enough, (voters, coming, names))


class Changes(Refusing):
    def test_a_plain_bench_is_joined_first(self):
        bench = (("a", "b"), (), ("z",))
        self.assertEqual(joined(bench, ("b", "c"), ("d",)), (("a", "b"), ("b", "c"), ("d",)))
        self.assertEqual(joined(bench, ("z",), ()), (("a", "b"), ("z",), ()))
        self.assertEqual(joined(bench, ("c",), ("a", "b")), (("a", "b"), ("c",), ("a", "b")))
        self.assertEqual(joined(bench, tuple("cdefghi"), tuple("wxyz")), (("a", "b"), tuple("cdefghi"), tuple("wxyz")))

    def test_to_the_same_voters(self):
        bench = (("a", "b"), (), ())
        self.assertEqual(joined(bench, ("a", "b"), ("c",)), (("a", "b"), ("a", "b"), ("c",)))
        self.assertEqual(joined(bench, ("a", "b"), ()), (("a", "b"), ("a", "b"), ()))

    def test_the_one_that_is_changed_stays(self):
        bench = (("a", "b"), (), ("c",))
        joined(bench, ("c",), ())
        self.assertEqual(bench, (("a", "b"), (), ("c",)))

    def test_behind_a_joined_one_comes_the_plain_one(self):
        self.assertEqual(behind((("a", "b"), ("b", "c"), ("d",))), (("b", "c"), (), ("d",)))
        self.assertEqual(behind((("a",), ("b",), ())), (("b",), (), ()))
        self.assertEqual(behind((("a", "b"), ("b",), ("a",))), (("b",), (), ("a",)))

    def test_both_steps_give_benches(self):
        for bench in JOINED:
            plain = behind(bench)
            self.assertIsNone(check_bench(plain))
            self.assertIs(is_joined(plain), False)
            self.assertEqual((plain[0], plain[2]), (bench[1], bench[2]))
            self.assertEqual(behind(joined(plain, ("p", "q"), ("r",))), (("p", "q"), (), ("r",)))

    def test_a_joined_one_is_not_changed_yet(self):
        for bench in JOINED:
            self.refuses(NotYet, joined, bench, ("a",), ("b",))
            self.refuses(NotYet, joined, bench, bench[1], bench[2])

    def test_nothing_is_behind_a_plain_one_yet(self):
        for bench in PLAIN:
            self.refuses(NotYet, behind, bench)

    def test_not_yet_goes_first(self):
        for bench in JOINED:
            self.refuses(NotYet, joined, bench, (), ())
            self.refuses(NotYet, joined, bench, ("b", "a"), ("b",))
            self.refuses(NotYet, joined, bench, None, [])

    def test_other_voters_of_which_there_are_none(self):
        for bench in PLAIN:
            self.refuses(NoBench, joined, bench, (), ())
            self.refuses(NoBench, joined, bench, (), bench[2])
            self.refuses(NoBench, joined, bench, (), ("zz",))

    def test_what_comes_of_it_is_no_bench(self):
        bench = (("a", "b"), (), ())
        for voters, learners in (
            (("c",), ("c",)), (("b", "a"), ()), (("a", "a"), ()), (tuple("abcdefgh"), ()), (("c",), tuple("defgh")),
            (("c",), ("e", "d")), (("C",), ()), (("c",), ("",)), (["c"], ()), (("c",), []), ("c", ()), (("c",), "d"),
        ):
            with self.subTest(voters=voters, learners=learners):
                self.refuses(NoBench, joined, bench, voters, learners)
        for number, part in enumerate(NO_TUPLES_OF_NAMES):
            with self.subTest(number=number):
                self.refuses(NoBench, joined, bench, part, ())
                self.refuses(NoBench, joined, bench, ("x",), part)
