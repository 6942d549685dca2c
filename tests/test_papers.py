"""Points 40 to 42: papers looked over one by one, what they show, and the first that doesn't hold."""

import unittest

from chainhouse.errors import NoPaper
from chainhouse.papers import look_over
from chainhouse.towns import Town
from things import GREAT, NO_BENCHES, NO_ENTRIES, NO_NAMES, NO_TUPLES_OF_NAMES, NO_WHOLES, deep, deep_tuple

BENCH = (("a", "b", "c"), (), ())
JOINED = (("a", "b", "c"), ("c", "d"), ("e",))
PLAIN = (("c", "d"), (), ("e",))


def ask(number):
    return ("ask", "ann", number, ("add", "k", 1))


FIRST, SECOND, THIRD = (1, ("first",)), (1, ask(1)), (1, ask(2))
LATER, LAST = (3, ("first",)), (3, ask(3))


def chair(term, name, bench=BENCH, yes=("a", "b")):
    return ("chair", term, name, bench, yes)


def settled(term, name, place, entries, bench=BENCH, holders=("a", "c")):
    return ("settled", term, name, place, entries, bench, holders)


PAPERS = (
    chair(1, "a"), settled(1, "a", 1, (FIRST,)), settled(1, "a", 3, (SECOND, THIRD)),
    chair(3, "b", yes=("b", "c")), settled(3, "b", 4, (LATER,)), settled(3, "b", 5, (LAST,)),
)
ROW = (FIRST, SECOND, THIRD, LATER, LAST)


class Overlooked(unittest.TestCase):
    def refused(self, number, papers, bench=BENCH):
        with self.assertRaises(NoPaper) as caught:
            look_over(bench, papers)
        self.assertIs(caught.exception.__class__, NoPaper)
        self.assertEqual(caught.exception.number, number)


class Held(Overlooked):
    def test_the_row_that_they_show(self):
        for many, entries in ((0, 0), (1, 0), (2, 1), (3, 3), (4, 3), (5, 4), (6, 5)):
            shown = look_over(BENCH, PAPERS[:many])
            self.assertEqual(shown, ROW[:entries])
            self.assertIs(type(shown), tuple)

    def test_papers_told_again(self):
        papers = PAPERS + (PAPERS[1], PAPERS[2], PAPERS[5], PAPERS[4])
        self.assertEqual(look_over(BENCH, papers), ROW)
        self.refused(6, PAPERS + PAPERS[:1])

    def test_entries_from_further_ahead_on(self):
        papers = PAPERS[:4] + (settled(3, "b", 4, ROW[:4]), settled(3, "b", 5, ROW[2:5]), settled(3, "b", 5, ROW))
        self.assertEqual(look_over(BENCH, papers), ROW)

    def test_fewer_places_than_are_shown(self):
        self.assertEqual(look_over(BENCH, PAPERS + (settled(1, "a", 2, (SECOND,)), settled(1, "a", 3, ROW[:3]))), ROW)

    def test_a_chair_that_settles_behind_a_later_one(self):
        self.assertEqual(look_over(BENCH, PAPERS + (settled(1, "a", 3, (THIRD,)),)), ROW)

    def test_what_is_handed_in_stays(self):
        papers = PAPERS + (chair(3, "c"),)
        before = repr(papers)
        self.refused(6, papers)
        self.assertEqual(repr(papers), before)

    def test_no_papers(self):
        self.assertEqual(look_over(BENCH, ()), ())


class Shapes(Overlooked):
    def spoilt(self, number, place, things):
        for thing in things:
            paper = PAPERS[number]
            self.refused(number, PAPERS[:number] + (paper[:place] + (thing,) + paper[place + 1:],) + PAPERS[number + 1:])

    def test_other_things(self):
        for thing in (
            None, True, 0, GREAT, "", "chair", (), [], ("chair",), ("settled",), (None,), deep(100000), deep_tuple(100000),
            (deep_tuple(100000),) * 5, (deep(100000),) * 7, (["chair"], 1, "a", BENCH, ("a", "b")), list(PAPERS[0]),
            list(PAPERS[1]), PAPERS[0][:4], PAPERS[1][:6], PAPERS[0] + (None,), PAPERS[1] + (None,), ("Chair",) + PAPERS[0][1:],
            ("settled",) + PAPERS[0][1:], ("chair",) + PAPERS[1][1:], (None,) + PAPERS[1][1:], PAPERS[:1], ((PAPERS[0],),),
        ):
            self.refused(0, (thing,) + PAPERS)
            self.refused(6, PAPERS + (thing,))

    def test_terms(self):
        for number in range(6):
            self.spoilt(number, 1, NO_WHOLES + (0, -1, -GREAT))
        self.assertEqual(look_over(BENCH, (chair(GREAT, "a"),)), ())

    def test_names(self):
        for number in range(6):
            self.spoilt(number, 2, NO_NAMES)

    def test_places(self):
        for number in (1, 2, 4, 5):
            self.spoilt(number, 3, NO_WHOLES + (0, -1, -GREAT, GREAT))

    def test_entries(self):
        for number in (1, 2, 4, 5):
            entries = PAPERS[number][4]
            self.spoilt(number, 4, ((), [], None, "", True, 1, list(entries), entries[0], (entries,), deep(100000)))
        for place in (1, 3, 5):
            self.refused(6, PAPERS + (settled(1, "a", place, ()),))
            self.refused(6, PAPERS + (settled(3, "b", place, ()),))
        for entry in NO_ENTRIES:
            self.refused(1, PAPERS[:1] + (settled(1, "a", 1, (entry,)),))
            self.refused(2, PAPERS[:2] + (settled(1, "a", 3, (entry, THIRD)),))

    def test_benches(self):
        for bench in NO_BENCHES:
            self.refused(0, (chair(1, "a", bench),))
            self.refused(1, PAPERS[:1] + (settled(1, "a", 1, (FIRST,), bench),))

    def test_yes_and_holders(self):
        # Of names a paper may bear more than a bench may.
        for names in NO_TUPLES_OF_NAMES + (("b", "a"), ("a", "a", "b"), ["a", "b"], ("a", "b", "B")):
            if names != tuple("abcdefgh") and names != tuple("abcdefghi"):
                self.refused(0, (chair(1, "a", BENCH, names),))
                self.refused(1, PAPERS[:1] + (settled(1, "a", 1, (FIRST,), BENCH, names),))

    def test_truths_are_no_terms_nor_places(self):
        self.refused(0, (chair(True, "a"),))
        self.refused(1, (chair(1, "a"), settled(1, "a", True, (FIRST,))))
        self.refused(1, (chair(1, "a"), settled(1, "a", 1, ((True, ("first",)),))))


class Chairs(Overlooked):
    def test_a_chair_twice_in_a_term(self):
        for name in "abz":
            self.refused(1, (chair(1, "a"), chair(1, name)))
        self.refused(6, PAPERS + (chair(1, "c"),))
        self.assertEqual(look_over(BENCH, PAPERS + (chair(2, "c"), chair(4, "a"))), ROW)

    def test_the_very_half_and_one_beyond(self):
        for voters, few, enough in (
            ("a", (), ("a",)), ("ab", ("a",), ("a", "b")), ("abc", ("b",), ("b", "c")), ("abcd", ("a", "d"), ("a", "c", "d")),
            ("abcde", ("a", "d"), ("a", "d", "e")),
        ):
            bench = (tuple(voters), (), ())
            self.refused(0, (chair(1, "a", bench, few),), bench)
            self.refused(0, (chair(1, "a", bench, few + ("x", "y", "z")),), bench)
            self.assertEqual(look_over(bench, (chair(1, "a", bench, enough),)), ())
            self.assertEqual(look_over(bench, (chair(1, "a", bench, enough + ("z",)),)), ())
            self.refused(1, (chair(1, "a", bench, enough), settled(1, "a", 1, (FIRST,), bench, few)), bench)
            self.assertEqual(look_over(bench, (chair(1, "a", bench, enough), settled(1, "a", 1, (FIRST,), bench, enough))), (FIRST,))

    def test_of_joined_benches(self):
        for yes in (("a", "b"), ("a", "c"), ("c", "d"), ("b", "d"), ()):
            self.refused(0, (chair(1, "a", JOINED, yes),))
        for yes in (("a", "c", "d"), ("a", "b", "c", "d"), ("b", "c", "d")):
            self.assertEqual(look_over(BENCH, (chair(1, "a", JOINED, yes),)), ())

    def test_a_settled_paper_is_of_a_chair_of_its_term(self):
        self.refused(0, (settled(1, "a", 1, (FIRST,)),))
        self.refused(1, (chair(1, "a"), settled(1, "b", 1, (FIRST,))))
        self.refused(1, (chair(2, "a"), settled(1, "a", 1, (FIRST,))))
        self.refused(0, (settled(1, "a", 1, (FIRST,)), chair(1, "a")))


class Benches(Overlooked):
    def test_known_ones(self):
        papers = (
            chair(1, "c", JOINED, ("a", "c", "d")), settled(1, "c", 1, (FIRST,), PLAIN, ("c", "d")),
            settled(1, "c", 2, (SECOND,), BENCH), settled(1, "c", 3, (THIRD,), JOINED, ("a", "c", "d")),
            chair(3, "d", PLAIN, ("c", "d")), settled(3, "d", 4, (LATER,), PLAIN, ("c", "d")),
        )
        self.assertEqual(look_over(BENCH, papers), ROW[:4])

    def test_one_step_and_two_steps(self):
        self.assertEqual(look_over(BENCH, (chair(1, "a", JOINED, ("a", "c", "d")),)), ())
        self.refused(0, (chair(1, "a", PLAIN, ("c", "d")),))
        self.assertEqual(look_over(JOINED, (chair(1, "a", PLAIN, ("c", "d")),)), ())
        beyond = (("c", "d"), ("a",), ())
        self.refused(0, (chair(1, "a", beyond, ("a", "c", "d")),), JOINED)
        self.assertEqual(look_over(JOINED, (chair(1, "a", PLAIN, ("c", "d")), chair(2, "a", beyond, ("a", "c", "d")))), ())

    def test_joined_from_others(self):
        for bench in ((("a", "b"), ("c", "d"), ()), (("a", "b", "d"), ("c",), ()), (("c", "d"), ("a", "b", "c"), ())):
            self.refused(0, (chair(1, "a", bench, ("a", "b", "c", "d")),))
        # A joined bench is changed by nothing but the plain one behind it.
        for bench in ((JOINED[0], ("a",), ()), (JOINED[1], (), ()), BENCH, (JOINED[1], (), ("a",)), (JOINED[0], ("c", "d"), ())):
            self.refused(0, (chair(1, "a", bench, ("a", "b", "c", "d")),), JOINED)

    def test_another_plain_one(self):
        for bench in ((("a", "b"), (), ()), (("a", "b", "c"), (), ("d",)), (("a", "b", "c", "d"), (), ())):
            self.refused(0, (chair(1, "a", bench, ("a", "b", "c", "d")),))

    def test_one_of_a_paper_that_is_refused_counts_not(self):
        self.refused(0, (chair(1, "a", JOINED, ("a",)), chair(1, "a", PLAIN, ("c", "d"))))

    def test_settled_with_a_bench_that_is_not_known(self):
        self.refused(1, PAPERS[:1] + (settled(1, "a", 1, (FIRST,), PLAIN, ("c", "d")),))
        self.assertEqual(look_over(BENCH, PAPERS[:1] + (settled(1, "a", 1, (FIRST,), JOINED, ("a", "c", "d")),)), (FIRST,))


class Settled(Overlooked):
    def test_entries_that_stand_otherwise(self):
        other = (1, ask(9))
        for entries in ((other, THIRD, LATER), (SECOND, other, LATER)):
            self.refused(4, PAPERS[:4] + (settled(3, "b", 4, entries),))
        self.refused(4, PAPERS[:4] + (settled(3, "b", 3, (LATER,)),))
        self.refused(3, PAPERS[:3] + (settled(1, "a", 3, (other,)),))
        self.refused(3, PAPERS[:3] + (settled(1, "a", 2, (THIRD,)),))

    def test_a_gap(self):
        self.refused(1, PAPERS[:1] + (settled(1, "a", 2, (FIRST,)),))
        self.refused(3, PAPERS[:3] + (settled(1, "a", 5, (FIRST,)),))
        self.refused(3, PAPERS[:3] + (settled(1, "a", GREAT, (FIRST,)),))

    def test_ahead_of_the_first_place(self):
        self.refused(1, PAPERS[:1] + (settled(1, "a", 1, (FIRST, FIRST)),))
        self.refused(3, PAPERS[:3] + (settled(1, "a", 2, (FIRST, FIRST, SECOND)),))

    def test_the_last_entry_is_of_another_term(self):
        self.refused(4, PAPERS[:4] + (settled(3, "b", 4, ((1, ask(3)),)),))
        self.refused(1, PAPERS[:1] + (settled(1, "a", 1, (LATER,)),))
        self.refused(4, PAPERS[:4] + (settled(3, "b", 3, (THIRD,)),))
        self.assertEqual(look_over(BENCH, PAPERS[:4] + (settled(3, "b", 5, ((1, ask(3)), LAST)),)), ROW[:3] + ((1, ask(3)), LAST))

    def test_the_first_that_does_not_hold(self):
        papers = PAPERS[:2] + (None,) + PAPERS[2:] + (None,)
        self.refused(2, papers)
        self.refused(1, (PAPERS[0], PAPERS[2], PAPERS[1]))


class OfATown(Overlooked):
    def test_its_own(self):
        town = Town(BENCH, (("a", 2), ("b", 3), ("c", 4), ("d", 5)), 9)
        for deed in (
            ("turn", "a"), ("turn", "a"), ("run", 99), ("ask", "a", "ann", 1, ("put", "k", 1)), ("run", 99),
            ("change", "a", ("b", "d"), ("a",)), ("run", 99),
        ):
            town.do(deed)
        shown = look_over(BENCH, town.papers())
        self.assertEqual(shown, town.written("d")[4])
        self.assertEqual([entry[1][0] for entry in shown], ["first", "ask", "bench", "bench"])
        for number in range(len(town.papers())):
            papers = town.papers()
            if papers[number][0] == "chair" or number < len(papers) - 1:
                with self.assertRaises(NoPaper):
                    look_over(BENCH, papers[:number] + papers[number + 1:])
