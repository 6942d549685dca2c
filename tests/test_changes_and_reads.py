"""Points 34 to 36: changes and reads at a chair, with the refusals of each in their order."""

import unittest

from chainhouse.errors import NoBench, NoDeed, NotChair, NotYet
from chainhouse.stands import first_stand
from scenes import AMID, BENCH, ENTRIES, STAND, all_told, alone, ask, asker, chair, fillings, looker, plain
from things import GREAT, NO_NAMES, NO_TUPLES_OF_NAMES, NO_WHOLES, Refusing

OWN = (5, ("first",))
FIVE = (tuple("abcde"), (), ())


def at_first(bench, term=0):
    return (term, None, 0, first_stand(bench), ())


def took(name, yes, place, beat=0, term=5):
    return ("took", name, "a", term, yes, place, beat)


def got(name, place, number, beat=0, term=5):
    return ("got", name, "a", term, place, number, beat)


def rows(name, before, there, entries, settled, beat=0, term=5):
    return ("rows", "a", name, term, before, there, entries, settled, beat)


def settled_chair(**more):
    """A chair that has settled its own first entry, at place 10."""
    house = chair(**more)
    house.hear(took("b", True, 10))
    house.taken_answers()
    return house


class Changes(Refusing):
    def test_the_joined_bench_is_put(self):
        house = settled_chair()
        joined = (BENCH[0], ("a", "c", "d"), ("e",))
        entry = (5, ("bench", joined))
        sent = house.change(("a", "c", "d"), ("e",))
        # b took place 10, c's next is 10 still, d and e are new: their next is the place of this entry.
        self.assertEqual(sent, (
            rows("b", 10, 5, (entry,), 10), rows("c", 9, 4, (OWN, entry), 10), rows("d", 10, 5, (entry,), 10),
            rows("e", 10, 5, (entry,), 10),
        ))
        self.assertEqual(house.row().entries, ENTRIES + (OWN, entry))
        self.assertEqual((house.row().bench(), house.settled()), (joined, 10))
        self.assertEqual(house.journal()[-1], ("put", 5, ("bench", joined)))

    def test_new_members_hold_and_answered_nothing(self):
        house = settled_chair()
        house.read("ann", 1, "k")
        house.change(("d",), ())
        house.hear(took("b", True, 11, 1))
        self.assertEqual((house.settled(), house.taken_reads()), (10, ()))
        house.hear(took("d", True, 11, 0))
        self.assertEqual(house.settled(), 11)

    def test_who_is_no_member_any_more(self):
        house = chair(at_first(BENCH, 4))
        house.hear(took("c", True, 1))
        house.change(("a", "c"), ())
        self.assertEqual([letter[2] for letter in fillings(house)], ["b", "c"])
        sent = house.hear(took("c", True, 2))
        self.assertEqual([letter[2] for letter in sent], ["c"])
        self.assertEqual([letter[2] for letter in fillings(house)], ["c"])
        before = all_told(house)
        for letter in (took("b", True, 3), took("b", False, 1), got("b", 0, 0)):
            self.assertEqual(house.hear(letter), ())
        self.assertEqual(all_told(house), before)

    def test_one_that_goes_and_comes_again_is_new(self):
        house = alone()
        house.change(("a",), ("b",))
        house.hear(took("b", True, 3, 0, 1))
        house.change(("a",), ())
        self.assertEqual((house.settled(), house.turn()), (5, ()))
        house.change(("a",), ("b",))
        self.assertEqual(house.settled(), 7)
        self.assertEqual([letter[4] for letter in fillings(house)], [5])
        self.assertEqual(house.hear(took("b", False, 0, 0, 1))[0][4], 0)

    def test_to_the_same_voters(self):
        house = alone()
        house.change(("a",), ())
        entries = ((1, ("first",)), (1, ("bench", (("a",), ("a",), ()))), (1, ("bench", (("a",), (), ()))))
        self.assertEqual((house.row().entries, house.settled()), (entries, 3))

    def test_no_chair(self):
        for make in (plain, looker, asker):
            house = make()
            before = all_told(house)
            for voters, learners in ((("a",), ()), ((), ()), ([], None), (("b", "a"), ())):
                with self.assertRaises(NotChair) as caught:
                    house.change(voters, learners)
                self.assertIsNone(caught.exception.chair)
            self.assertEqual(all_told(house), before)
        house = plain()
        house.hear(("rows", "c", "a", 4, 9, 4, (), 0, 0))
        with self.assertRaises(NotChair) as caught:
            house.change(("a",), ())
        self.assertEqual(caught.exception.chair, "c")

    def refused_not_yet(self, house):
        before = all_told(house)
        for voters, learners in ((("a",), ()), ((), ()), ([], None), (("b", "a"), ())):
            self.refuses(NotYet, house.change, voters, learners)
        self.assertEqual(all_told(house), before)

    def test_joined_already(self):
        house = settled_chair()
        house.change(("a", "b"), ())
        self.refused_not_yet(house)
        # Joined and settled by a chair ahead; its own first entry is not settled, and then it is.
        bench = (("a",), ("a", "b"), ())
        house = chair((4, None, 7, (7, 4, bench, (), ()), ()), others=("b",))
        self.refused_not_yet(house)

    def test_plain_and_not_settled(self):
        house = chair(at_first(BENCH, 4))
        house.hear(took("b", True, 1))
        house.change(("a", "b"), ())
        house.hear(took("b", True, 2))
        self.assertEqual((house.settled(), house.row().bench()), (2, (("a", "b"), (), ())))
        self.refused_not_yet(house)
        house.hear(took("b", True, 3))
        self.assertEqual(house.settled(), 3)
        self.assertEqual(len(house.change(("a", "c"), ())), 2)

    def test_its_own_term_is_not_settled(self):
        house = chair()
        self.refused_not_yet(house)
        house.ask("ann", 5, ("add", "k", 1))
        house.hear(took("b", True, 9))
        self.refused_not_yet(house)
        house.hear(took("b", True, 10))
        self.assertEqual(len(house.change(("a", "b"), ())), 2)

    def test_no_bench(self):
        house = settled_chair()
        before = all_told(house)
        for names in NO_TUPLES_OF_NAMES:
            self.refuses(NoBench, house.change, names, ())
            self.refuses(NoBench, house.change, ("a",), names)
        for voters, learners in (
            ((), ()), ((), ("a",)), (("a",), ("a",)), (("a", "b"), ("b", "c")), (("a",), tuple("bcdef")),
            (tuple("abcdefgh"), ()),
        ):
            self.refuses(NoBench, house.change, voters, learners)
        self.assertEqual(all_told(house), before)

    def test_learners_that_vote_still(self):
        house = settled_chair()
        house.change(("a", "c"), ("b",))
        self.assertEqual(house.row().bench(), (BENCH[0], ("a", "c"), ("b",)))


class Reads(Refusing):
    def test_sent_with_a_beat_more_and_told(self):
        house = settled_chair()
        sent = house.read("ann", 1, "k")
        self.assertEqual(sent, (rows("b", 10, 5, (), 10, 1), rows("c", 9, 4, (OWN,), 10, 1)))
        self.assertEqual(house.taken_reads(), ())
        self.assertEqual(house.hear(took("c", True, 10, 1)), ())
        self.assertEqual(house.taken_reads(), (("ann", 1, 8, 10),))
        house.hear(took("b", True, 10, 1))
        self.assertEqual(house.taken_reads(), ())
        self.assertEqual(house.row().entries, ENTRIES + (OWN,))

    def test_what_a_key_does_not_hold(self):
        house = settled_chair()
        house.read("ann", 1, "z")
        house.hear(took("c", True, 10, 1))
        self.assertEqual(house.taken_reads(), (("ann", 1, None, 10),))

    def test_alone_at_once(self):
        house = alone()
        house.ask("ann", 1, ("put", "k", 5))
        self.assertEqual(house.read("bob", 7, "k"), ())
        self.assertEqual(house.taken_reads(), (("bob", 7, 5, 2),))

    def test_each_beat_by_itself(self):
        house = settled_chair()
        house.turn()
        for number in (1, 2, 3):
            self.assertEqual(house.read("ann", number, "k")[0][8], number + 1)
        self.assertEqual(house.turn()[0][8], 5)
        for beat, reads in ((1, ()), (0, ()), (3, (("ann", 1, 8, 10), ("ann", 2, 8, 10))), (2, ()), (5, (("ann", 3, 8, 10),))):
            house.hear(took("b", True, 10, beat))
            self.assertEqual(house.taken_reads(), reads)

    def test_a_beat_of_later_counts_for_earlier_reads(self):
        house = settled_chair()
        house.read("ann", 1, "k")
        house.turn()
        house.hear(took("b", True, 0, 2))
        self.assertEqual(house.taken_reads(), (("ann", 1, 8, 10),))

    def test_no_and_got_answer_a_beat_too(self):
        house = settled_chair()
        house.read("ann", 1, "k")
        sent = house.hear(took("b", False, 10, 1))
        self.assertEqual((sent[0][0], house.taken_reads()), ("rows", (("ann", 1, 8, 10),)))
        house.read("ann", 2, "k")
        sent = house.hear(got("b", 5, 0, 2))
        self.assertEqual((sent[0][0], house.taken_reads()), ("rows", (("ann", 2, 8, 10),)))

    def test_answered_never_falls(self):
        house = settled_chair(parts=(4, None, 7, (5, 2, FIVE) + STAND[3:], ENTRIES), others=("b", "c"))
        house.hear(took("c", True, 10))
        house.read("ann", 1, "k")
        house.hear(took("b", True, 10, 1))
        house.hear(took("b", True, 10, 0))
        house.hear(got("b", 5, 0, 0))
        self.assertEqual(house.taken_reads(), ())
        house.hear(took("c", True, 10, 1))
        self.assertEqual(house.taken_reads(), (("ann", 1, 8, 10),))

    def test_what_does_not_answer(self):
        house = settled_chair()
        house.read("ann", 1, "k")
        for letter in (took("d", True, 10, 1), got("d", 5, 0, 1), took("b", True, 10, 1, 4), took("b", True, 10, 0)):
            house.hear(letter)
            self.assertEqual(house.taken_reads(), ())

    def test_a_learner_answers_for_nothing(self):
        house = chair(at_first((("a", "b"), (), ("c",)), 4))
        house.hear(took("b", True, 1))
        house.read("ann", 1, "k")
        house.hear(took("c", True, 1, 1))
        self.assertEqual(house.taken_reads(), ())
        house.hear(took("b", True, 1, 1))
        self.assertEqual(house.taken_reads(), (("ann", 1, None, 1),))

    def test_at_the_very_half_and_one_beyond_of_joined_benches(self):
        house = chair(at_first(BENCH, 4))
        house.hear(took("b", True, 1))
        house.change(tuple("cdef"), ())
        house.read("ann", 1, "k")
        for name in "bde":
            house.hear(took(name, True, 1, 1))
            self.assertEqual(house.taken_reads(), ())
        house.hear(took("f", True, 1, 1))
        self.assertEqual(house.taken_reads(), (("ann", 1, None, 1),))

    def test_at_a_bench_that_has_changed_meanwhile(self):
        # Asked at a bench of three of which one would do; told by the joined one, and then by the plain one.
        house = chair(at_first(BENCH, 4))
        house.hear(took("b", True, 1))
        house.read("ann", 1, "k")
        house.change(("a", "d", "e"), ())
        house.hear(took("b", True, 2, 1))
        self.assertEqual((house.taken_reads(), house.settled()), ((), 1))
        house.hear(took("d", True, 2, 0))
        self.assertEqual((house.taken_reads(), house.settled(), house.row().bench()), ((), 2, (("a", "d", "e"), (), ())))
        house.hear(took("b", True, 3, 1))
        self.assertEqual(house.taken_reads(), ())
        house.hear(took("e", False, 2, 1))
        self.assertEqual(house.taken_reads(), (("ann", 1, None, 2),))

    def test_settled_ahead_of_what_is_told(self):
        # One letter that both settles and answers: it settles first.
        house = settled_chair()
        house.ask("ann", 5, ("add", "k", 1))
        house.read("ann", 1, "k")
        house.hear(took("c", True, 11, 1))
        self.assertEqual(house.taken_reads(), (("ann", 1, 9, 11),))

    def test_amid_cuts(self):
        house = settled_chair()
        house.read("ann", 1, "k")
        house.cut()
        self.assertEqual(house.row().stand[0], 10)
        house.hear(took("c", True, 10, 1))
        self.assertEqual(house.taken_reads(), (("ann", 1, 8, 10),))
        house.cut()
        house.read("ann", 2, "k")
        house.hear(got("c", 10, 0, 2))
        self.assertEqual(house.taken_reads(), (("ann", 2, 8, 10),))

    def test_told_in_the_order_in_which_they_were_asked(self):
        house = settled_chair()
        house.read("zed", 9, "m")
        house.read("ann", 1, "k")
        house.read("zed", 9, "m")
        house.hear(took("c", True, 10, 3))
        self.assertEqual(house.taken_reads(), (("zed", 9, 3, 10), ("ann", 1, 8, 10), ("zed", 9, 3, 10)))

    def test_lost_where_it_ceases_to_be_chair(self):
        house = settled_chair()
        house.read("ann", 1, "k")
        house.hear(("gave", "b", "a", 6, False))
        for _ in range(3):
            house.turn()
        house.hear(("saw", "b", "a", 6, True, 7))
        house.hear(("gave", "b", "a", 7, True))
        house.turn()
        house.turn()
        house.hear(took("b", True, 11, 2, 7))
        self.assertEqual((house.part(), house.taken_reads()), ("chair", ()))

    def test_lost_where_it_settles_a_bench_without_it(self):
        house = chair(at_first((("a", "b"), (), ()), 4))
        house.hear(took("b", True, 1))
        house.change(("b",), ())
        house.hear(took("b", True, 2))
        house.read("ann", 1, "k")
        # This letter would answer the read; but the chair is none any more behind its settling.
        house.hear(took("b", True, 3, 1))
        self.assertEqual((house.part(), house.settled(), house.taken_reads()), ("plain", 3, ()))

    def test_no_read(self):
        for make in (plain, chair, settled_chair, alone):
            house = make()
            before = all_told(house)
            for name in NO_NAMES:
                self.refuses(NoDeed, house.read, name, 1, "k")
                self.refuses(NoDeed, house.read, "ann", 1, name)
            for number in NO_WHOLES + (0, -1, -GREAT):
                self.refuses(NoDeed, house.read, "ann", number, "k")
            self.assertEqual(all_told(house), before)

    def test_no_chair(self):
        for make in (plain, looker, asker):
            house = make()
            before = all_told(house)
            with self.assertRaises(NotChair) as caught:
                house.read("ann", 1, "k")
            self.assertIsNone(caught.exception.chair)
            self.assertEqual(all_told(house), before)
        house = plain()
        house.hear(("rows", "c", "a", 4, 9, 4, (), 0, 0))
        with self.assertRaises(NotChair) as caught:
            house.read("ann", 1, "k")
        self.assertEqual(caught.exception.chair, "c")

    def test_its_own_term_is_not_settled(self):
        house = chair()
        before = all_told(house)
        self.refuses(NotYet, house.read, "ann", 1, "k")
        self.assertEqual(all_told(house), before)
        house.hear(took("b", True, 9))
        self.refuses(NotYet, house.read, "ann", 1, "k")
        house.hear(took("b", True, 10))
        self.assertEqual(len(house.read("ann", 1, "k")), 2)

    def test_the_same_read_again_and_lesser_numbers(self):
        house = alone()
        for number in (3, 3, 1):
            house.read("ann", number, "k")
        self.assertEqual(house.taken_reads(), tuple(("ann", number, None, 1) for number in (3, 3, 1)))


class Journals(unittest.TestCase):
    """Point 45: which records a house's journal has, and which not."""

    def test_votes(self):
        house = plain((4, None, 7, STAND, ENTRIES))
        for letter in (
            ("vote", "c", "a", 4, 8, 4), ("vote", "c", "a", 4, 12, 4), ("vote", "c", "a", 4, 12, 4), ("vote", "b", "a", 4, 99, 9),
            ("vote", "c", "a", 4, 13, 4), ("vote", "b", "a", 6, 9, 4),
        ):
            house.hear(letter)
        self.assertEqual(house.journal(), (("vote", 4, "c", 12, 4), ("vote", 6, "b", 9, 4)))

    def test_its_own_vote(self):
        self.assertEqual(looker().journal(), ())
        self.assertEqual(asker().journal(), (("vote", 5, "a", 9, 4),))
        self.assertEqual(asker(at_first(BENCH)).journal(), (("vote", 1, "a", 0, 0),))

    def test_rows_that_filled(self):
        house = plain()
        more = ((6, ("first",)),)
        house.hear(("rows", "c", "a", 6, 9, 4, more, 3, 5))
        house.hear(("rows", "c", "a", 6, 9, 4, more, 9, 6))
        house.hear(("rows", "c", "a", 6, 10, 6, (), 9, 6))
        house.hear(("rows", "c", "a", 6, 2, 1, (), 9, 6))
        self.assertEqual(house.journal(), (
            ("rows", 6, "c", 9, 4, more), ("rows", 6, "c", 9, 4, more), ("rows", 6, "c", 10, 6, ()), ("rows", 6, "c", 2, 1, ()),
        ))

    def test_rows_that_did_not_fill(self):
        house = plain()
        house.hear(("rows", "c", "a", 3, 9, 4, (), 0, 5))
        house.hear(("rows", "c", "a", 4, 9, 3, (), 0, 5))
        house.hear(("rows", "c", "a", 7, 11, 3, (), 0, 5))
        house.hear(("look", "c", "a", 99, 99, 99))
        house.hear(("took", "c", "a", 7, True, 1, 1))
        house.hear(("got", "c", "a", 8, 1, 1, 1))
        house.turn()
        house.cut()
        self.assertEqual(house.journal(), ())
        house = chair()
        before = house.journal()
        house.hear(("rows", "c", "a", 5, 9, 4, (), 0, 5))
        house.hear(("piece", "c", "a", 5, 6, 4, 0, 1, "x", 5))
        self.assertEqual(house.journal(), before)

    def test_stands(self):
        house = plain()
        text = "stand 20 6\nbench a b c / /"
        house.hear(("piece", "b", "a", 6, 20, 6, 0, 2, text[:15], 0))
        self.assertEqual(house.journal(), ())
        house.hear(("piece", "c", "a", 7, 20, 6, 1, 2, text[15:], 0))
        self.assertEqual(house.journal(), (("stand", 7, "c", 20, 6),))
        self.assertEqual(house.settled(), 20)

    def test_pieces_that_are_answered_with_the_settled_place(self):
        house = plain()
        house.hear(("piece", "b", "a", 6, 7, 3, 0, 2, "x", 0))
        house.hear(("piece", "b", "a", 6, 3, 1, 0, 2, "x", 0))
        house.hear(("piece", "b", "a", 5, 3, 1, 0, 2, "x", 0))
        self.assertEqual(house.journal(), (("rows", 6, "b", 7, 3, ()),) * 2)

    def test_puts(self):
        house = settled_chair()
        house.ask("ann", 5, ("add", "k", 1))
        house.ask("ann", 5, ("add", "k", 1))
        house.hear(took("b", True, 12))
        house.ask("ann", 5, ("add", "k", 1))
        house.change(("a", "b"), ())
        house.read("ann", 1, "k")
        house.turn()
        house.hear(took("b", True, 13))
        self.assertEqual(house.journal(), (
            ("vote", 5, "a", 9, 4), ("put", 5, ("first",)), ("put", 5, ask("ann", 5, "k", 1)), ("put", 5, ask("ann", 5, "k", 1)),
            ("put", 5, ("bench", (BENCH[0], ("a", "b"), ()))), ("put", 5, ("bench", (("a", "b"), (), ()))),
        ))

    def test_it_stays_where_it_falls_and_begins_anew_where_it_comes_up(self):
        house = settled_chair()
        before = house.journal()
        house.fall()
        self.assertEqual(house.journal(), before)
        written = house.writes()
        house.comes_up(written)
        self.assertEqual(house.journal(), ())
        house.comes_up(AMID)
        house.hear(("vote", "c", "a", 6, 99, 9))
        self.assertEqual(house.journal(), (("vote", 6, "c", 99, 9),))
