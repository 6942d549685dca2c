import unittest

from chainhouse.rows import Row
from chainhouse.stands import first_stand
from chainhouse.tables import Table
from chainhouse.written import Written, first_written
from things import BENCHES, SIXTY

BENCH = (("a", "b"), (), ())
STAND = (5, 2, BENCH, (("k", 7),), (("ann", 3, 7),))
ENTRIES = ((2, ("ask", "ann", 4, ("add", "k", 1))), (4, ("first",)), (4, ("bench", (("a", "b"), ("c",), ()))))
TUPLES = (
    (0, None, 0, first_stand(BENCH), ()), (4, "b", 7, STAND, ENTRIES), (4, None, 5, STAND, ENTRIES),
    (9, "zz", 8, STAND, ENTRIES), (2, "a", 5, STAND, ()), (SIXTY, "a", SIXTY, (SIXTY, SIXTY, BENCH, (), ()), ()),
    (1, "a", 0, first_stand(BENCH), ((1, ("first",)),)),
)


class Made(unittest.TestCase):
    def test_at_first(self):
        for bench in BENCHES:
            self.assertEqual(first_written(bench).told(), (0, None, 0, (0, 0, bench, (), ()), ()))

    def test_told_as_the_tuple_that_it_was_made_from(self):
        for parts in TUPLES:
            told = Written(parts).told()
            self.assertEqual(told, parts)
            self.assertIs(type(told), tuple)
            self.assertIs(type(told[4]), tuple)
            self.assertEqual(Written(told).told(), parts)

    def test_each_part(self):
        for parts in TUPLES:
            written = Written(parts)
            self.assertEqual((written.term, written.vote, written.settled_place), parts[:3])
            self.assertIsInstance(written.kept_row, Row)
            self.assertEqual((written.kept_row.stand, written.kept_row.entries), parts[3:])

    def test_lists_that_were_handed_in_are_copied(self):
        entries = list(ENTRIES)
        parts = [4, "b", 7, STAND, entries]
        written = Written(parts)
        entries.pop()
        parts[0] = 99
        self.assertEqual(written.told(), TUPLES[1])


class Changed(unittest.TestCase):
    def setUp(self):
        self.written = Written(TUPLES[1])

    def test_a_greater_term_takes_the_vote(self):
        self.written.rise_to(6)
        self.assertEqual(self.written.told(), (6, None, 7, STAND, ENTRIES))

    def test_a_vote(self):
        self.written.rise_to(6)
        self.written.vote_for("c")
        self.assertEqual(self.written.told(), (6, "c", 7, STAND, ENTRIES))

    def test_a_settled_place(self):
        self.written.settle_to(8)
        self.assertEqual(self.written.told(), (4, "b", 8, STAND, ENTRIES))

    def test_another_row(self):
        row = self.written.kept_row.with_entry((4, ("first",)))
        self.written.keep_row(row)
        self.assertEqual(self.written.told(), (4, "b", 7, STAND, ENTRIES + ((4, ("first",)),)))
        self.written.keep_row(row.cut(7, Table((("k", 8),), (("ann", 4, 8),))))
        stand = (7, 4, BENCH, (("k", 8),), (("ann", 4, 8),))
        self.assertEqual(self.written.told(), (4, "b", 7, stand, ENTRIES[2:] + ((4, ("first",)),)))

    def test_what_was_told_is_changed_by_nothing_later(self):
        told, row = self.written.told(), self.written.kept_row
        other = Written(told)
        self.written.rise_to(6)
        self.written.vote_for("c")
        self.written.settle_to(8)
        self.written.keep_row(row.with_entry((6, ("first",))))
        self.assertEqual(told, TUPLES[1])
        self.assertEqual((row.stand, row.entries), (STAND, ENTRIES))
        self.assertEqual(other.told(), TUPLES[1])
        self.assertEqual(self.written.told(), (6, "c", 8, STAND, ENTRIES + ((6, ("first",)),)))

    def test_two_that_were_made_alike_are_two(self):
        one, other = first_written(BENCH), first_written(BENCH)
        one.rise_to(1)
        one.vote_for("a")
        one.keep_row(one.kept_row.with_entry((1, ("first",))))
        one.settle_to(1)
        self.assertEqual(other.told(), TUPLES[0])
        self.assertEqual(one.told(), (1, "a", 1, first_stand(BENCH), ((1, ("first",)),)))
