import itertools
import unittest

from chainhouse.rows import Row, is_entry
from chainhouse.tables import Table
from things import BENCHES, ENTRIES, GREAT, NO_BENCHES, NO_DEEDS, NO_ENTRIES, NO_WHOLES, NO_WORKS, SIXTY, WORKS

A = (("a",), (), ())
AB = (("a", "b"), (), ())
ABC = (("a",), ("b", "c"), ())
FIRST = (0, 0, A, (), ())
LATER = (5, 2, AB, (("k", 7),), (("ann", 3, 7),))
FAR = (SIXTY, 9, AB, (("k", -SIXTY),), (("ann", SIXTY, None),))
STANDS = (FIRST, LATER, FAR)


def asks(asker, terms):
    """Entries with these terms, whose deeds tell who made them and which they are."""
    return tuple((term, ("ask", asker, number, ("add", "k", 1))) for number, term in enumerate(terms, start=1))


def some_terms(most, longest):
    return [terms for many in range(longest + 1) for terms in itertools.product(range(1, most + 1), repeat=many)]


def model_filled(stand, entries, before, there, further):
    """Point 13 word by word, over a dict of places; None where the row is unlike."""
    row = {stand[0] + number: entry for number, entry in enumerate(entries, start=1)}
    terms = {place: entry[0] for place, entry in row.items()} | {stand[0]: stand[1]}
    if before >= stand[0] and terms.get(before) != there:
        return None
    news = {before + number: entry for number, entry in enumerate(further, start=1)}
    unlike = [place for place in sorted(news) if place > stand[0] and terms.get(place) != news[place][0]]
    if unlike:
        row = {place: entry for place, entry in row.items() if place < unlike[0]}
        row.update({place: entry for place, entry in news.items() if place >= unlike[0]})
    return tuple(row[place] for place in sorted(row))


class Entries(unittest.TestCase):
    def test_entries_are(self):
        for number, entry in enumerate(ENTRIES):
            with self.subTest(number=number):
                self.assertIs(is_entry(entry), True)

    def test_other_things_are_not(self):
        for number, thing in enumerate(NO_ENTRIES):
            with self.subTest(number=number):
                self.assertIs(is_entry(thing), False)

    def test_each_deed(self):
        self.assertIs(is_entry((1, ("first",))), True)
        self.assertIs(is_entry((1, ("ask", "ann", 1, ("drop", "k")))), True)
        self.assertIs(is_entry((1, ("bench", ABC))), True)

    def test_terms(self):
        for term in (1, 2, SIXTY, GREAT):
            self.assertIs(is_entry((term, ("first",))), True)
        for term in (0, -1, -SIXTY, -GREAT) + NO_WHOLES:
            self.assertIs(is_entry((term, ("first",))), False)
            self.assertIs(is_entry((term, ("bench", A))), False)

    def test_works_within(self):
        for work in WORKS:
            self.assertIs(is_entry((3, ("ask", "ann", 2, work))), True)
        for number, work in enumerate(NO_WORKS):
            with self.subTest(number=number):
                self.assertIs(is_entry((3, ("ask", "ann", 2, work))), False)

    def test_benches_within(self):
        for bench in BENCHES:
            self.assertIs(is_entry((3, ("bench", bench))), True)
        for number, bench in enumerate(NO_BENCHES):
            with self.subTest(number=number):
                self.assertIs(is_entry((3, ("bench", bench))), False)

    def test_deeds_that_are_none_and_deeds_by_themselves(self):
        for number, deed in enumerate(NO_DEEDS):
            with self.subTest(number=number):
                self.assertIs(is_entry((7, deed)), False)
        for entry in ENTRIES:
            self.assertIs(is_entry(entry[1]), False)
            self.assertIs(is_entry(list(entry)), False)
            self.assertIs(is_entry((entry[0], list(entry[1]))), False)

    def test_what_is_looked_at_is_not_changed(self):
        thing = [1, ["bench", [["a"], [], []]]]
        self.assertIs(is_entry(thing), False)
        self.assertIs(is_entry((1, thing)), False)
        self.assertEqual(thing, [1, ["bench", [["a"], [], []]]])


class Places(unittest.TestCase):
    def test_without_entries(self):
        for stand in STANDS:
            row = Row(stand, ())
            self.assertEqual((row.last_place(), row.last_term()), (stand[0], stand[1]))
            self.assertEqual(row.term_at(stand[0]), stand[1])
            self.assertIsNone(row.term_at(stand[0] + 1))
            self.assertIsNone(row.term_at(stand[0] - 1))
            self.assertEqual(row.behind(stand[0]), ())
            self.assertEqual(row.bench(), stand[2])

    def test_with_entries(self):
        for stand in STANDS:
            entries = asks("ann", (10, 10, 12))
            row = Row(stand, entries)
            place = stand[0]
            self.assertEqual((row.last_place(), row.last_term()), (place + 3, 12))
            terms = [row.term_at(place + number) for number in range(-2, 6)]
            self.assertEqual(terms, [None, None, stand[1], 10, 10, 12, None, None])
            self.assertEqual([row.entry_at(place + number) for number in (1, 2, 3)], list(entries))
            self.assertEqual([row.behind(place + number) for number in range(6)],
                             [entries, entries[1:], entries[2:], (), (), ()])

    def test_the_last_term_is_the_last_entry_s(self):
        self.assertEqual(Row(LATER, asks("ann", (2, 3, 8))).last_term(), 8)
        self.assertEqual(Row(FIRST, asks("ann", (1,))).last_term(), 1)

    def test_any_other_whole_number_has_no_term(self):
        for stand in STANDS:
            row = Row(stand, asks("ann", (10, 11)))
            for place in (-1, -2, -3, -SIXTY, -GREAT, GREAT, SIXTY + 3, stand[0] + 3, stand[0] - 1):
                self.assertIsNone(row.term_at(place))
        self.assertIsNone(Row(LATER, asks("ann", (10, 11))).term_at(0))

    def test_far_behind(self):
        for place in (3, 100, SIXTY):
            self.assertEqual(Row(FIRST, asks("ann", (1, 1, 1))).behind(place), ())

    def test_kinds(self):
        row = Row(LATER, asks("ann", (3, 3)))
        self.assertIs(type(row.entries), tuple)
        self.assertIs(type(row.behind(5)), tuple)
        self.assertIs(type(row.behind(9)), tuple)
        self.assertEqual((row.stand, row.entries), (LATER, asks("ann", (3, 3))))

    def test_a_list_that_was_handed_in_is_copied(self):
        entries = list(asks("ann", (3, 3)))
        row = Row(LATER, entries)
        entries.append((4, ("first",)))
        self.assertEqual(row.entries, asks("ann", (3, 3)))
        further = list(asks("bob", (4, 4)))
        filled = row.filled(7, 3, further)
        further.clear()
        self.assertEqual(filled.entries, asks("ann", (3, 3)) + asks("bob", (4, 4)))


class BenchesOfPlaces(unittest.TestCase):
    def test_the_last_one_up_to_the_place(self):
        entries = (
            (1, ("first",)), (1, ("bench", AB)), (1, ("ask", "a", 1, ("drop", "k"))), (2, ("bench", ABC)),
            (2, ("bench", A)), (3, ("first",)),
        )
        for stand in STANDS:
            row = Row(stand, entries)
            told = [row.bench_at(stand[0] + number) for number in range(9)]
            self.assertEqual(told, [stand[2], stand[2], AB, AB, ABC, A, A, A, A])
            self.assertEqual(row.bench_at(GREAT), A)
            self.assertEqual(row.bench(), A)
            self.assertEqual(Row(stand, entries[:4]).bench(), ABC)
            self.assertEqual(Row(stand, entries[:2]).bench(), AB)
            self.assertEqual(Row(stand, entries[:1]).bench(), stand[2])

    def test_no_entry_tells_one(self):
        row = Row(LATER, asks("bench", (3, 3)))
        self.assertEqual([row.bench_at(place) for place in (5, 6, 7, 8)], [AB] * 4)
        self.assertEqual(row.bench(), AB)


class BenchPlaces(unittest.TestCase):
    def test_where_the_row_s_bench_came(self):
        stand = (5, 2, BENCHES[0], (), ())
        first, bench = (3, ("first",)), (3, ("bench", BENCHES[1]))
        for entries, place in (
            ((), 5), ((first,), 5), ((bench,), 6), ((first, bench), 7), ((bench, first), 6), ((bench, first, bench, first), 8),
        ):
            self.assertEqual(Row(stand, entries).bench_place(), place)


class Between(unittest.TestCase):
    def test_entries_beyond_one_place_up_to_another(self):
        entries = tuple((3, ("ask", "ann", number, ("drop", "k"))) for number in range(1, 5))
        row = Row((5, 2, BENCHES[0], (), ()), entries)
        for before in range(5, 10):
            for place in range(before, 10):
                self.assertEqual(row.between(before, place), entries[before - 5:place - 5])


class Behind(unittest.TestCase):
    def test_same_term(self):
        for row in (Row(LATER, ()), Row((3, 1, A, (), ()), asks("ann", (1, 2)))):
            self.assertIs(row.is_behind(4, 2), False)
            self.assertIs(row.is_behind(5, 2), False)
            self.assertIs(row.is_behind(6, 2), True)

    def test_the_term_goes_first(self):
        row = Row(LATER, asks("ann", (4,)))
        for place in (0, 1, 6, 7, SIXTY):
            self.assertIs(row.is_behind(place, 3), False)
            self.assertIs(row.is_behind(place, 5), True)

    def test_at_the_beginning(self):
        row = Row(FIRST, ())
        self.assertIs(row.is_behind(0, 0), False)
        self.assertIs(row.is_behind(1, 0), True)
        self.assertIs(row.is_behind(0, 1), True)

    def test_of_two_rows_one_at_least_is_not_behind(self):
        rows = [Row(FIRST, asks("ann", terms)) for terms in some_terms(2, 3)]
        for one, other in itertools.product(rows, repeat=2):
            ends = (one.last_term(), one.last_place()), (other.last_term(), other.last_place())
            self.assertIs(one.is_behind(other.last_place(), other.last_term()), ends[0] < ends[1])


class Filled(unittest.TestCase):
    def test_every_short_row_with_every_short_filling(self):
        for stand in (FIRST, (2, 2, AB, (), ())):
            for terms, further in itertools.product(some_terms(3, 3), some_terms(3, 2)):
                entries, news = asks("ann", terms), asks("bob", further)
                row = Row(stand, entries)
                for before, there in itertools.product(range(7), range(4)):
                    filled = row.filled(before, there, news)
                    told = None if filled is None else filled.entries
                    self.assertEqual(told, model_filled(stand, entries, before, there, news), (terms, further, before))
                    self.assertTrue(filled is None or filled.stand == stand)
                self.assertEqual((row.stand, row.entries), (stand, entries))

    def test_unlike(self):
        row = Row(LATER, asks("ann", (3, 4)))
        for before, there in ((5, 3), (5, 0), (6, 2), (6, 4), (7, 3), (7, 5), (8, 4), (8, 0), (100, 4), (SIXTY, 1)):
            for further in ((), asks("bob", (4,)), asks("bob", (3, 4, 4))):
                self.assertIsNone(row.filled(before, there, further))

    def test_like(self):
        row = Row(LATER, asks("ann", (3, 4)))
        for before, there in ((5, 2), (6, 3), (7, 4)):
            filled = row.filled(before, there, ())
            self.assertIsInstance(filled, Row)
            self.assertEqual((filled.stand, filled.entries), (LATER, asks("ann", (3, 4))))

    def test_a_place_below_the_stand_s(self):
        row = Row(LATER, asks("ann", (3, 4)))
        for there in (0, 1, 2, 99):
            for many in range(3):
                filled = row.filled(3, there, asks("bob", (1,) * many))
                self.assertEqual(filled.entries, asks("ann", (3, 4)))
            further = asks("bob", (9, 9, 3, 4, 5))
            self.assertEqual(row.filled(3, there, further).entries, asks("ann", (3, 4)) + further[4:])
            further = asks("bob", (9, 9, 9))
            self.assertEqual(row.filled(3, there, further).entries, further[2:])
        self.assertEqual(row.filled(0, 0, asks("bob", (1, 1, 1, 1, 1))).entries, asks("ann", (3, 4)))

    def test_entries_that_are_there_are_passed_over(self):
        row = Row(FIRST, asks("ann", (1, 1, 2)))
        filled = row.filled(0, 0, asks("bob", (1, 1, 2, 3)))
        self.assertEqual(filled.entries, asks("ann", (1, 1, 2)) + asks("bob", (1, 1, 2, 3))[3:])

    def test_fewer_entries_than_the_row_has_cut_nothing(self):
        entries = asks("ann", (1, 1, 2, 3))
        row = Row(FIRST, entries)
        for many in range(5):
            self.assertEqual(row.filled(0, 0, entries[:many]).entries, entries)
            self.assertEqual(row.filled(0, 0, asks("bob", (1, 1, 2, 3)[:many])).entries, entries)
        self.assertEqual(row.filled(2, 1, ()).entries, entries)

    def test_from_the_first_that_differs_by_its_term_on_the_row_is_cut(self):
        row = Row(FIRST, asks("ann", (1, 1, 2, 2)))
        further = asks("bob", (1, 3, 3))
        self.assertEqual(row.filled(0, 0, further).entries, asks("ann", (1,)) + further[1:])
        self.assertEqual(row.filled(2, 1, asks("bob", (3,))).entries, asks("ann", (1, 1)) + asks("bob", (3,)))
        # Behind the first that differs all are put, also those that have the term of what was there.
        further = asks("bob", (3, 1, 2, 2))
        self.assertEqual(row.filled(0, 0, further).entries, further)

    def test_beyond_the_end(self):
        for stand in STANDS:
            row = Row(stand, asks("ann", (10, 10)))
            further = asks("bob", (11, 11, 12))
            filled = row.filled(stand[0] + 2, 10, further)
            self.assertEqual((filled.stand, filled.entries), (stand, asks("ann", (10, 10)) + further))
            self.assertEqual(Row(stand, ()).filled(stand[0], stand[1], further).entries, further)

    def test_piece_by_piece_and_at_once(self):
        whole = asks("bob", (1, 1, 2, 3, 3, 5))
        for terms in ((), (1,), (1, 1, 2), (1, 2, 2, 2), (4,) * 8, (1, 1, 2, 3, 3, 4)):
            row = Row(FIRST, asks("ann", terms))
            at_once = row.filled(0, 0, whole)
            for first, second in itertools.combinations_with_replacement(range(7), 2):
                filled = row
                for start, end in ((0, first), (first, second), (second, 6)):
                    filled = filled.filled(start, whole[start - 1][0] if start else 0, whole[start:end])
                self.assertEqual(filled.entries, at_once.entries)

    def test_late_and_doubled_fillings(self):
        whole = asks("bob", (1, 1, 2, 3))
        row = Row(FIRST, ()).filled(0, 0, whole)
        for start, end in itertools.combinations_with_replacement(range(5), 2):
            late = row.filled(start, whole[start - 1][0] if start else 0, whole[start:end])
            self.assertEqual(late.entries, whole)

    def test_lists_of_entries(self):
        row = Row(LATER, asks("ann", (3, 4)))
        self.assertEqual(row.filled(5, 2, list(asks("bob", (3, 5)))).entries, row.filled(5, 2, asks("bob", (3, 5))).entries)


class Cut(unittest.TestCase):
    ENTRIES = (
        (3, ("first",)), (3, ("bench", ABC)), (3, ("ask", "bob", 1, ("put", "k", 4))), (4, ("bench", A)),
    )
    TABLE = Table((("k", 4), ("l", 0)), (("ann", 3, 7), ("bob", 1, 7)))

    def test_at_each_place(self):
        held, asked = self.TABLE.told()
        for stand in STANDS:
            row = Row(stand, self.ENTRIES)
            benches = (stand[2], stand[2], ABC, ABC, A)
            terms = (stand[1], 3, 3, 3, 4)
            for number in range(5):
                cut = row.cut(stand[0] + number, self.TABLE)
                self.assertEqual(cut.stand, (stand[0] + number, terms[number], benches[number], held, asked))
                self.assertEqual(cut.entries, self.ENTRIES[number:])
                self.assertEqual((cut.last_place(), cut.last_term()), (row.last_place(), row.last_term()))
                self.assertEqual(cut.bench(), A)

    def test_at_the_stand_s_place_with_its_table_nothing_is_changed(self):
        for stand in STANDS:
            cut = Row(stand, self.ENTRIES).cut(stand[0], Table(stand[3], stand[4]))
            self.assertEqual((cut.stand, cut.entries), (stand, self.ENTRIES))

    def test_what_is_left_is_told_as_before(self):
        row = Row(LATER, self.ENTRIES)
        for place in range(5, 10):
            cut = row.cut(place, self.TABLE)
            for further in range(place, 11):
                self.assertEqual(cut.term_at(further), row.term_at(further))
                self.assertEqual(cut.bench_at(further), row.bench_at(further))
                self.assertEqual(cut.behind(further), row.behind(further))
            self.assertIsNone(cut.term_at(place - 1))

    def test_filled_behind_it(self):
        row = Row(LATER, self.ENTRIES)
        cut = row.cut(7, self.TABLE)
        further = asks("bob", (5, 5))
        self.assertEqual(cut.filled(9, 4, further).entries, self.ENTRIES[2:] + further)
        self.assertEqual(cut.filled(7, 3, further).entries, further)
        self.assertIsNone(cut.filled(7, 4, further))
        # What comes for places that are cut is passed over, whatever its term.
        self.assertEqual(cut.filled(5, 2, self.ENTRIES + further).entries, self.ENTRIES[2:] + further)
        self.assertEqual(cut.filled(6, 99, asks("bob", (98,))).entries, self.ENTRIES[2:])
        whole = row.cut(9, self.TABLE)
        self.assertEqual(whole.filled(9, 4, further).entries, further)
        self.assertEqual(whole.filled(5, 2, self.ENTRIES).entries, ())

    def test_the_table_stays_its_own(self):
        table = self.TABLE.twin()
        cut = Row(LATER, self.ENTRIES).cut(6, table)
        self.assertEqual(table.told(), self.TABLE.told())
        table.does("zoe", 1, ("put", "k", 99))
        self.assertEqual(cut.stand[3:], self.TABLE.told())

    def test_cut_twice(self):
        row = Row(FIRST, self.ENTRIES)
        once = row.cut(3, self.TABLE)
        twice = row.cut(1, Table((), ())).cut(2, Table((), ())).cut(3, self.TABLE)
        self.assertEqual((twice.stand, twice.entries), (once.stand, once.entries))


class NeverChanged(unittest.TestCase):
    def test_with_entry(self):
        for stand in STANDS:
            row = Row(stand, ())
            one = row.with_entry((10, ("first",)))
            two = one.with_entry((11, ("bench", ABC)))
            self.assertEqual((row.stand, row.entries), (stand, ()))
            self.assertEqual((one.stand, one.entries), (stand, ((10, ("first",)),)))
            self.assertEqual((two.stand, two.entries), (stand, ((10, ("first",)), (11, ("bench", ABC)))))
            self.assertEqual((two.last_place(), two.last_term(), two.bench()), (stand[0] + 2, 11, ABC))

    def test_whatever_is_made_of_it(self):
        entries = asks("ann", (3, 3, 4))
        row = Row(LATER, entries)
        made = [
            row.with_entry((5, ("first",))), row.filled(5, 2, asks("bob", (9,))), row.filled(8, 4, asks("bob", (9,))),
            row.filled(5, 2, ()), row.filled(6, 1, ()), row.cut(7, Table((), ())), row.cut(5, Table((), ())),
        ]
        for other in made:
            if other is not None:
                other.with_entry((9, ("first",))).filled(5, 2, asks("bob", (7, 7)))
        self.assertEqual((row.stand, row.entries), (LATER, entries))
        self.assertEqual([other and other.last_place() for other in made], [9, 6, 9, 8, None, 8, 8])

    def test_six_hundred_entries(self):
        row = Row(FIRST, ())
        for number in range(600):
            row = row.with_entry((1 + number // 100, ("ask", "ann", number + 1, ("add", "k", 1))))
        self.assertEqual((row.last_place(), row.last_term(), row.bench()), (600, 6, A))
        self.assertEqual(Row(FIRST, ()).filled(0, 0, row.entries).entries, row.entries)
        self.assertEqual(row.filled(600, 6, asks("bob", (7,))).last_place(), 601)
