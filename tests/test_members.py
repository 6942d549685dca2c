import unittest

from chainhouse.members import Members
from things import SIXTY

BENCH = (("a", "b", "c"), (), ("d",))


def noted(place=8):
    notes = Members("b")
    notes.note_bench(BENCH, place)
    return notes


class AtFirst(unittest.TestCase):
    def test_nothing_is_noted_ahead_of_a_bench(self):
        notes = Members("b")
        self.assertEqual((notes.told(), notes.names()), ((), ()))
        self.assertEqual((notes.holders(0), notes.answerers(0)), (("b",), ("b",)))

    def test_each_other_member_is_noted(self):
        self.assertEqual(noted().told(), (("a", 8, 0, 0, 0), ("c", 8, 0, 0, 0), ("d", 8, 0, 0, 0)))
        self.assertEqual(noted(1).told(), (("a", 1, 0, 0, 0), ("c", 1, 0, 0, 0), ("d", 1, 0, 0, 0)))
        self.assertEqual(noted().names(), ("a", "c", "d"))

    def test_a_joined_bench(self):
        notes = Members("b")
        notes.note_bench((("b", "d"), ("c", "d"), ("a", "b")), 3)
        self.assertEqual(notes.told(), (("a", 3, 0, 0, 0), ("c", 3, 0, 0, 0), ("d", 3, 0, 0, 0)))

    def test_a_house_by_itself(self):
        notes = Members("b")
        notes.note_bench((("b",), (), ()), 3)
        self.assertEqual(notes.told(), ())
        self.assertEqual((notes.holders(SIXTY), notes.answerers(SIXTY)), (("b",), ("b",)))

    def test_a_house_that_is_no_member_itself(self):
        notes = Members("z")
        notes.note_bench(BENCH, 3)
        self.assertEqual(notes.names(), ("a", "b", "c", "d"))
        self.assertEqual(notes.holders(0), ("a", "b", "c", "d", "z"))

    def test_who_is_noted(self):
        notes = noted()
        for name in ("a", "c", "d"):
            self.assertIs(notes.is_noted(name), True)
            self.assertEqual((notes.next_of(name), notes.lacking_of(name)), (8, 0))
        for name in ("b", "e", "aa"):
            self.assertIs(notes.is_noted(name), False)

    def test_none_holds_nor_answered_beyond_nought(self):
        notes = noted()
        self.assertEqual((notes.holders(0), notes.answerers(0)), (("a", "b", "c", "d"),) * 2)
        self.assertEqual((notes.holders(1), notes.answerers(1)), (("b",),) * 2)


class Took(unittest.TestCase):
    def test_yes_beyond_what_was_noted(self):
        notes = noted()
        self.assertIsNone(notes.took("a", True, 11, 0))
        self.assertEqual(notes.told(), (("a", 12, 11, 0, 0), ("c", 8, 0, 0, 0), ("d", 8, 0, 0, 0)))

    def test_yes_below_what_was_noted(self):
        notes = noted()
        notes.took("a", True, 5, 0)
        self.assertEqual(notes.told()[0], ("a", 8, 5, 0, 0))
        notes.took("a", True, 3, 0)
        self.assertEqual(notes.told()[0], ("a", 8, 5, 0, 0))
        notes.took("a", True, 7, 0)
        self.assertEqual(notes.told()[0], ("a", 8, 7, 0, 0))
        notes.took("a", True, 8, 0)
        self.assertEqual(notes.told()[0], ("a", 9, 8, 0, 0))
        notes.took("a", True, 0, 0)
        self.assertEqual(notes.told()[0], ("a", 9, 8, 0, 0))

    def test_no_below_what_was_noted(self):
        notes = noted()
        self.assertIsNone(notes.took("c", False, 2, 0))
        self.assertEqual(notes.told(), (("a", 8, 0, 0, 0), ("c", 3, 0, 0, 0), ("d", 8, 0, 0, 0)))
        notes.took("c", False, 0, 0)
        self.assertEqual(notes.told()[1], ("c", 1, 0, 0, 0))

    def test_no_beyond_what_was_noted(self):
        notes = noted()
        notes.took("c", False, 20, 0)
        self.assertEqual(notes.told()[1], ("c", 21, 0, 0, 0))

    def test_no_falls_not_below_what_is_held(self):
        notes = noted()
        notes.took("c", True, 10, 0)
        notes.took("c", False, 4, 0)
        self.assertEqual(notes.told()[1], ("c", 11, 10, 0, 0))
        notes.took("c", False, 10, 0)
        self.assertEqual(notes.told()[1], ("c", 11, 10, 0, 0))
        notes.took("c", False, 15, 0)
        self.assertEqual(notes.told()[1], ("c", 16, 10, 0, 0))
        notes.took("c", False, 4, 0)
        self.assertEqual(notes.told()[1], ("c", 11, 10, 0, 0))

    def test_beats(self):
        for yes in (True, False):
            notes = noted()
            for beat, answered in ((0, 0), (3, 3), (2, 3), (3, 3), (0, 3), (SIXTY, SIXTY), (4, SIXTY)):
                notes.took("d", yes, 7, beat)
                self.assertEqual(notes.told()[2][4], answered)
            self.assertEqual([told[4] for told in notes.told()], [0, 0, SIXTY])

    def test_lacking_stays(self):
        notes = noted()
        notes.got("a", 4, 6, 0, 4)
        notes.took("a", True, 9, 1)
        notes.took("a", False, 2, 1)
        self.assertEqual(notes.told()[0], ("a", 10, 9, 6, 1))

    def test_from_others_it_is_let_be(self):
        notes = noted()
        before = notes.told()
        for name in ("b", "e"):
            for yes in (True, False):
                notes.took(name, yes, 9, 9)
            notes.got(name, 4, 9, 9, 4)
        self.assertEqual(notes.told(), before)
        self.assertEqual((notes.holders(9), notes.answerers(9)), (("b",), ("b",)))


class Got(unittest.TestCase):
    def test_of_the_stand_s_place(self):
        notes = noted()
        self.assertIsNone(notes.got("c", 4, 3, 0, 4))
        self.assertEqual(notes.told(), (("a", 8, 0, 0, 0), ("c", 8, 0, 3, 0), ("d", 8, 0, 0, 0)))
        self.assertEqual(notes.lacking_of("c"), 3)
        notes.got("c", 4, 1, 0, 4)
        self.assertEqual(notes.lacking_of("c"), 1)

    def test_of_another_place(self):
        for place in (0, 3, 5, SIXTY):
            notes = noted()
            notes.got("c", 4, 3, 0, 4)
            notes.got("c", place, 2, 0, 4)
            self.assertEqual(notes.told()[1], ("c", 8, 0, 0, 0))

    def test_beats(self):
        for place in (4, 5):
            notes = noted()
            for beat, answered in ((0, 0), (3, 3), (2, 3), (7, 7)):
                notes.got("a", place, 1, beat, 4)
                self.assertEqual(notes.told()[0][4], answered)

    def test_lacking_nought_for_all(self):
        notes = noted()
        for number, name in enumerate(("a", "c", "d"), start=1):
            notes.got(name, 4, number, number, 4)
            notes.took(name, True, 10 + number, 0)
        self.assertIsNone(notes.clear_lacking())
        self.assertEqual(notes.told(), (("a", 12, 11, 0, 1), ("c", 13, 12, 0, 2), ("d", 14, 13, 0, 3)))


class Asked(unittest.TestCase):
    def test_next(self):
        notes = noted()
        notes.took("a", True, 9, 0)
        notes.took("c", False, 1, 0)
        self.assertEqual([notes.next_of(name) for name in notes.names()], [10, 2, 8])

    def test_whose_held_is_not_less(self):
        notes = noted()
        notes.took("a", True, 9, 0)
        notes.took("d", True, 10, 0)
        notes.took("c", False, 11, 5)
        for place, names in ((0, "abcd"), (1, "abd"), (8, "abd"), (9, "abd"), (10, "bd"), (11, "b"), (SIXTY, "b")):
            self.assertEqual(notes.holders(place), tuple(names))

    def test_whose_answered_is_not_less(self):
        notes = noted()
        notes.took("d", False, 99, 2)
        notes.got("a", 0, 99, 3, 4)
        for beat, names in ((0, "abcd"), (1, "abd"), (2, "abd"), (3, "ab"), (4, "b"), (SIXTY, "b")):
            self.assertEqual(notes.answerers(beat), tuple(names))

    def test_what_was_told_stays(self):
        notes = noted()
        told, names, holders, answerers = notes.told(), notes.names(), notes.holders(0), notes.answerers(0)
        notes.took("a", True, 9, 9)
        notes.got("c", 4, 5, 6, 4)
        notes.note_bench((("b", "z"), (), ()), 12)
        self.assertEqual(told, (("a", 8, 0, 0, 0), ("c", 8, 0, 0, 0), ("d", 8, 0, 0, 0)))
        self.assertEqual((names, holders, answerers), (tuple("acd"), tuple("abcd"), tuple("abcd")))
        for thing in (told, names, holders, answerers):
            self.assertIs(type(thing), tuple)

    def test_two_chairs_note_apart(self):
        one, other = noted(), noted()
        one.took("a", True, 9, 9)
        one.got("c", 4, 5, 6, 4)
        self.assertEqual(other.told(), noted().told())


class Benches(unittest.TestCase):
    def setUp(self):
        self.notes = noted()
        self.notes.took("a", True, 9, 1)
        self.notes.took("c", False, 3, 2)
        self.notes.got("d", 4, 7, 3, 4)

    def test_new_members_are_noted_and_the_others_stay(self):
        self.notes.note_bench((("a", "b", "c"), ("aa", "b", "e"), ("d",)), 12)
        self.assertEqual(self.notes.told(), (
            ("a", 10, 9, 0, 1), ("aa", 12, 0, 0, 0), ("c", 4, 0, 0, 2), ("d", 8, 0, 7, 3), ("e", 12, 0, 0, 0),
        ))
        self.assertEqual(self.notes.names(), ("a", "aa", "c", "d", "e"))

    def test_who_is_no_member_any_more(self):
        self.notes.note_bench((("b", "c"), (), ()), 12)
        self.assertEqual(self.notes.told(), (("c", 4, 0, 0, 2),))
        self.assertIs(self.notes.is_noted("a"), False)
        self.assertEqual((self.notes.holders(9), self.notes.answerers(1)), (("b",), ("b", "c")))
        self.notes.took("a", True, 20, 20)
        self.assertEqual(self.notes.told(), (("c", 4, 0, 0, 2),))

    def test_who_goes_and_comes_again_is_new(self):
        self.notes.note_bench((("b", "c"), (), ()), 12)
        self.notes.note_bench((("b", "c"), ("a", "b"), ()), 15)
        self.assertEqual(self.notes.told(), (("a", 15, 0, 0, 0), ("c", 4, 0, 0, 2)))

    def test_other_parts_of_the_same_members(self):
        before = self.notes.told()
        self.notes.note_bench((("b", "d"), ("c",), ("a",)), 12)
        self.assertEqual(self.notes.told(), before)

    def test_a_bench_without_the_chair(self):
        self.notes.note_bench((("a", "c"), (), ()), 12)
        self.assertEqual(self.notes.told(), (("a", 10, 9, 0, 1), ("c", 4, 0, 0, 2)))
        self.assertEqual(self.notes.holders(9), ("a", "b"))

    def test_new_ones_take_like_the_others(self):
        self.notes.note_bench((("b", "e"), (), ()), 12)
        self.notes.took("e", False, 2, 4)
        self.assertEqual(self.notes.told(), (("e", 3, 0, 0, 4),))
        self.notes.took("e", True, 12, 5)
        self.assertEqual(self.notes.told(), (("e", 13, 12, 0, 5),))


class Twins(unittest.TestCase):
    def test_a_twin_stands_as_it_does_and_is_apart(self):
        notes = noted()
        notes.took("a", True, 9, 1)
        notes.got("d", 4, 7, 3, 4)
        before = notes.told()
        twin = notes.twin()
        self.assertEqual((twin.told(), twin.holders(9), twin.own), (before, ("a", "b"), "b"))
        twin.took("a", True, 12, 5)
        twin.got("d", 4, 1, 9, 4)
        twin.note_bench((("b", "z"), (), ()), 12)
        self.assertEqual(notes.told(), before)
        other = notes.twin()
        notes.took("c", False, 3, 4)
        self.assertEqual(other.told(), before)
