"""Points 21 to 24: rows and pieces as a house hears them, settling, and cutting."""

import copy
import unittest

from chainhouse.stands import pieces, shown_stand
from scenes import (
    AMID, AT_FIRST, BENCH, ENTRIES, FIRST, STAND, all_told, alone, ask, asker, chair, fillings, looker, plain, put,
    turns_left, up,
)

TABLE_AT_7 = ((("k", 8), ("m", -2)), (("ann", 4, 8), ("bob", 1, None)))
TABLE_AT_8 = ((("k", 8), ("m", 3)), (("ann", 4, 8), ("bob", 2, 3)))


def rows(before, there, entries, settled=0, beat=6, term=4, sender="c"):
    return ("rows", sender, "a", term, before, there, entries, settled, beat)


class Rows(unittest.TestCase):
    def test_of_a_lesser_term(self):
        house = plain()
        self.assertEqual(house.hear(rows(9, 4, ((4, ("first",)),), 9, 6, 3)), (("took", "a", "c", 4, False, 7, 0),))
        self.assertEqual(all_told(house), all_told(plain()))

    def test_unlike(self):
        # Another term at the place, and none there.
        for before, there in ((9, 3), (9, 5), (8, 2), (8, 4), (7, 2), (6, 3), (6, 1), (5, 1), (5, 3), (10, 4), (99, 4), (10, 0)):
            house = plain()
            sent = house.hear(rows(before, there, ((4, ("first",)),), 9))
            self.assertEqual(sent, (("took", "a", "c", 4, False, 7, 6),))
            self.assertEqual((house.writes(), house.journal()), (AMID, ()))
            self.assertEqual((house.part(), house.chair_known(), turns_left(house)), ("plain", "c", 3))

    def test_put_behind(self):
        house = plain()
        more = ((4, ask("ann", 5, "k", 1)), (4, ask("ann", 6, "k", 1)))
        self.assertEqual(house.hear(rows(9, 4, more)), (("took", "a", "c", 4, True, 11, 6),))
        self.assertEqual(house.writes(), (4, "b", 7, STAND, ENTRIES + more))
        self.assertEqual(house.table().told(), TABLE_AT_7)

    def test_no_entries(self):
        for before, there in ((5, 2), (6, 2), (7, 3), (8, 3), (9, 4)):
            house = plain()
            self.assertEqual(house.hear(rows(before, there, ())), (("took", "a", "c", 4, True, before, 6),))
            self.assertEqual(house.writes(), AMID)

    def test_fewer_entries_than_there_are(self):
        house = plain()
        self.assertEqual(house.hear(rows(5, 2, ENTRIES[:2])), (("took", "a", "c", 4, True, 7, 6),))
        self.assertEqual(house.writes(), AMID)
        self.assertEqual(house.hear(rows(6, 2, ENTRIES[1:3])), (("took", "a", "c", 4, True, 8, 6),))
        self.assertEqual(house.writes(), AMID)

    def test_a_place_below_the_stand_s(self):
        # Whatever term is told there, and whatever entries up to the stand's place.
        entries = ((1, ("first",)), (1, ("first",)), (1, ("first",))) + ENTRIES + ((4, ask("ann", 5, "k", 1)),)
        for there in (0, 1, 9):
            house = plain()
            self.assertEqual(house.hear(rows(2, there, entries)), (("took", "a", "c", 4, True, 10, 6),))
            self.assertEqual(house.writes(), (4, "b", 7, STAND, ENTRIES + entries[-1:]))
            house = plain()
            self.assertEqual(house.hear(rows(2, there, entries[:2])), (("took", "a", "c", 4, True, 4, 6),))
            self.assertEqual(house.writes(), AMID)

    def test_entries_that_cut_what_is_not_settled(self):
        house = plain()
        other = ((4, ("first",)),)
        self.assertEqual(house.hear(rows(7, 3, other, 8)), (("took", "a", "c", 4, True, 8, 6),))
        self.assertEqual(house.writes(), (4, "b", 8, STAND, ENTRIES[:2] + other))
        self.assertEqual(house.table().told(), TABLE_AT_7)

    def test_settled_places(self):
        # Below and at its own, within and at the end of the letter's entries, and beyond them.
        for told, settled in ((0, 7), (6, 7), (7, 7), (8, 8), (9, 9), (10, 9), (10 ** 60, 9)):
            house = plain()
            self.assertEqual(house.hear(rows(5, 2, ENTRIES, told)), (("took", "a", "c", 4, True, 9, 6),))
            self.assertEqual(house.writes(), (4, "b", settled, STAND, ENTRIES))
            self.assertEqual(house.settled(), settled)
            self.assertEqual(house.table().told(), TABLE_AT_7 if settled == 7 else TABLE_AT_8)

    def test_entries_of_its_own_behind_the_letter_s_are_not_settled(self):
        house = plain()
        self.assertEqual(house.hear(rows(7, 3, ENTRIES[2:3], 9)), (("took", "a", "c", 4, True, 8, 6),))
        self.assertEqual((house.settled(), house.writes()[4]), (8, ENTRIES))
        house = plain()
        house.hear(rows(9, 4, (), 9))
        self.assertEqual((house.settled(), house.table().told()), (9, TABLE_AT_8))
        house = plain()
        house.hear(rows(3, 1, ENTRIES[:1], 9))
        self.assertEqual(house.settled(), 7)

    def test_settling_answers_nothing(self):
        house = plain()
        house.hear(rows(5, 2, ENTRIES, 9))
        self.assertEqual((house.taken_answers(), house.taken_reads(), house.taken_papers()), ((), (), ()))

    def test_asks_are_done_in_order_and_once(self):
        house = plain(AT_FIRST)
        deeds = (put("ann", 1, "k", 5), ask("ann", 2, "k", 1), ask("ann", 2, "k", 100), ask("ann", 1, "k", 100))
        entries = ((1, ("first",)),) + tuple((1, deed) for deed in deeds) + ((1, ("bench", BENCH)), (1, ask("bob", 1, "k", 2)))
        house.hear(rows(0, 0, entries, 3, 0, 1))
        self.assertEqual(house.table().told(), ((("k", 6),), (("ann", 2, 6),)))
        house.hear(rows(7, 1, (), 5, 0, 1))
        self.assertEqual(house.table().told(), ((("k", 6),), (("ann", 2, 6),)))
        house.hear(rows(7, 1, (), 7, 0, 1))
        self.assertEqual(house.table().told(), ((("k", 8),), (("ann", 2, 6), ("bob", 1, 8))))

    def test_the_beat_is_answered(self):
        for beat in (0, 1, 10 ** 60):
            self.assertEqual(plain().hear(rows(9, 4, (), 0, beat))[0][6], beat)
            self.assertEqual(plain().hear(rows(9, 3, (), 0, beat))[0][6], beat)
            self.assertEqual(plain().hear(rows(9, 4, (), 0, beat, 7))[0][6], beat)
            self.assertEqual(plain().hear(rows(9, 4, (), 0, beat, 3))[0][6], 0)
            self.assertEqual(plain().hear(rows(9, 3, (), 0, beat, 0))[0][6], 0)

    def test_quiet_and_chair(self):
        for make, term in ((plain, 4), (looker, 4), (asker, 5)):
            for there in (4, 3):
                house = make()
                house.turn()
                house.hear(rows(9, there, (), 0, 6, term))
                self.assertEqual((house.part(), house.chair_known(), turns_left(house)), ("plain", "c", 3))
        house = plain()
        house.turn()
        house.hear(rows(9, 4, (), 0, 6, 3))
        self.assertEqual((house.chair_known(), turns_left(house)), (None, 2))

    def test_another_sender_of_the_term(self):
        house = plain()
        house.hear(rows(9, 4, ()))
        house.hear(rows(9, 4, (), sender="b"))
        self.assertEqual(house.chair_known(), "b")

    def test_a_first_row(self):
        house = plain(AT_FIRST)
        self.assertEqual(house.hear(rows(0, 0, ((1, ("first",)),), 0, 0, 1)), (("took", "a", "c", 1, True, 1, 0),))
        self.assertEqual(house.writes(), (1, None, 0, FIRST, ((1, ("first",)),)))


STANDS = {
    20: (20, 6, BENCH, (("z", 1),), (("ann", 9, None),)),
    8: (8, 3, BENCH, TABLE_AT_8[0], TABLE_AT_8[1]),
    9: (9, 5, BENCH, (), ()),
    30: (30, 6, (("a", "b"), ("c",), ("d",)), (("y", -5), ("z", 10 ** 61)), ()),
}


def piece_letters(place, term=6, beat=2, size=10, sender="b"):
    stand = STANDS[place]
    texts = pieces(shown_stand(stand), size)
    return tuple(
        ("piece", sender, "a", term, place, stand[1], number, len(texts), text, beat) for number, text in enumerate(texts)
    )


class Pieces(unittest.TestCase):
    def test_in_order(self):
        house = plain()
        letters = piece_letters(20)
        for number, letter in enumerate(letters[:-1]):
            self.assertEqual(house.hear(letter), (("got", "a", "b", 6, 20, number + 1, 2),))
            self.assertEqual(house.writes(), (6, None, 7, STAND, ENTRIES))
            self.assertEqual(house.table().told(), TABLE_AT_7)
        self.assertEqual(house.hear(letters[-1]), (("took", "a", "b", 6, True, 20, 2),))
        self.assertEqual(house.writes(), (6, None, 20, STANDS[20], ()))
        self.assertEqual((house.settled(), house.table().told()), (20, STANDS[20][3:]))

    def test_in_any_order_with_the_least_lacking_number(self):
        house = plain()
        letters = piece_letters(20)
        count = len(letters)
        self.assertEqual(count, 5)
        for number, lacking in ((3, 0), (1, 0), (0, 2), (4, 2)):
            self.assertEqual(house.hear(letters[number]), (("got", "a", "b", 6, 20, lacking, 2),))
        self.assertEqual(house.hear(letters[2]), (("took", "a", "b", 6, True, 20, 2),))
        self.assertEqual(house.writes()[2:], (20, STANDS[20], ()))

    def test_each_order_of_three(self):
        for order in ((0, 1, 2), (0, 2, 1), (1, 0, 2), (1, 2, 0), (2, 0, 1), (2, 1, 0)):
            house = plain()
            letters = piece_letters(20, size=17)
            self.assertEqual(len(letters), 3)
            seen = []
            for number in order:
                lacking = min(set(range(4)) - set(seen) - {number})
                seen.append(number)
                sent = house.hear(letters[number])
                self.assertEqual(sent[0][0], "got" if lacking < 3 else "took")
                if lacking < 3:
                    self.assertEqual(sent[0][5], lacking)
            self.assertEqual(house.writes()[2:], (20, STANDS[20], ()))

    def test_one_twice(self):
        house = plain()
        letters = piece_letters(20)
        for letter in (letters[0], letters[0], letters[2], letters[0], letters[2]):
            sent = house.hear(letter)
        self.assertEqual(sent, (("got", "a", "b", 6, 20, 1, 2),))

    def test_the_one_piece_of_a_stand(self):
        house = plain()
        letter = piece_letters(20, size=200)[0]
        self.assertEqual(house.hear(letter), (("took", "a", "b", 6, True, 20, 2),))
        self.assertEqual(house.writes(), (6, None, 20, STANDS[20], ()))
        self.assertEqual(house.hear(letter), (("took", "a", "b", 6, True, 20, 2),))

    def test_of_two_places_at_once(self):
        house = plain()
        some, others = piece_letters(20), piece_letters(30)
        for number in range(4):
            self.assertEqual(house.hear(some[number])[0][4:6], (20, number + 1))
            self.assertEqual(house.hear(others[number])[0][4:6], (30, number + 1))
        house.hear(some[4])
        self.assertEqual(house.settled(), 20)
        for number in range(4, len(others) - 1):
            self.assertEqual(house.hear(others[number])[0][4:6], (30, number + 1))
        self.assertEqual(house.hear(others[-1]), (("took", "a", "b", 6, True, 30, 2),))
        self.assertEqual(house.writes()[2:], (30, STANDS[30], ()))

    def test_noted_pieces_of_places_up_to_it_are_gone(self):
        house = plain()
        some, others = piece_letters(20), piece_letters(30)
        for letter in some[:4] + others:
            house.hear(letter)
        self.assertEqual(house.settled(), 30)
        # Come up from an earlier place it would note anew; what it noted ahead must not be left in it.
        self.assertEqual(house.hear(some[4]), (("took", "a", "b", 6, True, 30, 2),))
        self.assertEqual(house.mind.sheets, {})
        house = plain()
        for letter in others[:2] + some:
            house.hear(letter)
        self.assertEqual(sorted(house.mind.sheets), [(30, 0), (30, 1)])
        self.assertEqual(house.hear(others[3])[0][4:6], (30, 2))

    def test_of_a_place_that_is_settled_already(self):
        for place in (0, 5, 6, 7):
            house = plain()
            letter = ("piece", "b", "a", 6, place, 1, 0, 3, "what", 2)
            self.assertEqual(house.hear(letter), (("took", "a", "b", 6, True, 7, 2),))
            self.assertEqual(house.writes(), (6, None, 7, STAND, ENTRIES))
            self.assertEqual((house.part(), house.chair_known(), turns_left(house)), ("plain", "b", 3))
            self.assertEqual(house.mind.sheets, {})

    def test_of_a_lesser_term(self):
        house = plain()
        house.turn()
        before = all_told(house)
        for term in (0, 3):
            self.assertEqual(house.hear(piece_letters(20, term)[0]), (("took", "a", "b", 4, False, 7, 0),))
            self.assertEqual(house.hear(("piece", "b", "a", term, 5, 2, 0, 1, "x", 3)), (("took", "a", "b", 4, False, 7, 0),))
        self.assertEqual(all_told(house), before)
        self.assertEqual(house.hear(piece_letters(20, 4)[1])[0][5], 0)

    def test_from_another_chair(self):
        house = plain()
        for letter in piece_letters(20)[:3]:
            house.hear(letter)
        later = piece_letters(20, 8, 5, sender="c")
        self.assertEqual(house.hear(later[3]), (("got", "a", "c", 8, 20, 4, 5),))
        self.assertEqual(house.chair_known(), "c")
        self.assertEqual(house.hear(later[4]), (("took", "a", "c", 8, True, 20, 5),))
        self.assertEqual(house.writes(), (8, None, 20, STANDS[20], ()))
        self.assertEqual(house.journal(), (("stand", 8, "c", 20, 6),))

    def test_a_fall_amid_them(self):
        house = plain()
        letters = piece_letters(20)
        for letter in letters[:3]:
            house.hear(letter)
        house.fall()
        self.assertEqual(house.hear(letters[3]), (("got", "a", "b", 6, 20, 0, 2),))
        for letter in letters[:3]:
            house.hear(letter)
        self.assertEqual(house.hear(letters[4]), (("took", "a", "b", 6, True, 20, 2),))

    def test_entries_behind_the_stand_that_stay(self):
        house = plain()
        for letter in piece_letters(8):
            sent = house.hear(letter)
        self.assertEqual(sent, (("took", "a", "b", 6, True, 8, 2),))
        self.assertEqual(house.writes(), (6, None, 8, STANDS[8], ENTRIES[3:]))
        self.assertEqual(house.table().told(), TABLE_AT_8)
        house.hear(rows(9, 4, (), 9, 0, 6))
        self.assertEqual(house.settled(), 9)

    def test_entries_that_do_not_stay(self):
        more = ((4, ask("ann", 9, "k", 1)),)
        house = plain((4, "b", 7, STAND, ENTRIES + more))
        for letter in piece_letters(9):
            house.hear(letter)
        self.assertEqual(house.writes(), (6, None, 9, STANDS[9], ()))
        self.assertEqual(house.table().told(), ((), ()))

    def test_a_stand_at_the_last_place(self):
        house = plain((4, "b", 7, STAND, ENTRIES[:3]))
        for letter in piece_letters(8):
            house.hear(letter)
        self.assertEqual(house.writes(), (6, None, 8, STANDS[8], ()))

    def test_amid_pieces_rows_settle_so_far(self):
        house = plain()
        letters = piece_letters(8, 4)
        house.hear(letters[0])
        house.hear(rows(5, 2, ENTRIES, 9))
        self.assertEqual(house.hear(letters[1]), (("took", "a", "b", 4, True, 9, 2),))
        self.assertEqual(house.writes(), (4, "b", 9, STAND, ENTRIES))

    def test_very_many_are_told(self):
        house = plain()
        self.assertEqual(house.hear(("piece", "b", "a", 6, 20, 6, 0, 10 ** 60, "x", 2))[0][4:6], (20, 1))
        self.assertEqual(house.hear(("piece", "b", "a", 6, 20, 6, 10 ** 60 - 1, 10 ** 60, "x", 2))[0][4:6], (20, 1))

    def test_its_parts(self):
        for make, term in ((plain, 4), (looker, 4), (asker, 5)):
            for place in (7, 20):
                house = make()
                house.turn()
                house.hear(("piece", "c", "a", term, place, 6, 0, 2, "x", 2))
                self.assertEqual((house.part(), house.chair_known(), turns_left(house)), ("plain", "c", 3))

    def test_what_was_read_is_looked_with(self):
        house = up(AMID, wait=2)
        for letter in piece_letters(30):
            house.hear(letter)
        house.turn()
        self.assertEqual(house.turn(), (("look", "a", "b", 7, 30, 6), ("look", "a", "c", 7, 30, 6)))


class Cuts(unittest.TestCase):
    def test_at_the_stand_s_place_nothing_changes(self):
        for parts in (AT_FIRST, (4, None, 5, STAND, ENTRIES), (4, None, 5, STAND, ())):
            house = plain(parts)
            before = all_told(house)
            self.assertIsNone(house.cut())
            self.assertEqual(all_told(house), before)

    def test_beyond_it(self):
        house = plain()
        self.assertIsNone(house.cut())
        stand = (7, 3, BENCH) + TABLE_AT_7
        self.assertEqual(house.writes(), (4, "b", 7, stand, ENTRIES[2:]))
        self.assertEqual((house.settled(), house.table().told()), (7, TABLE_AT_7))
        before = all_told(house)
        house.cut()
        self.assertEqual(all_told(house), before)
        self.assertEqual(house.journal(), ())

    def test_all_of_it(self):
        house = plain((4, "b", 9, STAND, ENTRIES))
        house.cut()
        self.assertEqual(house.writes(), (4, "b", 9, (9, 4, BENCH) + TABLE_AT_8, ()))

    def test_with_the_bench_of_the_place(self):
        benches = ((("a", "b", "c"), ("a",), ()), (("a",), (), ()))
        entries = tuple((3, ("bench", bench)) for bench in benches)
        for settled, bench in ((6, benches[0]), (7, benches[1])):
            house = plain((4, "b", settled, STAND, entries))
            house.cut()
            self.assertEqual(house.writes()[3:], ((settled, 3, bench) + STAND[3:], entries[settled - 5:]))

    def test_goes_on_behind_it(self):
        house = plain()
        house.cut()
        self.assertEqual(house.hear(rows(5, 2, ENTRIES, 8)), (("took", "a", "c", 4, True, 9, 6),))
        self.assertEqual((house.settled(), house.table().told()), (8, TABLE_AT_8))
        house.cut()
        self.assertEqual(house.writes()[3:], ((8, 3, BENCH) + TABLE_AT_8, ENTRIES[3:]))

    def test_part_chair_and_quiet_stay(self):
        for make in (plain, looker, asker, chair):
            house = make()
            house.turn()
            before = (house.part(), house.chair_known(), turns_left(house))
            house.cut()
            self.assertEqual((house.part(), house.chair_known(), turns_left(house)), before)

    def test_amid_pieces(self):
        house = plain()
        letters = piece_letters(20)
        house.hear(letters[0])
        house.cut()
        self.assertEqual(house.hear(letters[2]), (("got", "a", "b", 6, 20, 1, 2),))
        for letter in letters[1:]:
            house.hear(letter)
        self.assertEqual(house.writes()[2:], (20, STANDS[20], ()))

    def test_by_a_chair_nothing_is_lacking_then(self):
        house = chair(size=10)
        # Both lack what is cut, and have some pieces of the stand ahead.
        for name, number in (("b", 2), ("c", 3)):
            house.hear(("took", name, "a", 5, False, 0, 0))
            house.hear(("got", name, "a", 5, 5, number, 0))
        self.assertEqual([letter[4:7] for letter in fillings(house)], [(5, 2, 2), (5, 2, 3)])
        house.cut()
        self.assertEqual([letter[4:7] for letter in fillings(house)], [(7, 3, 0), (7, 3, 0)])
        house.hear(("got", "b", "a", 5, 7, 1, 0))
        before = fillings(house)
        house.cut()
        self.assertEqual(fillings(house), before)
        self.assertEqual([letter[6] for letter in before], [1, 0])

    def test_a_chair_s_fillings_behind_a_cut(self):
        house = alone()
        for number in range(1, 6):
            house.ask("ann", number, ("add", "k", 1))
        house.change(("a", "b"), ())
        house.cut()
        self.assertEqual(house.row().stand, (6, 1, (("a",), (), ()), (("k", 5),), (("ann", 5, 5),)))
        self.assertEqual(fillings(house), (("rows", "a", "b", 1, 6, 1, house.row().entries, 6, 1),))
        other = copy.deepcopy(house)
        other.hear(("took", "b", "a", 1, False, 0, 0))
        text = pieces(shown_stand(house.row().stand), 10)
        self.assertEqual(fillings(other), (("piece", "a", "b", 1, 6, 1, 0, len(text), text[0], 1),))
