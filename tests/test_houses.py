"""Points 2, 16 and 18: a house as it is made, as it comes up, where it falls, and what it tells."""

import copy
import unittest

from chainhouse.errors import NoLetter
from chainhouse.houses import House
from chainhouse.rows import Row
from chainhouse.stands import first_stand, pieces, shown_stand
from chainhouse.tables import Table
from scenes import (
    AMID, AT_FIRST, BENCH, ENTRIES, FIRST, ONE_ENTRY, STAND, WAIT, all_told, alone, asker, chair, looker, plain, put,
    taken, turns_left, up,
)
from things import BENCHES, GREAT, NO_ENTRIES, NO_NAMES, NO_WHOLES, Refusing

FAR = (10 ** 60 - 1, 10 ** 60 - 1, BENCH, (("k", 10 ** 60),), (("ann", 10 ** 60 - 1, None),))
# What was written, and the table that is then done.
WRITTEN = (
    (AT_FIRST, ((), ())),
    (ONE_ENTRY, ((), ())),
    ((1, "c", 1, FIRST, ((1, ("first",)),)), ((), ())),
    ((5, "c", 5, STAND, ()), STAND[3:]),
    ((4, None, 5, STAND, ENTRIES), STAND[3:]),
    ((4, "b", 6, STAND, ENTRIES), ((("k", 8), ("m", -2)), (("ann", 4, 8), ("bob", 1, None)))),
    (AMID, ((("k", 8), ("m", -2)), (("ann", 4, 8), ("bob", 1, None)))),
    ((9, "a", 8, STAND, ENTRIES), ((("k", 8), ("m", 3)), (("ann", 4, 8), ("bob", 2, 3)))),
    ((9, None, 9, STAND, ENTRIES), ((("k", 8), ("m", 3)), (("ann", 4, 8), ("bob", 2, 3)))),
    ((10 ** 60, "zz", 10 ** 60 - 1, FAR, ()), FAR[3:]),
    ((2, None, 3, FIRST, ((1, put("ann", 2, "k", 4)), (1, put("ann", 1, "k", 9)), (2, put("ann", 2, "k", 8)))),
     ((("k", 4),), (("ann", 2, None),))),
)


class Made(unittest.TestCase):
    def test_as_it_is_made(self):
        for bench in BENCHES:
            house = House("abc", 2, 200, bench)
            self.assertEqual((house.name, house.wait, house.size), ("abc", 2, 200))
            self.assertEqual(house.writes(), (0, None, 0, (0, 0, bench, (), ()), ()))
            self.assertEqual((house.part(), house.chair_known(), house.settled()), ("plain", None, 0))
            self.assertEqual((house.row().stand, house.row().entries), (first_stand(bench), ()))
            self.assertEqual(house.table().told(), ((), ()))
            self.assertEqual((taken(house), house.journal()), (((), (), ()), ()))

    def test_the_kinds_of_what_is_told(self):
        for house in (House("a", 3, 10, BENCH), plain(), looker(), asker(), chair(), alone()):
            self.assertIs(type(house.writes()), tuple)
            self.assertIs(type(house.part()), str)
            self.assertIsInstance(house.row(), Row)
            self.assertIsInstance(house.table(), Table)
            for told in taken(house) + (house.journal(), house.turn(), house.writes()[4]):
                self.assertIs(type(told), tuple)

    def test_quiet_is_nought_at_first(self):
        for wait in (2, 3, 20):
            self.assertEqual(turns_left(House("b", wait, 1, BENCH)), wait)

    def test_two_houses_are_apart(self):
        one, other = House("a", 2, 10, BENCH), House("a", 2, 10, BENCH)
        before = all_told(other)
        for letter in (("rows", "b", "a", 3, 0, 0, ((1, ("first",)),), 1, 2), ("vote", "c", "a", 4, 9, 9)):
            one.hear(letter)
        self.assertEqual(all_told(other), before)


class ComesUp(unittest.TestCase):
    def test_from_what_was_written(self):
        for parts, table in WRITTEN:
            house = House("a", 3, 10, (("x", "y"), (), ()))
            self.assertIsNone(house.comes_up(parts))
            self.assertEqual(house.writes(), parts)
            self.assertEqual((house.part(), house.chair_known(), house.settled()), ("plain", None, parts[2]))
            self.assertEqual((house.row().stand, house.row().entries), parts[3:])
            self.assertEqual(house.table().told(), table)
            self.assertEqual((taken(house), house.journal()), (((), (), ()), ()))
            self.assertEqual((house.name, house.wait, house.size), ("a", 3, 10))
            self.assertEqual(turns_left(house), 3)

    def test_while_it_is_in_use(self):
        for make in (plain, looker, asker, chair, busy, busy_chair):
            for parts, _ in WRITTEN:
                house = make()
                house.comes_up(parts)
                self.assertEqual(all_told(house), all_told(up(parts)))

    def test_its_own_writing_again(self):
        for make in (plain, looker, asker, chair, busy, busy_chair):
            house = make()
            written = house.writes()
            house.comes_up(written)
            self.assertEqual(all_told(house), all_told(up(written)))
            self.assertEqual(house.journal(), ())

    def test_noted_pieces_are_gone(self):
        house, letters = with_pieces()
        house.comes_up(AT_FIRST)
        self.assertEqual(house.hear(letters[1])[0][5], 0)

    def test_goes_on_as_any_other(self):
        house = chair()
        house.comes_up(AMID)
        house.turn()
        house.turn()
        self.assertEqual(house.turn(), (("look", "a", "b", 5, 9, 4), ("look", "a", "c", 5, 9, 4)))
        self.assertEqual(house.hear(("vote", "c", "a", 5, 9, 4)), (("gave", "a", "c", 5, True),))
        self.assertEqual(house.journal(), (("vote", 5, "c", 9, 4),))


def busy():
    """A house that is no chair, with all that is not written: a chair known, quiet, noted pieces."""
    house = plain()
    text = shown_stand((20, 6, BENCH, (("z", 1),), ()))
    house.hear(("piece", "b", "a", 6, 20, 6, 0, 2, text[:10], 3))
    house.turn()
    return house


def busy_chair():
    """A chair with reads that wait, answers, told reads and papers that were not taken."""
    house = chair()
    house.hear(("took", "b", "a", 5, True, 10, 0))
    house.ask("ann", 5, ("add", "k", 1))
    house.hear(("took", "b", "a", 5, True, 11, 0))
    house.read("bob", 1, "k")
    house.hear(("took", "b", "a", 5, True, 11, 1))
    house.read("bob", 2, "k")
    return house


def with_pieces():
    """A house that has piece 0 and lacks the others, and all the letters."""
    house = plain(AT_FIRST)
    texts = pieces(shown_stand((20, 6, BENCH, (("z", 1),), ())), 10)
    letters = [
        ("piece", "b", "a", 6, 20, 6, number, len(texts), text, 0) for number, text in enumerate(texts)
    ]
    house.hear(letters[0])
    return house, letters


class Falls(unittest.TestCase):
    def test_what_is_not_written_is_lost(self):
        for make in (plain, looker, asker, chair, busy, busy_chair):
            house = make()
            written, journal, table = house.writes(), house.journal(), house.table().told()
            self.assertIsNone(house.fall())
            self.assertEqual((house.writes(), house.journal()), (written, journal))
            self.assertEqual((house.part(), house.chair_known(), taken(house)), ("plain", None, ((), (), ())))
            self.assertEqual((house.settled(), house.table().told()), (written[2], table))
            self.assertEqual(turns_left(house), WAIT)
            other = up(written)
            self.assertEqual(all_told(house)[:7], all_told(other)[:7])

    def test_busy_ones_had_something_to_lose(self):
        house = busy_chair()
        self.assertEqual(house.taken_answers(), (("bob", 2, 3), ("ann", 5, 9)))
        self.assertEqual(house.taken_reads(), (("bob", 1, 9, 11),))
        self.assertEqual(len(house.taken_papers()), 3)
        house = busy()
        self.assertEqual((house.chair_known(), turns_left(house)), ("b", WAIT - 1))

    def test_a_fallen_chair_is_none(self):
        house = busy_chair()
        house.fall()
        self.assertEqual(house.hear(("took", "b", "a", 5, True, 11, 9)), ())
        self.assertEqual(taken(house), ((), (), ()))

    def test_a_fallen_looker_and_a_fallen_asker_are_none(self):
        house = looker()
        house.fall()
        self.assertEqual(house.hear(("saw", "b", "a", 4, True, 5)), ())
        self.assertEqual((house.part(), house.writes()[:2]), ("plain", (4, "b")))
        house = asker()
        house.fall()
        self.assertEqual(house.hear(("gave", "b", "a", 5, True)), ())
        self.assertEqual((house.part(), house.writes()[:2]), ("plain", (5, "a")))

    def test_who_said_yes_is_lost(self):
        house = looker(parts=(4, None, 0, first_stand((tuple("abcde"), (), ())), ()))
        house.hear(("saw", "b", "a", 4, True, 5))
        house.fall()
        for _ in range(WAIT):
            house.turn()
        self.assertEqual(house.hear(("saw", "c", "a", 4, True, 5)), ())
        self.assertEqual(house.part(), "looker")

    def test_noted_pieces_are_lost(self):
        house, letters = with_pieces()
        self.assertEqual(copy.deepcopy(house).hear(letters[1]), (("got", "a", "b", 6, 20, 2, 0),))
        house.fall()
        self.assertEqual(house.hear(letters[1]), (("got", "a", "b", 6, 20, 0, 0),))

    def test_the_journal_goes_on(self):
        house = chair()
        before = house.journal()
        house.fall()
        house.hear(("vote", "c", "a", 9, 99, 9))
        self.assertEqual(house.journal(), before + (("vote", 9, "c", 99, 9),))

    def test_a_table_is_done_anew_up_to_the_settled_place(self):
        house = alone()
        house.ask("ann", 1, ("put", "k", 5))
        house.cut()
        house.ask("ann", 2, ("add", "k", 5))
        house.fall()
        self.assertEqual(house.table().told(), ((("k", 10),), (("ann", 2, 10),)))
        self.assertEqual((house.settled(), house.row().stand[0]), (3, 2))

    def test_twice_is_as_once(self):
        house = chair()
        house.fall()
        before = all_told(house)
        house.fall()
        self.assertEqual(all_told(house), before)


class Told(unittest.TestCase):
    def test_what_was_told_stays(self):
        house = alone()
        house.ask("ann", 1, ("put", "k", 5))
        row, table, written, journal = house.row(), house.table(), house.writes(), house.journal()
        stand, entries = (0, 0, (("a",), (), ()), (), ()), ((1, ("first",)), (1, put("ann", 1, "k", 5)))
        house.ask("ann", 2, ("add", "k", 5))
        house.cut()
        house.hear(("rows", "b", "a", 7, 3, 1, ((7, ("first",)),), 4, 0))
        house.hear(("vote", "b", "a", 9, 9, 9))
        house.comes_up(AMID)
        self.assertEqual((row.stand, row.entries), (stand, entries))
        self.assertEqual(table.told(), ((("k", 5),), (("ann", 1, None),)))
        self.assertEqual(written, (1, "a", 2, stand, entries))
        self.assertEqual(journal, (("vote", 1, "a", 0, 0), ("put", 1, ("first",)), ("put", 1, put("ann", 1, "k", 5))))

    def test_a_table_that_was_told_changes_nothing(self):
        for house in (alone(), plain(), chair()):
            before = all_told(house)
            table = house.table()
            table.does("ann", 99, ("put", "k", 99))
            table.does("zed", 1, ("drop", "m"))
            self.assertEqual(all_told(house), before)

    def test_a_row_that_was_told_changes_nothing(self):
        house = plain()
        before = all_told(house)
        row = house.row()
        row.stand, row.entries = FIRST, ()
        self.assertEqual(all_told(house), before)

    def test_what_was_taken_is_told_once(self):
        house = alone()
        house.ask("ann", 1, ("put", "k", 5))
        house.read("bob", 3, "k")
        self.assertEqual(house.taken_answers(), (("ann", 1, None),))
        self.assertEqual(house.taken_reads(), (("bob", 3, 5, 2),))
        self.assertEqual(len(house.taken_papers()), 3)
        self.assertEqual(taken(house), ((), (), ()))
        house.ask("ann", 2, ("add", "k", 1))
        house.ask("bob", 1, ("drop", "k"))
        self.assertEqual(house.taken_answers(), (("ann", 2, 6), ("bob", 1, 6)))
        self.assertEqual((house.taken_reads(), len(house.taken_papers())), ((), 2))
        self.assertEqual(taken(house), ((), (), ()))

    def test_taking_one_takes_no_other(self):
        house = busy_chair()
        answers, reads, papers = taken(copy.deepcopy(house))
        self.assertEqual(house.taken_reads(), reads)
        self.assertEqual(house.taken_papers(), papers)
        self.assertEqual(house.taken_answers(), answers)

    def test_a_twin_and_its_house_are_apart(self):
        for make in (plain, looker, asker, chair, busy, busy_chair, alone):
            house = make()
            before = all_told(house)
            twin = house.twin()
            self.assertEqual(all_told(twin), before)
            twin.turn()
            twin.hear(("took", "b", "a", 5, False, 1, 9))
            twin.hear(("got", "c", "a", 5, 5, 0, 9))
            twin.hear(("saw", "b", "a", 4, True, 5))
            twin.hear(("gave", "b", "a", 5, True))
            twin.hear(("rows", "c", "a", 7, 9, 4, ((7, ("first",)),), 10, 0))
            twin.cut()
            taken(twin)
            self.assertEqual(all_told(house), before)
            twin.comes_up(AT_FIRST)
            self.assertEqual(all_told(house), before)
            self.assertEqual(all_told(house.twin()), before)

    def test_a_twin_has_what_is_noted(self):
        house, letters = with_pieces()
        twin = house.twin()
        for letter in letters[1:]:
            twin.hear(letter)
        self.assertEqual(twin.settled(), 20)
        self.assertEqual(house.hear(letters[1])[0][5], 2)
        house = looker(parts=(4, None, 0, first_stand((tuple("abcde"), (), ())), ()))
        house.hear(("saw", "b", "a", 4, True, 5))
        twin = house.twin()
        twin.hear(("saw", "c", "a", 4, True, 5))
        self.assertEqual((twin.part(), house.part()), ("asker", "looker"))
        house = busy_chair()
        twin = house.twin()
        for each in (twin, house):
            each.taken_reads()
            each.hear(("took", "c", "a", 5, True, 11, 2))
            self.assertEqual(each.taken_reads(), (("bob", 2, 9, 11),))


class NoLetters(Refusing):
    def spoilt(self):
        letters = (
            ("look", "b", "a", 9, 1, 1), ("saw", "b", "a", 9, True, 1), ("vote", "b", "a", 9, 1, 1),
            ("gave", "b", "a", 9, True), ("rows", "b", "a", 9, 0, 0, (), 0, 0), ("took", "b", "a", 9, True, 1, 1),
            ("piece", "b", "a", 9, 20, 5, 0, 1, "x", 0), ("got", "b", "a", 9, 1, 1, 1),
        )
        for letter in letters:
            yield letter[:-1]
            yield letter + (0,)
            yield list(letter)
            last = len(letter) - 1
            for place, things in ((1, NO_NAMES), (2, NO_NAMES), (3, NO_WHOLES + (-1, -GREAT)), (last, ((), None, "1"))):
                for thing in things:
                    yield letter[:place] + (thing,) + letter[place + 1:]
        for entry in NO_ENTRIES:
            yield ("rows", "b", "a", 9, 0, 0, (entry,), 0, 0)
        for thing in (None, True, 0, "", "look", (), [], ("b", "a"), (("look",),), ([],), ("Look", "b", "a", 9, 1, 1)):
            yield thing

    def test_what_is_none_is_refused_and_changes_nothing(self):
        for make in (plain, looker, asker, chair):
            house = make()
            before = all_told(house)
            for thing in self.spoilt():
                self.refuses(NoLetter, house.hear, thing)
            self.assertEqual(all_told(house), before)
