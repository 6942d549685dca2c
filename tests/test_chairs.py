"""Points 29 to 33: becoming chair, fillings, a chair's turn, took and got, what is settled, and asks."""

import unittest

from chainhouse.errors import NoDeed, NotChair, Old
from chainhouse.stands import first_stand, pieces, shown_stand
from scenes import BENCH, ENTRIES, STAND, all_told, alone, ask, asker, chair, fillings, looker, plain
from things import GREAT, NO_NAMES, NO_WHOLES, NO_WORKS, Refusing

OWN = (5, ("first",))
FIVE = (tuple("abcde"), (), ())
TEXTS = pieces(shown_stand(STAND), 10)


def at_first(bench, term=0):
    return (term, None, 0, first_stand(bench), ())


def took(name, yes, place, beat=0, term=5):
    return ("took", name, "a", term, yes, place, beat)


def got(name, place, number, beat=0, term=5):
    return ("got", name, "a", term, place, number, beat)


def rows(name, before, there, entries, settled=7, beat=1, term=5):
    return ("rows", "a", name, term, before, there, entries, settled, beat)


def piece(name, number, beat=1):
    return ("piece", "a", name, 5, 5, 2, number, len(TEXTS), TEXTS[number], beat)


class BecomesChair(unittest.TestCase):
    def test_what_it_notes_and_puts_and_sends(self):
        house = asker()
        sent = house.hear(("gave", "b", "a", 5, True))
        self.assertEqual(sent, (rows("b", 9, 4, (OWN,), beat=0), rows("c", 9, 4, (OWN,), beat=0)))
        self.assertEqual(house.writes(), (5, "a", 7, STAND, ENTRIES + (OWN,)))
        self.assertEqual((house.part(), house.chair_known()), ("chair", "a"))
        self.assertEqual(house.taken_papers(), (("chair", 5, "a", BENCH, ("a", "b")),))
        self.assertEqual(house.journal(), (("vote", 5, "a", 9, 4), ("put", 5, ("first",))))

    def test_nothing_is_held_nor_answered_at_first(self):
        house = chair()
        # Held 0: more than half hold the place only where they tell so.
        self.assertEqual(house.settled(), 7)
        house.hear(took("b", True, 10, 0))
        house.read("ann", 1, "k")
        self.assertEqual(house.taken_reads(), ())

    def test_all_other_members_are_noted(self):
        bench = (("a", "d"), ("a", "c"), ("b", "d"))
        house = chair(at_first(bench), others=("c", "d"))
        self.assertEqual([letter[2] for letter in house.turn()], ["b", "c", "d"])

    def test_alone_it_settles_at_once(self):
        house = alone()
        self.assertEqual(house.writes(), (1, "a", 1, first_stand((("a",), (), ())), ((1, ("first",)),)))
        self.assertEqual(house.turn(), ())

    def test_a_chair_once_more_notes_anew(self):
        house = chair()
        house.hear(took("b", True, 10, 0))
        house.hear(took("b", False, 99, 0, term=6))
        for _ in range(3):
            house.turn()
        house.hear(("saw", "b", "a", 6, True, 7))
        house.hear(("gave", "b", "a", 7, True))
        own = (7, ("first",))
        self.assertEqual(house.turn(), (rows("b", 10, 5, (own,), 10, 1, 7), rows("c", 10, 5, (own,), 10, 1, 7)))
        self.assertEqual(house.settled(), 10)

    def test_yes_to_its_vote_and_no_others(self):
        house = looker(at_first(FIVE))
        for name in "cd":
            house.hear(("saw", name, "a", 0, True, 1))
        for name in ("zed", "e", "b"):
            house.hear(("gave", name, "a", 1, True))
        self.assertEqual(house.taken_papers(), (("chair", 1, "a", FIVE, ("a", "b", "e", "zed")),))

    def test_who_said_yes_twice_is_told_once(self):
        house = asker(at_first(FIVE), others=("b", "c"))
        for name in ("c", "c", "b"):
            house.hear(("gave", name, "a", 1, True))
        self.assertEqual(house.taken_papers(), (("chair", 1, "a", FIVE, ("a", "b", "c")),))


class Fillings(unittest.TestCase):
    def test_a_turn(self):
        house = chair()
        for beat in (1, 2, 3):
            self.assertEqual(house.turn(), (rows("b", 9, 4, (OWN,), beat=beat), rows("c", 9, 4, (OWN,), beat=beat)))
        self.assertEqual(house.writes(), (5, "a", 7, STAND, ENTRIES + (OWN,)))

    def test_rows_from_next_on(self):
        house = chair()
        for settled in (0, 5, 6, 7, 8, 9):
            house.hear(took("b", False, settled))
            before = max(settled, 5)
            row = house.row()
            if settled >= 5:
                self.assertEqual(
                    house.turn()[0][:8], rows("b", before, row.term_at(before), row.behind(before))[:8]
                )

    def test_at_the_stand_s_place_and_one_beyond(self):
        house = chair()
        # Next is 5, the stand's place; then 6, one beyond it.
        self.assertEqual(house.hear(took("b", False, 4)), (piece("b", 0, 0),))
        self.assertEqual(house.hear(took("b", False, 5)), (rows("b", 5, 2, ENTRIES + (OWN,), beat=0),))

    def test_the_piece_with_the_number_that_is_lacking(self):
        house = chair()
        house.hear(took("c", False, 0))
        for number in range(len(TEXTS)):
            self.assertEqual(house.hear(got("c", 5, number)), (piece("c", number, 0),))
            self.assertEqual(fillings(house), (rows("b", 9, 4, (OWN,)), piece("c", number)))

    def test_sizes_of_pieces(self):
        for size in (1, 7, 200):
            house = chair(size=size)
            texts = pieces(shown_stand(STAND), size)
            house.hear(took("c", False, 0))
            sent = house.hear(got("c", 5, len(texts) - 1))
            self.assertEqual(
                sent, (("piece", "a", "c", 5, 5, 2, len(texts) - 1, len(texts), texts[-1], 0),)
            )

    def test_the_settled_place_is_that_of_the_sending(self):
        house = chair()
        house.hear(took("b", True, 10))
        self.assertEqual(house.turn()[1], rows("c", 9, 4, (OWN,), settled=10))
        self.assertEqual(house.turn()[0], rows("b", 10, 5, (), settled=10, beat=2))


class TookAndGot(unittest.TestCase):
    def test_yes(self):
        house = chair()
        self.assertEqual(house.hear(took("c", True, 10)), ())
        self.assertEqual((house.settled(), fillings(house)[1]), (10, rows("c", 10, 5, (), 10)))
        # Held and next never fall.
        for place in (0, 4, 9, 10):
            self.assertEqual(house.hear(took("c", True, place)), ())
            self.assertEqual(fillings(house)[1], rows("c", 10, 5, (), 10))

    def test_yes_below_next_leaves_it(self):
        house = chair()
        house.hear(took("c", True, 6))
        self.assertEqual(fillings(house)[1], rows("c", 9, 4, (OWN,)))
        self.assertEqual(house.settled(), 7)
        self.assertEqual(house.hear(took("c", False, 2)), (rows("c", 6, 2, ENTRIES[1:] + (OWN,), beat=0),))

    def test_no(self):
        house = chair()
        self.assertEqual(house.hear(took("c", False, 7)), (rows("c", 7, 3, ENTRIES[2:] + (OWN,), beat=0),))
        self.assertEqual(fillings(house), (rows("b", 9, 4, (OWN,)), rows("c", 7, 3, ENTRIES[2:] + (OWN,))))
        self.assertEqual(house.hear(took("c", False, 8)), (rows("c", 8, 3, ENTRIES[3:] + (OWN,), beat=0),))
        self.assertEqual(house.settled(), 7)

    def test_got_of_its_stand_s_place_and_of_another(self):
        house = chair()
        house.hear(took("c", False, 0))
        self.assertEqual(house.hear(got("c", 5, 3)), (piece("c", 3, 0),))
        for place in (0, 4, 6, 10 ** 60):
            house.hear(got("c", 5, 3))
            self.assertEqual(house.hear(got("c", place, 2)), (piece("c", 0, 0),))

    def test_got_where_rows_are_due(self):
        house = chair()
        self.assertEqual(house.hear(got("c", 5, 3)), (rows("c", 9, 4, (OWN,), beat=0),))
        self.assertEqual(house.hear(took("c", False, 1)), (piece("c", 3, 0),))

    def test_of_other_terms(self):
        house = chair()
        before = all_told(house)
        for term in (0, 4):
            for letter in (took("b", True, 10, 0, term), took("b", False, 1, 0, term), got("b", 5, 1, 0, term)):
                self.assertEqual(house.hear(letter), ())
        self.assertEqual(all_told(house), before)
        for letter in (took("b", True, 10, 0, 6), took("b", False, 1, 0, 6), got("b", 5, 1, 0, 6)):
            house = chair()
            self.assertEqual(house.hear(letter), ())
            self.assertEqual((house.part(), house.writes()[0], house.settled()), ("plain", 6, 7))

    def test_from_who_is_no_member(self):
        house = chair()
        before = all_told(house)
        for name in ("d", "zed"):
            for letter in (took(name, True, 10), took(name, False, 1), got(name, 5, 1)):
                self.assertEqual(house.hear(letter), ())
        self.assertEqual(all_told(house), before)

    def test_by_one_that_is_no_chair(self):
        for make, own in ((plain, 4), (looker, 4), (asker, 5)):
            house = make()
            before = all_told(house)
            for letter in (took("b", True, 9, 0, own), took("b", False, 1, 0, own), got("b", 5, 1, 0, own)):
                self.assertEqual(house.hear(letter), ())
            self.assertEqual(all_told(house), before)

    def test_from_a_learner(self):
        house = chair(at_first((("a", "b"), (), ("c",))), others=("b",))
        self.assertEqual(house.hear(took("c", True, 1, 0, 1)), ())
        self.assertEqual((house.settled(), fillings(house)[1]), (0, rows("c", 1, 1, (), 0, 1, 1)))


class Settles(unittest.TestCase):
    def test_at_the_very_half_and_one_beyond(self):
        for bench, names in (
            (FIVE, "bc"), ((tuple("abcd"), (), ()), "bc"), ((tuple("ab"), (), ()), "b"), ((tuple("abcdefg"), (), ()), "gfe"),
        ):
            house = chair(at_first(bench), others=bench[0][1:])
            for name in names[:-1]:
                house.hear(took(name, True, 1, 0, 1))
                self.assertEqual(house.settled(), 0)
            house.hear(took(names[-1], True, 1, 0, 1))
            self.assertEqual(house.settled(), 1)

    def test_of_joined_benches(self):
        # Two of a b c, and three of c d e f; behind the joined one comes the plain one.
        bench = (("a", "b", "c"), ("c", "d", "e", "f"), ("g",))
        house = chair(at_first(bench), others="bcdef")
        for name in "gbde":
            self.assertEqual(house.hear(took(name, True, 1, 0, 1)), ())
            self.assertEqual(house.settled(), 0)
        sent = house.hear(took("f", True, 1, 0, 1))
        self.assertEqual(house.settled(), 1)
        plain_one = (("c", "d", "e", "f"), (), ("g",))
        self.assertEqual(house.row().entries, ((1, ("first",)), (1, ("bench", plain_one))))
        entry = ((1, ("bench", plain_one)),)
        heads = {"c": (0, 0, house.row().entries)}
        self.assertEqual(
            sent, tuple(rows(name, *heads.get(name, (1, 1, entry)), 1, 0, 1) for name in "cdefg")
        )

    def test_by_its_own_term_alone(self):
        house = chair((4, None, 5, STAND, ENTRIES))
        for place in (6, 7, 8, 9):
            house.hear(took("b", True, place))
            house.hear(took("c", True, place))
            self.assertEqual((house.settled(), house.taken_answers()), (5, ()))
        house.hear(took("c", True, 10))
        self.assertEqual((house.settled(), house.table().told()), (10, ((("k", 8), ("m", 3)), (("ann", 4, 8), ("bob", 2, 3)))))
        self.assertEqual(house.taken_answers(), (("ann", 4, 8), ("bob", 2, 3)))

    def test_up_to_the_greatest_place(self):
        house = chair()
        for number in (5, 6, 7):
            house.ask("ann", number, ("add", "k", 1))
        house.hear(took("b", True, 12))
        self.assertEqual((house.settled(), house.table().holds("k")), (12, 10))
        house.hear(took("c", True, 11))
        self.assertEqual(house.settled(), 12)
        house.hear(took("c", True, 13))
        self.assertEqual((house.settled(), house.table().holds("k")), (13, 11))

    def test_up_to_the_greatest_of_several_at_once(self):
        # Who learns holds a lesser place ahead: more than half hold both places by one and the same letter.
        for first in (2, 3, 4):
            house = chair(at_first((("a", "b", "c"), (), ("d", "e"))))
            for number in (1, 2, 3):
                house.ask("ann", number, ("add", "k", 1))
            house.hear(took("d", True, first, 0, 1))
            house.hear(took("e", True, 1, 0, 1))
            house.hear(took("b", True, 3, 0, 1))
            self.assertEqual((house.settled(), house.table().holds("k")), (3, 2))

    def test_papers_of_it(self):
        house = chair()
        house.taken_papers()
        house.ask("ann", 5, ("add", "k", 1))
        house.hear(took("b", True, 10))
        self.assertEqual(house.taken_papers(), (("settled", 5, "a", 10, ENTRIES[2:] + (OWN,), BENCH, ("a", "b")),))
        house.hear(took("b", True, 10))
        self.assertEqual(house.taken_papers(), ())
        house.hear(took("c", True, 11))
        self.assertEqual(house.taken_papers(), (("settled", 5, "a", 11, ((5, ask("ann", 5, "k", 1)),), BENCH, ("a", "c")),))

    def test_papers_bear_all_holders_and_the_row_s_bench(self):
        bench = (("a", "b", "c"), (), ("d",))
        house = chair(at_first(bench))
        house.taken_papers()
        house.hear(took("d", True, 1, 0, 1))
        house.hear(took("c", True, 1, 0, 1))
        self.assertEqual(house.taken_papers(), (("settled", 1, "a", 1, ((1, ("first",)),), bench, ("a", "c", "d")),))
        house.change(("a", "b"), ())
        other = (bench[0], ("a", "b"), ())
        house.hear(took("c", True, 2, 0, 1))
        house.hear(took("b", True, 2, 0, 1))
        self.assertEqual(
            house.taken_papers(), (("settled", 1, "a", 2, ((1, ("bench", other)),), other, ("a", "b", "c")),)
        )

    def test_a_cut_amid_it(self):
        house = chair()
        house.hear(took("b", True, 10))
        house.cut()
        house.ask("ann", 5, ("add", "k", 1))
        house.taken_papers()
        house.hear(took("b", True, 11))
        self.assertEqual(house.taken_papers(), (("settled", 5, "a", 11, ((5, ask("ann", 5, "k", 1)),), BENCH, ("a", "b")),))
        self.assertEqual(house.table().holds("k"), 9)


class BenchesSettled(unittest.TestCase):
    def test_joined_by_a_chair_ahead(self):
        # The joined bench is settled already where the new chair settles its own first entry.
        bench = (("a", "b"), ("a", "c"), ())
        house = chair((4, None, 7, (7, 4, bench, (), ()), ()), others=("b", "c"))
        self.assertEqual(house.hear(took("b", True, 8)), ())
        sent = house.hear(took("c", True, 8))
        entry = (5, ("bench", (("a", "c"), (), ())))
        self.assertEqual((house.settled(), house.row().entries), (8, (OWN, entry)))
        self.assertEqual(sent, (rows("c", 8, 5, (entry,), 8, 0),))
        self.assertEqual(house.journal()[-1], ("put", 5, entry[1]))
        self.assertEqual(house.hear(took("b", True, 9)), ())
        self.assertEqual(house.settled(), 8)
        house.hear(took("c", True, 9))
        self.assertEqual((house.settled(), house.part()), (9, "chair"))

    def test_one_that_is_not_settled_yet_is_let_be(self):
        entry = (5, ("bench", (("a", "b"), ("a", "c"), ())))
        house = chair(at_first((("a", "b"), (), ()), 4))
        house.hear(took("b", True, 1))
        house.change(("a", "c"), ())
        house.ask("ann", 1, ("add", "k", 1))
        self.assertEqual(house.row().entries, (OWN, entry, (5, ask("ann", 1, "k", 1))))
        house.hear(took("b", True, 2))
        house.hear(took("c", True, 2))
        self.assertEqual((house.settled(), len(house.row().entries)), (2, 4))

    def test_places_ahead_of_one_that_is_not_settled_yet(self):
        house = chair(at_first((("a", "b"), (), ()), 4))
        house.hear(took("b", True, 1))
        house.ask("ann", 1, ("add", "k", 1))
        house.change(("b", "c"), ())
        house.hear(took("b", True, 2))
        self.assertEqual(house.hear(took("c", True, 2)), ())
        self.assertEqual((house.settled(), house.part(), len(house.row().entries)), (2, "chair", 3))
        house.ask("ann", 2, ("add", "k", 1))
        house.hear(took("b", True, 3))
        house.hear(took("c", True, 3))
        # The plain bench stands at place 5; place 4 is settled by it ahead of it, and the chair is chair still.
        self.assertEqual((house.settled(), house.row().bench_place()), (3, 5))
        house.hear(took("b", True, 4))
        self.assertEqual(house.hear(took("c", True, 4)), ())
        self.assertEqual((house.settled(), house.part()), (4, "chair"))
        house.hear(took("b", True, 5))
        house.hear(took("c", True, 5))
        self.assertEqual((house.settled(), house.part()), (5, "plain"))

    def test_settled_alone_at_once_up_to_the_plain_one(self):
        house = alone()
        house.hear(("look", "b", "a", 9, 9, 9))
        sent = house.change(("a",), ("b",))
        entries = ((1, ("first",)), (1, ("bench", (("a",), ("a",), ("b",)))), (1, ("bench", (("a",), (), ("b",)))))
        self.assertEqual((house.row().entries, house.settled(), house.part()), (entries, 3, "chair"))
        self.assertEqual(
            sent, (rows("b", 1, 1, entries[1:2], 1, 0, 1), rows("b", 1, 1, entries[1:], 2, 0, 1))
        )
        self.assertEqual([paper[3] for paper in house.taken_papers()[1:]], [1, 2, 3])

    def test_a_chair_that_is_no_voter_any_more(self):
        house = chair(at_first((("a", "b"), (), ()), 4))
        house.hear(took("b", True, 1))
        house.change(("b", "c"), ("a",))
        house.hear(took("c", True, 2))
        house.hear(took("b", True, 2))
        self.assertEqual((house.settled(), house.part(), len(house.row().entries)), (2, "chair", 3))
        house.hear(took("b", True, 3))
        self.assertEqual((house.settled(), house.part()), (2, "chair"))
        self.assertEqual(house.hear(took("c", True, 3)), ())
        self.assertEqual((house.settled(), house.part(), house.chair_known()), (3, "plain", None))
        self.assertEqual(house.writes()[:2], (5, "a"))
        self.assertEqual(house.hear(took("c", True, 3)), ())
        for _ in range(5):
            self.assertEqual(house.turn(), ())

    def test_the_plain_one_is_held_by_its_own_voters_alone(self):
        house = chair(at_first((("a", "b", "c"), (), ()), 4))
        house.hear(took("b", True, 1))
        house.change(("d",), ())
        house.hear(took("b", True, 2))
        self.assertEqual((house.settled(), house.part()), (1, "chair"))
        sent = house.hear(took("d", True, 2))
        self.assertEqual(house.settled(), 2)
        self.assertEqual(sent, (rows("d", 2, 5, ((5, ("bench", (("d",), (), ()))),), 2, 0),))
        house.hear(took("b", True, 3))
        self.assertEqual((house.settled(), house.part()), (2, "chair"))
        house.hear(took("d", True, 3))
        self.assertEqual((house.settled(), house.part()), (3, "plain"))

    def test_no_voter_of_a_plain_bench_that_is_not_settled_goes_on(self):
        entries = ((4, ("bench", (("a", "b"), ("b", "c"), ()))), (4, ("bench", (("b", "c"), (), ()))))
        house = chair((4, None, 6, (5, 4, (("a", "b"), (), ()), (), ()), entries), others=("b", "c"))
        self.assertEqual((house.part(), house.settled()), ("chair", 6))
        house.hear(took("b", True, 8))
        self.assertEqual((house.part(), house.settled()), ("chair", 6))
        house.hear(took("c", True, 8))
        self.assertEqual((house.part(), house.chair_known(), house.settled()), ("plain", None, 8))


class Asks(Refusing):
    def test_put_and_sent_and_settled(self):
        house = chair()
        entry = (5, ask("ann", 5, "k", 1))
        sent = house.ask("ann", 5, ("add", "k", 1))
        self.assertEqual(sent, (rows("b", 9, 4, (OWN, entry), beat=0), rows("c", 9, 4, (OWN, entry), beat=0)))
        self.assertEqual((house.row().entries, house.taken_answers()), (ENTRIES + (OWN, entry), ()))
        self.assertEqual(house.journal()[-1], ("put", 5, entry[1]))
        house.hear(took("b", True, 11))
        self.assertEqual(house.taken_answers(), (("bob", 2, 3), ("ann", 5, 9)))

    def test_alone_it_is_answered_at_once(self):
        house = alone()
        self.assertEqual(house.ask("ann", 1, ("put", "k", 5)), ())
        self.assertEqual(house.taken_answers(), (("ann", 1, None),))
        self.assertEqual(house.settled(), 2)

    def test_one_again(self):
        house = alone()
        house.ask("ann", 2, ("add", "k", 5))
        before = house.writes()
        # Whatever work is told with it: the kept answer is told.
        for work in (("add", "k", 5), ("drop", "k")):
            self.assertEqual(house.ask("ann", 2, work), ())
            self.assertEqual(house.writes(), before)
        self.assertEqual(house.taken_answers(), (("ann", 2, 5),) * 3)
        self.assertEqual(len(house.journal()), 3)

    def test_one_old(self):
        house = alone()
        house.ask("ann", 2, ("add", "k", 5))
        before = all_told(house)
        self.refuses(Old, house.ask, "ann", 1, ("add", "k", 5))
        self.assertEqual(all_told(house), before)
        self.assertEqual(house.ask("bob", 1, ("add", "k", 5)), ())

    def test_one_that_waits_is_put_again_and_done_once(self):
        house = chair()
        house.ask("ann", 5, ("add", "k", 1))
        house.ask("ann", 5, ("add", "k", 1))
        house.ask("ann", 6, ("add", "k", 1))
        house.ask("ann", 5, ("add", "k", 1))
        self.assertEqual(house.row().last_place(), 14)
        house.taken_answers()
        house.hear(took("c", True, 14))
        # The last one is old when it is done, and is not answered.
        self.assertEqual(house.taken_answers(), (("bob", 2, 3), ("ann", 5, 9), ("ann", 5, 9), ("ann", 6, 10)))
        self.assertEqual(house.table().holds("k"), 10)

    def test_no_ask(self):
        for make in (plain, chair, alone):
            house = make()
            before = all_told(house)
            for name in NO_NAMES:
                self.refuses(NoDeed, house.ask, name, 1, ("drop", "k"))
            for number in NO_WHOLES + (0, -1, -GREAT):
                self.refuses(NoDeed, house.ask, "ann", number, ("drop", "k"))
            for work in NO_WORKS:
                self.refuses(NoDeed, house.ask, "ann", 99, work)
            self.assertEqual(all_told(house), before)

    def test_no_chair(self):
        for make in (plain, looker, asker):
            house = make()
            before = all_told(house)
            for number in (1, 4, 5):
                with self.assertRaises(NotChair) as caught:
                    house.ask("ann", number, ("add", "k", 1))
                self.assertIsNone(caught.exception.chair)
            self.assertEqual(all_told(house), before)
        house = plain()
        house.hear(("rows", "c", "a", 4, 9, 4, (), 0, 0))
        with self.assertRaises(NotChair) as caught:
            house.ask("ann", 1, ("add", "k", 1))
        self.assertEqual(caught.exception.chair, "c")

    def test_what_is_done_at_the_table_counts_not_what_waits(self):
        house = chair()
        self.assertEqual(len(house.ask("bob", 1, ("drop", "m"))), 0)
        self.assertEqual(house.taken_answers(), (("bob", 1, None),))
        self.refuses(Old, house.ask, "ann", 3, ("drop", "m"))
        self.assertEqual(len(house.ask("bob", 2, ("drop", "m"))), 2)

    def test_several_at_once(self):
        house = chair()
        house.ask("ann", 5, ("put", "k", 1))
        house.ask("cid", 1, ("drop", "k"))
        house.ask("ann", 6, ("drop", "k"))
        house.hear(took("b", True, 13))
        self.assertEqual(house.taken_answers(), (("bob", 2, 3), ("ann", 5, 8), ("cid", 1, 1), ("ann", 6, None)))
        self.assertEqual(house.table().told()[0], (("m", 3),))
