"""Points 19 and 20: terms lesser, the same and greater, of each kind of letter, at each part of a house."""

import unittest

from chainhouse.stands import shown_stand
from scenes import BENCH, ENTRIES, STAND, all_told, asker, chair, looker, plain, turns_left

TEXT = shown_stand((20, 4, BENCH, (), ()))


def letters(term):
    """One of each kind but look, from c."""
    return {
        "saw": ("saw", "c", "a", term, True, term + 1), "vote": ("vote", "c", "a", term, 9, 4),
        "gave": ("gave", "c", "a", term, True), "rows": ("rows", "c", "a", term, 7, 3, (), 0, 6),
        "took": ("took", "c", "a", term, True, 7, 0), "piece": ("piece", "c", "a", term, 20, 4, 0, 2, TEXT[:9], 6),
        "got": ("got", "c", "a", term, 5, 0, 0),
    }


MAKES = (plain, looker, asker, chair)


def known(word, otherwise):
    return "c" if word in ("rows", "piece") else otherwise


class Greater(unittest.TestCase):
    def test_the_term_becomes_its_own(self):
        for make in MAKES:
            for term in (6, 7, 10 ** 60):
                for word, letter in letters(term).items():
                    house = make()
                    house.hear(letter)
                    vote = "c" if word == "vote" and make != chair else None
                    self.assertEqual(house.writes()[:2], (term, vote), (make, word))
                    self.assertEqual((house.part(), house.chair_known()), ("plain", known(word, None)), (make, word))

    def test_just_one_more(self):
        for make, own in ((plain, 4), (looker, 4), (asker, 5), (chair, 5)):
            for word, letter in letters(own + 1).items():
                house = make()
                house.hear(letter)
                self.assertEqual((house.writes()[0], house.part()), (own + 1, "plain"))

    def test_then_it_is_heard(self):
        answers = {
            "saw": (), "gave": (), "took": (), "got": (), "vote": (("gave", "a", "c", 9, True),),
            "rows": (("took", "a", "c", 9, True, 7, 6),), "piece": (("got", "a", "c", 9, 20, 1, 6),),
        }
        for make in (plain, looker, asker):
            for word, letter in letters(9).items():
                self.assertEqual(make().hear(letter), answers[word])
        # The chair's own first entry is of term 5, at place 10: c's row is behind it.
        answers["vote"] = (("gave", "a", "c", 9, False),)
        for word, letter in letters(9).items():
            self.assertEqual(chair().hear(letter), answers[word])

    def test_what_was_noted_as_chair_is_gone(self):
        for letter in letters(9).values():
            house = chair()
            house.hear(("took", "b", "a", 5, True, 10, 0))
            house.read("ann", 1, "k")
            house.taken_reads()
            house.hear(letter)
            self.assertEqual(house.hear(("took", "b", "a", 9, True, 10, 9)), ())
            self.assertEqual(house.taken_reads(), ())

    def test_quiet_stays_but_where_the_letter_ends_it(self):
        for word, letter in letters(9).items():
            house = plain()
            house.turn()
            house.turn()
            house.hear(letter)
            self.assertEqual(turns_left(house), 3 if word in ("rows", "piece", "vote") else 1, word)

    def test_a_look_changes_nothing(self):
        for make, own in ((plain, 4), (looker, 4), (asker, 5), (chair, 5)):
            for term in (0, own, own + 1, own + 7, 10 ** 60):
                for place, last in ((0, 0), (9, 4), (99, 99)):
                    house = make()
                    before = all_told(house)
                    sent = house.hear(("look", "c", "a", term, place, last))
                    self.assertEqual(all_told(house), before)
                    self.assertEqual((sent[0][:4], sent[0][5]), (("saw", "a", "c", own), term))

    def test_a_house_of_the_greater_term_goes_on(self):
        house = chair()
        house.hear(letters(9)["took"])
        house.turn()
        house.turn()
        self.assertEqual(house.turn(), (("look", "a", "b", 10, 10, 5), ("look", "a", "c", 10, 10, 5)))


class TheSame(unittest.TestCase):
    def test_term_and_vote_stay(self):
        for make, own, vote in ((plain, 4, "b"), (looker, 4, "b"), (asker, 5, "a"), (chair, 5, "a")):
            for word in ("vote", "rows", "took", "piece", "got"):
                house = make()
                house.hear(letters(own)[word])
                self.assertEqual(house.writes()[:2], (own, vote))

    def test_rows_and_pieces_make_it_plain(self):
        for make, own in ((plain, 4), (looker, 4), (asker, 5)):
            for word in ("rows", "piece"):
                house = make()
                house.hear(letters(own)[word])
                self.assertEqual((house.part(), house.chair_known()), ("plain", "c"))

    def test_others_leave_its_part(self):
        for make, own, part in ((plain, 4, "plain"), (looker, 4, "looker"), (asker, 5, "asker"), (chair, 5, "chair")):
            for word in ("vote", "took", "got"):
                house = make()
                house.hear(letters(own)[word])
                self.assertEqual(house.part(), part)

    def test_a_chair_hears_no_rows_nor_pieces_of_its_term(self):
        for word in ("rows", "piece"):
            house = chair()
            before = all_told(house)
            self.assertEqual(house.hear(letters(5)[word]), ())
            self.assertEqual(all_told(house), before)


class Lesser(unittest.TestCase):
    def test_nothing_is_changed(self):
        for make, own in ((plain, 4), (looker, 4), (asker, 5), (chair, 5)):
            for term in (0, 1, own - 1):
                for word, letter in letters(term).items():
                    house = make()
                    house.turn()
                    before = all_told(house)
                    house.hear(letter)
                    self.assertEqual(all_told(house), before, (make, word))

    def test_what_is_answered(self):
        for make, own in ((plain, 4), (looker, 4), (asker, 5), (chair, 5)):
            for term in (0, 1, own - 1):
                for word, letter in letters(term).items():
                    sent = make().hear(letter)
                    if word == "vote":
                        self.assertEqual(sent, (("gave", "a", "c", own, False),))
                    elif word in ("rows", "piece"):
                        self.assertEqual(sent, (("took", "a", "c", own, False, 7, 0),))
                    else:
                        self.assertEqual(sent, ())

    def test_whoever_sent_it(self):
        house = plain((4, None, 7, STAND, ENTRIES))
        self.assertEqual(house.hear(("vote", "zed", "a", 3, 99, 99)), (("gave", "a", "zed", 4, False),))
        self.assertEqual(house.hear(("rows", "zed", "a", 4, 7, 3, (), 0, 1)), (("took", "a", "zed", 4, True, 7, 1),))
        self.assertEqual(house.chair_known(), "zed")
        self.assertEqual(house.hear(("vote", "yan", "a", 4, 99, 99)), (("gave", "a", "yan", 4, True),))
