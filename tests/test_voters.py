"""Points 25 to 28: turns of a house that is no chair, looks, saw, standing, votes, gave."""

import unittest

from chainhouse.houses import House
from chainhouse.stands import first_stand
from scenes import AMID, AT_FIRST, ENTRIES, STAND, WAIT, all_told, alone, asker, chair, looker, plain, turns_left, up

FIVE = (tuple("abcde"), (), ())
JOINED = (("a", "b", "c"), ("c", "d", "e", "f"), ("g",))


def at_first(bench, term=0):
    return (term, None, 0, first_stand(bench), ())


class Turns(unittest.TestCase):
    def test_one_less_than_the_wait_and_just_the_wait(self):
        for wait in (2, 3, 20):
            house = plain(wait=wait)
            for _ in range(wait - 1):
                self.assertEqual(house.turn(), ())
                self.assertEqual((house.part(), house.writes()), ("plain", AMID))
            self.assertEqual(house.turn(), (("look", "a", "b", 5, 9, 4), ("look", "a", "c", 5, 9, 4)))
            self.assertEqual((house.part(), house.chair_known(), house.writes()), ("looker", None, AMID))
            self.assertEqual(turns_left(house), wait)

    def test_a_looker_and_an_asker_look_again(self):
        house = looker()
        self.assertEqual((house.turn(), house.turn(), house.part()), ((), (), "looker"))
        self.assertEqual(house.turn(), (("look", "a", "b", 5, 9, 4), ("look", "a", "c", 5, 9, 4)))
        house = asker()
        self.assertEqual((house.turn(), house.turn(), house.part()), ((), (), "asker"))
        self.assertEqual(house.turn(), (("look", "a", "b", 6, 9, 4), ("look", "a", "c", 6, 9, 4)))
        self.assertEqual((house.part(), house.writes()[:2]), ("looker", (5, "a")))

    def test_a_chair_that_was_known_is_known_no_more(self):
        house = plain(wait=2)
        house.hear(("rows", "b", "a", 4, 9, 4, (), 0, 0))
        house.turn()
        self.assertEqual(house.chair_known(), "b")
        house.turn()
        self.assertEqual((house.part(), house.chair_known()), ("looker", None))

    def test_who_said_yes_ahead_counts_no_more(self):
        house = looker(at_first(FIVE))
        house.hear(("saw", "b", "a", 0, True, 1))
        for _ in range(WAIT):
            house.turn()
        self.assertEqual((house.hear(("saw", "c", "a", 0, True, 1)), house.part()), ((), "looker"))
        self.assertNotEqual(house.hear(("saw", "d", "a", 0, True, 1)), ())

    def test_looks_go_to_the_other_speakers_by_names(self):
        house = looker(at_first(JOINED, 3), name="c")
        for _ in range(WAIT - 1):
            house.turn()
        self.assertEqual(house.turn(), tuple(("look", "c", name, 4, 0, 0) for name in "abdef"))

    def test_no_speaker_of_its_row_s_bench_but_of_the_settled_place_s(self):
        # The bench in which it speaks is that of the settled place; its row ends with one without it.
        entries = ((4, ("bench", (("a", "b"), ("b", "c"), ()))), (4, ("bench", (("b", "c"), (), ()))))
        stand = (5, 4, (("a", "b"), (), ()), (), ())
        house = up((4, None, 6, stand, entries), wait=2)
        house.turn()
        self.assertEqual(house.turn(), (("look", "a", "b", 5, 7, 4), ("look", "a", "c", 5, 7, 4)))
        # Its own yes counts for nothing in the row's bench.
        self.assertEqual(house.hear(("saw", "b", "a", 4, True, 5)), ())
        self.assertEqual(
            house.hear(("saw", "c", "a", 4, True, 5)), (("vote", "a", "b", 5, 7, 4), ("vote", "a", "c", 5, 7, 4))
        )

    def test_speaker_of_neither(self):
        entries = ((4, ("bench", (("a", "b"), ("b", "c"), ("a",)))), (4, ("bench", (("b", "c"), (), ("a",)))))
        stand = (5, 4, (("a", "b"), (), ()), (), ())
        house = up((4, None, 7, stand, entries), wait=2)
        for _ in range(10):
            self.assertEqual(house.turn(), ())
        self.assertEqual((house.part(), house.writes()[:2]), ("plain", (4, None)))
        # Its quiet went on meanwhile: so it says yes to a look though it knows a chair.
        house.hear(("rows", "b", "a", 4, 7, 4, (), 0, 0))
        self.assertIs(house.hear(("look", "c", "a", 5, 9, 9))[0][4], False)
        house.turn()
        self.assertIs(house.hear(("look", "c", "a", 5, 9, 9))[0][4], False)
        house.turn()
        self.assertIs(house.hear(("look", "c", "a", 5, 9, 9))[0][4], True)

    def test_speaker_of_its_row_s_bench_alone(self):
        entries = ((4, ("bench", (("b", "c"), ("a", "b"), ()))),)
        house = up((4, None, 5, (5, 4, (("b", "c"), (), ()), (), ()), entries), wait=2)
        house.turn()
        self.assertEqual(house.turn(), (("look", "a", "b", 5, 6, 4), ("look", "a", "c", 5, 6, 4)))

    def test_a_learner_and_a_stranger_never_look(self):
        for bench in ((("b", "c"), (), ("a",)), (("b", "c"), (), ())):
            house = up(at_first(bench), wait=2)
            for _ in range(7):
                self.assertEqual(house.turn(), ())
            self.assertEqual(house.part(), "plain")

    def test_one_voter_alone(self):
        bench = (("a",), (), ("d",))
        house = House("a", 2, 10, bench)
        self.assertEqual(house.turn(), ())
        self.assertEqual(house.turn(), (("rows", "a", "d", 1, 0, 0, ((1, ("first",)),), 0, 0),))
        self.assertEqual((house.part(), house.chair_known()), ("chair", "a"))
        self.assertEqual(house.writes(), (1, "a", 1, first_stand(bench), ((1, ("first",)),)))
        self.assertEqual(house.journal(), (("vote", 1, "a", 0, 0), ("put", 1, ("first",))))
        self.assertEqual(alone().part(), "chair")

    def test_one_voter_of_a_joined_bench_is_not_alone(self):
        house = looker(at_first((("a",), ("a", "b"), ())))
        self.assertEqual(house.part(), "looker")
        self.assertEqual(chair(at_first((("a",), ("a",), ())), others=()).part(), "chair")


class Looks(unittest.TestCase):
    def test_yes(self):
        self.assertEqual(plain().hear(("look", "c", "a", 5, 9, 4)), (("saw", "a", "c", 4, True, 5),))
        self.assertEqual(plain(AT_FIRST).hear(("look", "c", "a", 1, 0, 0)), (("saw", "a", "c", 0, True, 1),))

    def test_the_term_must_be_greater(self):
        for term, yes in ((0, False), (3, False), (4, False), (5, True), (6, True), (10 ** 60, True)):
            self.assertEqual(plain().hear(("look", "c", "a", term, 9, 4)), (("saw", "a", "c", 4, yes, term),))

    def test_the_row_must_not_be_behind(self):
        for place, last, yes in (
            (9, 4, True), (8, 4, False), (10, 4, True), (0, 5, True), (1, 5, True), (9, 3, False), (99, 3, False), (0, 4, False),
        ):
            self.assertEqual(plain().hear(("look", "c", "a", 5, place, last)), (("saw", "a", "c", 4, yes, 5),))

    def test_no_chair_says_yes(self):
        for house in (chair(), alone()):
            sent = house.hear(("look", "c", "a", 99, 99, 99))
            self.assertEqual(sent, (("saw", "a", "c", house.writes()[0], False, 99),))

    def test_lookers_and_askers_do(self):
        self.assertEqual(looker().hear(("look", "c", "a", 5, 9, 4)), (("saw", "a", "c", 4, True, 5),))
        self.assertEqual(asker().hear(("look", "c", "a", 6, 9, 4)), (("saw", "a", "c", 5, True, 6),))

    def test_who_knows_a_chair_waits(self):
        house = up((4, None, 7, (5, 2, (("b", "c"), (), ()), (), ()), ENTRIES), wait=3)
        house.hear(("rows", "b", "a", 4, 9, 4, (), 0, 0))
        for quiet in range(6):
            self.assertEqual(house.hear(("look", "c", "a", 5, 9, 4)), (("saw", "a", "c", 4, quiet >= 3, 5),))
            house.turn()

    def test_from_whoever(self):
        self.assertEqual(plain().hear(("look", "zed", "a", 5, 9, 4)), (("saw", "a", "zed", 4, True, 5),))


class Saws(unittest.TestCase):
    def test_more_than_half_stands(self):
        house = looker()
        self.assertEqual(
            house.hear(("saw", "c", "a", 4, True, 5)), (("vote", "a", "b", 5, 9, 4), ("vote", "a", "c", 5, 9, 4))
        )
        self.assertEqual(house.writes(), (5, "a", 7, STAND, ENTRIES))
        self.assertEqual((house.part(), house.chair_known(), turns_left(house)), ("asker", None, 3))
        self.assertEqual(house.journal(), (("vote", 5, "a", 9, 4),))

    def test_quiet_is_nought_then(self):
        house = looker()
        house.turn()
        house.turn()
        house.hear(("saw", "c", "a", 4, True, 5))
        self.assertEqual(turns_left(house), 3)

    def test_at_the_very_half_and_one_beyond(self):
        for bench, names in (
            (FIVE, "bc"), ((tuple("abcd"), (), ()), "bc"), ((tuple("ab"), (), ()), "b"), ((tuple("abcdefg"), (), ()), "gfe"),
        ):
            house = looker(at_first(bench, 2))
            for name in names[:-1]:
                self.assertEqual(house.hear(("saw", name, "a", 2, True, 3)), ())
                self.assertEqual(house.part(), "looker")
            sent = house.hear(("saw", names[-1], "a", 2, True, 3))
            self.assertEqual(sent, tuple(("vote", "a", name, 3, 0, 0) for name in bench[0][1:]))

    def test_of_joined_benches(self):
        # Two of a b c, and three of c d e f.
        house = looker(at_first(JOINED))
        for name in "bde":
            self.assertEqual((house.hear(("saw", name, "a", 0, True, 1)), house.part()), ((), "looker"))
        self.assertEqual(
            house.hear(("saw", "f", "a", 0, True, 1)), tuple(("vote", "a", name, 1, 0, 0) for name in "bcdef")
        )
        house = looker(at_first(JOINED))
        for name in "def":
            self.assertEqual((house.hear(("saw", name, "a", 0, True, 1)), house.part()), ((), "looker"))
        house.hear(("saw", "b", "a", 0, True, 1))
        self.assertEqual(house.part(), "asker")

    def test_let_be(self):
        house = looker()
        before = all_told(house)
        for letter in (
            ("saw", "b", "a", 4, False, 5), ("saw", "b", "a", 4, True, 4), ("saw", "b", "a", 4, True, 6),
            ("saw", "b", "a", 4, True, 0), ("saw", "d", "a", 4, True, 5), ("saw", "zed", "a", 4, True, 5),
        ):
            self.assertEqual(house.hear(letter), ())
        self.assertEqual(all_told(house), before)

    def test_of_a_lesser_term_it_counts(self):
        self.assertEqual(len(looker().hear(("saw", "b", "a", 0, True, 5))), 2)

    def test_by_one_that_is_no_looker(self):
        for make, own in ((plain, 4), (asker, 5), (chair, 5)):
            house = make()
            before = all_told(house)
            self.assertEqual(house.hear(("saw", "c", "a", own, True, own + 1)), ())
            self.assertEqual(all_told(house), before)

    def test_one_twice_counts_once(self):
        house = looker(at_first(FIVE))
        for _ in range(3):
            self.assertEqual(house.hear(("saw", "b", "a", 0, True, 1)), ())
        self.assertEqual(house.part(), "looker")

    def test_a_learner_s_yes_counts_for_nothing(self):
        house = looker(at_first((("a", "b", "c"), (), ("d",))))
        self.assertEqual((house.hear(("saw", "d", "a", 0, True, 1)), house.part()), ((), "looker"))

    def test_yes_to_the_look_is_no_vote(self):
        house = asker(at_first(FIVE), others=("b", "c"))
        self.assertEqual((house.hear(("gave", "d", "a", 1, True)), house.part()), ((), "asker"))

    def test_a_house_that_voted_meanwhile_still_looks(self):
        house = looker((4, None, 7, STAND, ENTRIES))
        house.hear(("vote", "b", "a", 4, 9, 4))
        self.assertEqual(house.part(), "looker")
        house.hear(("saw", "c", "a", 4, True, 5))
        self.assertEqual((house.part(), house.writes()[:2]), ("asker", (5, "a")))


class Votes(unittest.TestCase):
    def setUp(self):
        self.house = plain((4, None, 7, STAND, ENTRIES))

    def test_given(self):
        self.house.turn()
        self.assertEqual(self.house.hear(("vote", "c", "a", 4, 9, 4)), (("gave", "a", "c", 4, True),))
        self.assertEqual(self.house.writes(), (4, "c", 7, STAND, ENTRIES))
        self.assertEqual((turns_left(self.house), self.house.part(), self.house.chair_known()), (3, "plain", None))
        self.assertEqual(self.house.journal(), (("vote", 4, "c", 9, 4),))

    def test_of_a_lesser_term(self):
        self.house.turn()
        before = all_told(self.house)
        for term in (0, 3):
            self.assertEqual(self.house.hear(("vote", "c", "a", term, 99, 99)), (("gave", "a", "c", 4, False),))
        self.assertEqual(all_told(self.house), before)

    def test_given_again_to_the_same(self):
        self.house.hear(("vote", "c", "a", 4, 9, 4))
        self.house.turn()
        self.assertEqual(self.house.hear(("vote", "c", "a", 4, 12, 4)), (("gave", "a", "c", 4, True),))
        self.assertEqual((self.house.writes()[1], turns_left(self.house)), ("c", 3))
        self.assertEqual(self.house.journal(), (("vote", 4, "c", 9, 4),))

    def test_not_to_another(self):
        self.house.hear(("vote", "c", "a", 4, 9, 4))
        self.house.turn()
        before = all_told(self.house)
        self.assertEqual(self.house.hear(("vote", "b", "a", 4, 99, 99)), (("gave", "a", "b", 4, False),))
        self.assertEqual(all_told(self.house), before)

    def test_with_a_row_behind_its_own(self):
        self.house.turn()
        before = all_told(self.house)
        for place, last in ((8, 4), (9, 3), (99, 3), (0, 0)):
            self.assertEqual(self.house.hear(("vote", "c", "a", 4, place, last)), (("gave", "a", "c", 4, False),))
        self.assertEqual(all_told(self.house), before)
        self.house.hear(("vote", "c", "a", 4, 9, 4))
        self.assertEqual(self.house.hear(("vote", "c", "a", 4, 8, 4)), (("gave", "a", "c", 4, False),))

    def test_with_a_row_not_behind(self):
        for place, last in ((9, 4), (10, 4), (0, 5), (9, 5)):
            house = plain((4, None, 7, STAND, ENTRIES))
            self.assertEqual(house.hear(("vote", "c", "a", 4, place, last)), (("gave", "a", "c", 4, True),))
            self.assertEqual(house.journal(), (("vote", 4, "c", place, last),))

    def test_of_a_greater_term(self):
        self.assertEqual(plain().hear(("vote", "c", "a", 5, 9, 4)), (("gave", "a", "c", 5, True),))
        house = plain()
        self.assertEqual(house.hear(("vote", "c", "a", 6, 8, 4)), (("gave", "a", "c", 6, False),))
        self.assertEqual(house.writes()[:2], (6, None))
        for make in (looker, asker, chair):
            house = make()
            self.assertEqual(house.hear(("vote", "c", "a", 7, 99, 99)), (("gave", "a", "c", 7, True),))
            self.assertEqual((house.writes()[:2], house.part()), ((7, "c"), "plain"))

    def test_one_who_stands_has_voted(self):
        for make in (asker, chair):
            self.assertEqual(make().hear(("vote", "c", "a", 5, 99, 99)), (("gave", "a", "c", 5, False),))

    def test_a_vote_that_was_written_ahead_of_a_fall(self):
        self.house.hear(("vote", "c", "a", 4, 9, 4))
        self.house.fall()
        self.assertEqual(self.house.hear(("vote", "b", "a", 4, 99, 99)), (("gave", "a", "b", 4, False),))
        self.assertEqual(self.house.hear(("vote", "c", "a", 4, 9, 4)), (("gave", "a", "c", 4, True),))
        self.assertEqual(self.house.journal(), (("vote", 4, "c", 9, 4),))

    def test_a_chair_that_is_known_is_known_still(self):
        self.house.hear(("rows", "b", "a", 4, 9, 4, (), 0, 0))
        self.house.hear(("vote", "c", "a", 4, 9, 4))
        self.assertEqual(self.house.chair_known(), "b")

    def test_one_that_is_no_voter_gives_too(self):
        house = up(at_first((("b", "c"), (), ())))
        self.assertEqual(house.hear(("vote", "b", "a", 1, 0, 0)), (("gave", "a", "b", 1, True),))


class Gaves(unittest.TestCase):
    def test_more_than_half_is_chair(self):
        house = asker()
        sent = house.hear(("gave", "c", "a", 5, True))
        first = ((5, ("first",)),)
        self.assertEqual(sent, (("rows", "a", "b", 5, 9, 4, first, 7, 0), ("rows", "a", "c", 5, 9, 4, first, 7, 0)))
        self.assertEqual((house.part(), house.chair_known()), ("chair", "a"))
        self.assertEqual(house.writes(), (5, "a", 7, STAND, ENTRIES + first))

    def test_at_the_very_half_and_one_beyond(self):
        for bench, names in (
            (FIVE, "bc"), ((tuple("abcd"), (), ()), "bc"), ((tuple("ab"), (), ()), "b"), ((tuple("abcdefg"), (), ()), "gfe"),
        ):
            house = asker(at_first(bench, 2), others=bench[0][1:])
            for name in names[:-1]:
                self.assertEqual((house.hear(("gave", name, "a", 3, True)), house.part()), ((), "asker"))
            house.hear(("gave", names[-1], "a", 3, True))
            self.assertEqual(house.part(), "chair")

    def test_of_joined_benches(self):
        for names in ("bdef", "defb"):
            house = asker(at_first(JOINED), others="bcdef")
            for name in names[:-1]:
                self.assertEqual((house.hear(("gave", name, "a", 1, True)), house.part()), ((), "asker"))
            sent = house.hear(("gave", names[-1], "a", 1, True))
            self.assertEqual(sent, tuple(("rows", "a", name, 1, 0, 0, ((1, ("first",)),), 0, 0) for name in "bcdefg"))

    def test_let_be(self):
        house = asker()
        before = all_told(house)
        for letter in (
            ("gave", "b", "a", 5, False), ("gave", "b", "a", 4, True), ("gave", "b", "a", 0, True),
            ("gave", "d", "a", 5, True),
        ):
            self.assertEqual(house.hear(letter), ())
        self.assertEqual(all_told(house), before)

    def test_of_a_greater_term_it_ends_the_asking(self):
        house = asker()
        self.assertEqual(house.hear(("gave", "b", "a", 6, True)), ())
        self.assertEqual((house.part(), house.writes()[:2]), ("plain", (6, None)))

    def test_twice_from_one_counts_once(self):
        house = asker(at_first(FIVE), others=("b", "c"))
        for _ in range(4):
            self.assertEqual(house.hear(("gave", "b", "a", 1, True)), ())
        self.assertEqual(house.part(), "asker")

    def test_by_one_that_is_no_asker(self):
        for make, own in ((plain, 4), (looker, 4), (chair, 5)):
            house = make()
            before = all_told(house)
            self.assertEqual(house.hear(("gave", "c", "a", own, True)), ())
            self.assertEqual(all_told(house), before)

    def test_a_house_that_is_no_voter_of_its_row_s_bench(self):
        entries = ((4, ("bench", (("a", "b"), ("b", "c"), ()))), (4, ("bench", (("b", "c"), (), ()))))
        house = asker((4, None, 6, (5, 4, (("a", "b"), (), ()), (), ()), entries), others=("b", "c"))
        self.assertEqual(house.part(), "asker")
        self.assertEqual((house.hear(("gave", "b", "a", 5, True)), house.part()), ((), "asker"))
        house.hear(("gave", "c", "a", 5, True))
        self.assertEqual(house.part(), "chair")

    def test_one_that_heard_the_chair_meanwhile(self):
        house = asker()
        house.hear(("rows", "b", "a", 5, 9, 4, (), 0, 0))
        self.assertEqual((house.hear(("gave", "c", "a", 5, True)), house.part()), ((), "plain"))
