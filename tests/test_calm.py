"""Points 43 and 44: calm rounds as the deeds they are made of, the told rounds, and what holds behind them."""

import unittest

from chainhouse.calm import calm, rounds_of
from chainhouse.towns import Town
from storms import Storm, Watch, half_stands, told_of

BENCH = (("a", "b", "c"), (), ())
PAIRS = (("a", 2), ("b", 4), ("c", 6), ("d", 3))
ALL = 10 ** 60


def calm_by_deeds(town, rounds):
    while town.waiting():
        town.do(("carry", 0))
    for _ in range(rounds):
        for name in town.standing():
            town.do(("turn", name))
            while town.waiting():
                town.do(("carry", 0))


class Rounds(unittest.TestCase):
    def test_nine_times_one_more_than_the_greatest_wait(self):
        for waits, rounds in (((2,), 27), ((2, 3), 36), ((3, 2), 36), ((20, 2, 5), 189), ((2,) * 9, 27), ((2,) * 8 + (20,), 189)):
            pairs = tuple(zip("abcdefghi", waits))
            self.assertEqual(rounds_of(Town((("a",), (), ()), pairs, 1)), rounds)

    def test_whoever_stands(self):
        town = Town(BENCH, PAIRS, 9)
        town.do(("fall", "c"))
        before = told_of(town)
        self.assertEqual(rounds_of(town), 63)
        self.assertEqual(told_of(town), before)


class Calm(unittest.TestCase):
    def towns(self):
        yield Town(BENCH, PAIRS, 9)
        for seed in range(6):
            storm = Storm(self, seed)
            storm.rage(80)
            yield storm.town

    def test_as_the_deeds_it_is_made_of(self):
        for town in self.towns():
            for rounds in (0, 1, 2, 5):
                one, other = town.twin(), town.twin()
                self.assertIsNone(calm(one, rounds))
                calm_by_deeds(other, rounds)
                self.assertEqual(told_of(one), told_of(other))

    def test_no_rounds_carry_what_waits(self):
        town = Town(BENCH, PAIRS, 9)
        town.do(("turn", "a"))
        town.do(("turn", "a"))
        calm(town, 0)
        self.assertEqual((town.waiting(), town.part("a")), ((), "chair"))

    def test_houses_that_are_down_take_no_turn(self):
        town = Town(BENCH, PAIRS, 9)
        town.do(("fall", "a"))
        calm(town, 3)
        self.assertEqual(town.standing(), ("b", "c", "d"))
        self.assertEqual((town.part("b"), town.waiting()), ("plain", ()))
        calm(town, 1)
        self.assertEqual(town.part("b"), "chair")

    def test_at_first(self):
        for many in (1, 2, 3, 7):
            names = "abcdefghi"[:many]
            bench = (tuple(names), (), ())
            town = Town(bench, tuple((name, 2 + number) for number, name in enumerate(names)), 9)
            watch = Watch(self, town, bench)
            self.assertEqual(watch.look_at_calm(), "a")
            watch.look_at_ask("a")

    def test_none_is_chair_where_not_more_than_half_stand(self):
        town = Town(BENCH, PAIRS, 9)
        town.do(("fall", "a"))
        town.do(("fall", "b"))
        calm(town, rounds_of(town))
        self.assertEqual([town.part(name) for name in "cd"], ["looker", "plain"])
        self.assertEqual(town.written("c")[0], 0)


class BehindStorms(unittest.TestCase):
    def test_where_all_houses_stand(self):
        for seed in range(60):
            with self.subTest(seed=seed):
                storm = Storm(self, seed, weights={"turn": 25, "fall": 2, "up": 4, "change": 6, "cut": 4})
                for _ in range(2):
                    storm.rage(90)
                    storm.all_up()
                    chair = storm.watch.look_at_calm()
                    storm.watch.look_at_ask(chair)
                storm.watch.look_at_papers()
                storm.watch.look_at_journals()

    def test_where_more_than_half_stand(self):
        looked = 0
        for seed in range(160):
            with self.subTest(seed=seed):
                storm = Storm(self, seed, many_houses=5, weights={"turn": 25, "fall": 3, "up": 3, "run": 20, "change": 3})
                storm.rage(90)
                while storm.town.waiting():
                    storm.watch.do(("lose", 0))
                if half_stands(storm.town) and len(storm.town.standing()) < 5:
                    looked += 1
                    storm.watch.look_at_ask(storm.watch.look_at_calm())
        self.assertGreater(looked, 15)

    def test_a_joined_bench_left_amid(self):
        # The chair falls with the joined bench put, at each step of its way.
        for many in range(12):
            town = Town(BENCH, PAIRS, 9)
            watch = Watch(self, town, BENCH)
            for deed in (("turn", "a"), ("turn", "a"), ("run", ALL), ("change", "a", ("c", "d"), ("a",)), ("run", many), ("fall", "a")):
                watch.do(deed)
            while town.waiting():
                watch.do(("lose", 0))
            watch.do(("up", "a"))
            watch.look_at_ask(watch.look_at_calm())
            watch.look_at_papers()
            watch.look_at_journals()
