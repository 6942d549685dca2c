"""Point 3, the whole: towns driven by many drawn rows of deeds, all that it says looked at behind each deed."""

import unittest

from storms import Storm, told_of

KINDS = {
    "all at once": {},
    "no fall, no loss": {"lose": 0, "double": 0, "fall": 0, "run": 20},
    "falls": {"fall": 5, "up": 8, "turn": 30, "run": 12},
    "losses": {"lose": 12, "turn": 40, "carry": 20, "run": 5},
    "doublings": {"double": 12, "turn": 25, "run": 14},
    "cuts": {"cut": 12, "fall": 2, "ask": 14, "run": 14, "turn": 25},
    "changes": {"change": 14, "turn": 25, "run": 24, "cut": 5},
    "asks and reads": {"ask": 25, "read": 25, "run": 20, "turn": 20},
}


class Storms(unittest.TestCase):
    def storm(self, kind, seed, many_houses=None):
        storm = Storm(self, f"{kind} {seed}", many_houses, KINDS[kind])
        storm.rage(200)
        storm.watch.look_at_papers()
        storm.watch.look_at_journals()
        return storm

    def test_of_each_kind(self):
        seen = {"settled": 0, "answers": 0, "reads": 0, "benches": 0, "chairs": 0, "stands": 0}
        for kind in KINDS:
            for seed in range(25):
                with self.subTest(kind=kind, seed=seed):
                    storm = self.storm(kind, seed)
                    entries = storm.watch.entries
                    records = [record for _, journal in storm.town.journals() for record in journal]
                    seen["settled"] += len(entries)
                    seen["answers"] += len(storm.town.answers())
                    seen["reads"] += len(storm.town.reads())
                    seen["benches"] += len([entry for entry in entries if entry[1][0] == "bench"])
                    seen["chairs"] += len([paper for paper in storm.town.papers() if paper[0] == "chair"])
                    seen["stands"] += len([record for record in records if record[0] == "stand"])
        # So that the storms are none in a glass of water.
        for word, least in (("settled", 1000), ("answers", 300), ("reads", 200), ("benches", 200), ("chairs", 250), ("stands", 15)):
            self.assertGreater(seen[word], least, seen)

    def test_of_nine_houses(self):
        for kind in KINDS:
            self.storm(kind, "nine", 9)

    def test_twins_done_the_same_deeds(self):
        for seed in range(12):
            storm = Storm(self, seed)
            storm.rage(60)
            before = told_of(storm.town)
            twin, other = storm.town.twin(), storm.town.twin()
            deeds = [storm.deed() for _ in range(60)]
            for town in (twin, other):
                for deed in deeds:
                    try:
                        town.do(deed)
                    except ValueError:
                        pass
                self.assertEqual(told_of(storm.town), before)
            self.assertEqual(told_of(twin), told_of(other))

    def test_a_long_row(self):
        storm = Storm(self, "long", 5, {"fall": 0, "change": 0, "lose": 0})
        for name in storm.names:
            storm.watch.do(("cut", name))
        chair = storm.watch.look_at_calm()
        for number in range(1, 590):
            storm.town.do(("ask", chair, "ann", number, ("add", "k", number)))
        storm.town.do(("run", 10 ** 9))
        storm.watch.look()
        self.assertEqual(len(storm.town.answers()), 589)
        self.assertEqual(storm.town.table(chair), ((("k", 589 * 295),), (("ann", 589, 589 * 295),)))
        storm.watch.look_at_papers()
