"""Towns driven by drawn deeds, and a watch that looks at all that point 3 says behind each deed."""

import random

from chainhouse.benches import is_half, members
from chainhouse.calm import calm, rounds_of
from chainhouse.errors import ChainError, NoHouse
from chainhouse.judge import judged
from chainhouse.papers import look_over
from chainhouse.tables import Table
from chainhouse.towns import Town

KEYS = ("k", "l", "m")


def told_of(town):
    """All that a town tells."""
    names = [name for name, _ in town.journals()]
    return (
        town.standing(), town.waiting(), town.answers(), town.reads(), town.papers(), town.journals(),
        tuple((name, town.written(name), town.part(name), town.chair_known(name), town.table(name)) for name in names),
    )


def settled_of(written):
    return written[4][:written[2] - written[3][0]]


class Watch:
    """Follows a town, and keeps the one row that is settled, from place 1 on, with the table of each place."""

    def __init__(self, test, town, bench):
        self.test = test
        self.town = town
        self.bench = bench
        self.names = [name for name, _ in town.journals()]
        self.entries = []
        self.table = Table((), ())
        self.tables = [self.table.told()]
        self.done = {}
        self.chairs = {}
        self.seen = {}
        self.written = {name: town.written(name) for name in self.names}
        self.asked = {}
        self.many_answers = 0
        self.many_reads = 0

    def do(self, deed):
        """Does a deed and looks at everything; tells whether it was refused."""
        town = self.town
        highest = max(town.written(name)[2] for name in self.names)
        try:
            self.test.assertIsNone(town.do(deed))
        except ChainError as error:
            return error
        if deed[0] == "read":
            self.asked[deed[2:4]] = (deed[4], highest)
        self.look()
        return None

    def look(self):
        for name in self.names:
            self.look_at_house(name)
        self.look_at_answers()
        self.look_at_reads()

    def look_at_house(self, name):
        written = self.town.written(name)
        if self.town.part(name) == "chair":
            self.test.assertEqual(self.chairs.setdefault(written[0], name), name, "two chairs in a term")
        before = self.written[name]
        if written == before:
            return
        self.test.assertGreaterEqual(written[0], before[0])
        self.test.assertGreaterEqual(written[2], before[2], "a settled place fell")
        if written[0] == before[0] and before[1] is not None:
            self.test.assertEqual(written[1], before[1], "a vote was changed")
        self.look_at_row(written)
        self.look_at_settled(name, written)
        self.written[name] = written

    def look_at_row(self, written):
        # Alike up to a place: the same entry there, and the same term ahead of it.
        place, ahead = written[3][:2]
        for entry in written[4]:
            place += 1
            self.test.assertEqual(self.seen.setdefault((place, entry[0]), (entry, ahead)), (entry, ahead), "rows unlike")
            self.test.assertTrue(ahead <= entry[0] <= written[0])
            ahead = entry[0]

    def look_at_settled(self, name, written):
        stand, settled = written[3], written[2]
        self.test.assertTrue(stand[0] <= settled <= stand[0] + len(written[4]))
        for place, entry in enumerate(settled_of(written), start=stand[0] + 1):
            if place > len(self.entries):
                self.test.assertEqual(place, len(self.entries) + 1)
                self.settle(entry)
            self.test.assertEqual(self.entries[place - 1], entry, "settled apart")
        self.test.assertLessEqual(settled, len(self.entries))
        self.test.assertEqual(self.town.table(name), self.tables[settled], "a table is not the doing of its row")
        self.test.assertEqual(stand[3:], self.tables[stand[0]], "a stand lost something")
        if stand[0] > 0:
            self.test.assertEqual(stand[1], self.entries[stand[0] - 1][0])
        benches = [entry[1][1] for entry in self.entries[:stand[0]] if entry[1][0] == "bench"]
        self.test.assertEqual(stand[2], benches[-1] if benches else self.bench)

    def settle(self, entry):
        self.entries.append(entry)
        deed = entry[1]
        if deed[0] == "ask":
            word, answer = self.table.does(*deed[1:])
            if word == "done":
                self.test.assertNotIn(deed[1:3], self.done, "an ask was done twice")
                self.done[deed[1:3]] = answer
        self.tables.append(self.table.told())

    def look_at_answers(self):
        answers = self.town.answers()
        for name, asker, number, answer in answers[self.many_answers:]:
            self.test.assertIn(name, self.names)
            self.test.assertIn((asker, number), self.done, "answered by what isn't settled")
            self.test.assertEqual(answer, self.done[(asker, number)])
        self.many_answers = len(answers)

    def look_at_reads(self):
        reads = self.town.reads()
        for name, asker, number, value, place in reads[self.many_reads:]:
            key, highest = self.asked[(asker, number)]
            self.test.assertGreaterEqual(place, highest, "a read of what was")
            self.test.assertEqual(value, dict(self.tables[place][0]).get(key))
        self.many_reads = len(reads)

    def look_at_papers(self):
        shown = look_over(self.bench, self.town.papers())
        self.test.assertEqual(shown, tuple(self.entries[:len(shown)]))
        for name in self.names:
            self.test.assertLessEqual(self.town.written(name)[2], len(shown))

    def look_at_journals(self):
        told = judged(self.bench, self.town.journals())
        self.test.assertEqual([term for term, _ in told], sorted({paper[1] for paper in self.town.papers()}))
        longest = max([entries for _, entries in told], key=len, default=())
        for _, entries in told:
            self.test.assertEqual(entries, longest[:len(entries)], "told rows that are unlike")
        many = min(len(longest), len(self.entries))
        self.test.assertEqual(longest[:many], tuple(self.entries[:many]))
        told = dict(told)
        for paper in self.town.papers():
            if paper[0] == "settled":
                self.test.assertGreaterEqual(len(told[paper[1]]), paper[3], "the judge shows less than the chair settled")

    def look_at_calm(self):
        """Point 44: goes through the told rounds, then looks."""
        town = self.town
        calm(town, rounds_of(town))
        self.look()
        standing = town.standing()
        chairs = [name for name in standing if town.part(name) == "chair"]
        self.test.assertEqual(len(chairs), 1, "not just one chair")
        term, _, settled, stand, entries = town.written(chairs[0])
        benches = [entry[1][1] for entry in entries if entry[1][0] == "bench"]
        bench = benches[-1] if benches else stand[2]
        self.test.assertEqual(bench[1], (), "the bench is joined")
        self.test.assertEqual(settled, stand[0] + len(entries))
        for name in members(bench):
            if name in standing:
                other = town.written(name)
                self.test.assertLessEqual(other[0], term)
                self.test.assertEqual(other[2], settled)
                self.test.assertEqual(other[3][0] + len(other[4]), settled)
        return chairs[0]

    def look_at_ask(self, chair):
        """An ask at the chair of a calm town is answered as soon as no letter waits."""
        before = len(self.town.answers())
        number = 1 + max([number for asker, number in self.done if asker == "calm"], default=0)
        self.test.assertIsNone(self.do(("ask", chair, "calm", number, ("add", "k", 1))))
        calm(self.town, 0)
        self.look()
        told = self.town.answers()[before:]
        self.test.assertEqual([answer[:3] for answer in told], [(chair, "calm", number)])


class Storm:
    """Draws deeds for a town from a seed."""

    def __init__(self, test, seed, many_houses=None, weights=None):
        self.draw = random.Random(seed)
        many = many_houses or self.draw.randint(1, 6)
        self.names = tuple("abcdefghi"[:many])
        self.bench = self.drawn_bench()
        pairs = tuple((name, self.draw.randint(2, 5)) for name in self.names)
        self.town = Town(self.bench, pairs, self.draw.choice((1, 5, 17, 60, 200)))
        self.watch = Watch(test, self.town, self.bench)
        self.number = 0
        self.weights = {
            "turn": 14, "carry": 30, "lose": 3, "double": 3, "run": 6, "fall": 1, "up": 3, "cut": 2, "ask": 6, "read": 4,
            "change": 2,
        }
        self.weights.update(weights or {})

    def drawn_side(self, least, most):
        most = min(most, len(self.names))
        return tuple(sorted(self.draw.sample(self.names, self.draw.randint(min(least, most), most))))

    def drawn_bench(self):
        voters = self.drawn_side(1, 7)
        others = [name for name in self.names if name not in voters]
        return (voters, (), tuple(sorted(self.draw.sample(others, self.draw.randint(0, min(len(others), 2))))))

    def chair_or_any(self):
        chairs = [name for name in self.names if self.town.part(name) == "chair"]
        if chairs and self.draw.random() < 0.9:
            return self.draw.choice(chairs)
        return self.draw.choice(self.names)

    def deed(self):
        words = sorted(self.weights)
        word = self.draw.choices(words, [self.weights[each] for each in words])[0]
        waiting = len(self.town.waiting())
        if word in ("carry", "lose", "double"):
            # Mostly the first ones, so that some letters are very late.
            k = self.draw.randrange(waiting + 1) if self.draw.random() < 0.5 else 0
            return (word, k)
        if word == "run":
            return (word, self.draw.randint(0, 12))
        if word in ("turn", "fall", "up"):
            return (word, self.draw.choice(self.names))
        name = self.chair_or_any()
        if word == "cut":
            return (word, self.draw.choice(self.names))
        if word == "change":
            bench = self.drawn_bench()
            return (word, name, bench[0], bench[2])
        self.number += 1
        if word == "read":
            return (word, name, "reader", self.number, self.draw.choice(KEYS))
        asker = self.draw.choice(("ann", "bob"))
        number = max(1, self.number - self.draw.choice((0, 0, 0, 1, 2, 5)))
        key = self.draw.choice(KEYS)
        work = self.draw.choice((("put", key, self.draw.randint(-9, 9)), ("add", key, self.draw.randint(-9, 9)), ("drop", key)))
        return (word, name, asker, number, work)

    def deeds(self, many):
        """So many drawn deeds, and now and then a house that turns till it looks ahead while others know no chair."""
        for _ in range(many):
            if self.draw.random() < 0.03:
                for name in self.names:
                    if self.draw.random() < 0.5:
                        yield ("fall", name)
                        yield ("up", name)
                name = self.draw.choice(self.names)
                for _ in range(5):
                    yield ("turn", name)
                yield ("run", self.draw.randint(0, 40))
            yield self.deed()

    def rage(self, many):
        for deed in self.deeds(many):
            before = told_of(self.town) if self.draw.random() < 0.02 else None
            error = self.watch.do(deed)
            if error is not None:
                self.watch.test.assertNotIsInstance(error, NoHouse)
                if before is not None:
                    self.watch.test.assertEqual(told_of(self.town), before)

    def all_up(self):
        for name in self.names:
            if name not in self.town.standing():
                self.watch.do(("up", name))


def half_stands(town):
    """Whether point 44 speaks of a town in which not all houses stand."""
    if town.waiting() or not town.standing():
        return False
    benches = []
    for name in town.standing():
        _, _, _, stand, entries = town.written(name)
        put = [entry[1][1] for entry in entries if entry[1][0] == "bench"]
        benches.append(put[-1] if put else stand[2])
    return not benches[0][1] and benches.count(benches[0]) == len(benches) and is_half(benches[0], town.standing())
