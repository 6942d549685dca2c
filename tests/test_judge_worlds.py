"""Point 48: journals that nobody's letters made. They are drawn term by term, and all that are let by are looked at."""

import random
import unittest

from chainhouse.benches import behind, is_joined
from chainhouse.errors import NoJournal
from chainhouse.judge import judged
from chainhouse.rows import Row
from chainhouse.stands import first_stand


class World:
    """Houses that write what they like, as far as each record by itself fits the chair's row and its own."""

    def __init__(self, seed):
        self.draw = random.Random(seed)
        self.names = "abcd"[:self.draw.choice((2, 3, 3, 4))]
        self.bench = (self.side(), (), ())
        self.journals = {name: [] for name in self.names}
        self.rows = {name: Row(first_stand(self.bench), ()) for name in self.names}
        self.term = 0

    def side(self):
        return tuple(sorted(self.draw.sample(self.names, self.draw.randint(1, min(3, len(self.names))))))

    def deeds(self, bench):
        deeds = [("first",)]
        for _ in range(self.draw.choice((0, 0, 1, 2, 3))):
            if self.draw.random() < 0.7:
                bench = behind(bench) if is_joined(bench) else (bench[0], self.side(), ())
                deeds.append(("bench", bench))
            else:
                deeds.append(("ask", "ann", self.draw.randint(1, 99), ("drop", "k")))
        return deeds

    def heard(self, chair, row, whole):
        """A record of rows or of a stand that fits, and the row then."""
        if self.draw.random() < 0.25:
            place = self.draw.randint(0, whole.last_place())
            there = whole.term_at(place)
            stays = row.term_at(place) == there
            return ("stand", self.term, chair, place, there), row if stays else Row(row.stand, whole.up_to(place))
        last = min(row.last_place(), whole.last_place())
        places = [place for place in range(last + 1) if row.term_at(place) == whole.term_at(place)]
        place = self.draw.choice(places[-3:])
        there, entries = whole.term_at(place), whole.between(place, place + self.draw.randint(0, 4))
        return ("rows", self.term, chair, place, there, entries), row.filled(place, there, entries)

    def records(self, chair, vote, row, whole):
        records = []
        for _ in range(self.draw.choice((0, 1, 1, 2))):
            record, row = self.heard(chair, row, whole)
            records.append(record)
        if self.draw.random() < 0.8:
            # Mostly ahead of all that is heard, as it ought to be.
            records.insert(0 if self.draw.random() < 0.8 else len(records), vote)
        return records, row

    def go_on(self):
        """Draws one more term; told is what is judged then, or None where it is refused and so is left out."""
        self.term += self.draw.choice((1, 1, 2))
        chair = self.draw.choice(self.names)
        row = self.rows[chair]
        vote = ("vote", self.term, chair, row.last_place(), row.last_term())
        deeds = self.deeds(row.bench())
        whole = Row(row.stand, row.entries + tuple((self.term, deed) for deed in deeds))
        rows, journals = {chair: whole}, {chair: self.journals[chair] + [vote] + [("put", self.term, deed) for deed in deeds]}
        for name in self.names:
            if name != chair:
                records, rows[name] = self.records(chair, vote, self.rows[name], whole)
                journals[name] = self.journals[name] + records
        try:
            told = judged(self.bench, tuple((name, tuple(journals[name])) for name in self.names))
        except NoJournal:
            return None
        self.rows, self.journals = rows, journals
        return told


class Worlds(unittest.TestCase):
    def test_told_rows_are_beginnings_of_one_another(self):
        held = refused = settled = benches = 0
        for seed in range(1500):
            world = World(seed)
            longest = ()
            for _ in range(8):
                told = world.go_on()
                if told is None:
                    refused += 1
                    continue
                held += 1
                longest = max([entries for _, entries in told], key=len)
                for _, entries in told:
                    self.assertEqual(entries, longest[:len(entries)], seed)
            settled += len(longest)
            benches += len([entry for entry in longest if entry[1][0] == "bench"])
        for many, least in ((held, 1500), (refused, 1500), (settled, 3000), (benches, 1000)):
            self.assertGreater(many, least, (held, refused, settled, benches))
