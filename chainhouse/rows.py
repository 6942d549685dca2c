"""Entries, and rows: a stand with the entries behind it."""

from chainhouse.benches import is_bench
from chainhouse.works import is_ask, is_whole_from


def is_deed(thing):
    if not isinstance(thing, tuple) or len(thing) == 0:
        return False
    if thing[0] == "first":
        return len(thing) == 1
    if thing[0] == "ask":
        return len(thing) == 4 and is_ask(thing[1], thing[2], thing[3])
    return thing[0] == "bench" and len(thing) == 2 and is_bench(thing[1])


def is_entry(thing):
    return isinstance(thing, tuple) and len(thing) == 2 and is_whole_from(thing[0], 1) and is_deed(thing[1])


class Row:
    def __init__(self, stand, entries):
        self.stand = stand
        self.entries = tuple(entries)

    def last_place(self):
        return self.stand[0] + len(self.entries)

    def last_term(self):
        return self.term_at(self.last_place())

    def term_at(self, place):
        if place == self.stand[0]:
            return self.stand[1]
        if place < self.stand[0] or place > self.last_place():
            return None
        return self.entry_at(place)[0]

    def entry_at(self, place):
        return self.entries[place - self.stand[0] - 1]

    def up_to(self, place):
        return self.entries[:place - self.stand[0]]

    def behind(self, place):
        return self.entries[place - self.stand[0]:]

    def between(self, before, place):
        return self.entries[before - self.stand[0]:place - self.stand[0]]

    def bench_at(self, place):
        for entry in reversed(self.up_to(place)):
            if entry[1][0] == "bench":
                return entry[1][1]
        return self.stand[2]

    def bench(self):
        return self.bench_at(self.last_place())

    def bench_place(self):
        for place in range(self.last_place(), self.stand[0], -1):
            if self.entry_at(place)[1][0] == "bench":
                return place
        # The stand's bench came at its place at the latest.
        return self.stand[0]

    def is_behind(self, place, term):
        own_term = self.last_term()
        return own_term < term or (own_term == term and self.last_place() < place)

    def filled(self, before, there, entries):
        if before >= self.stand[0] and self.term_at(before) != there:
            return None
        for place, entry in enumerate(entries, start=before + 1):
            # What is up to the stand is done and can't be compared any more.
            if place > self.stand[0] and self.term_at(place) != entry[0]:
                return Row(self.stand, self.up_to(place - 1) + tuple(entries[place - before - 1:]))
        return Row(self.stand, self.entries)

    def cut(self, place, table):
        told = table.told()
        stand = (place, self.term_at(place), self.bench_at(place), told[0], told[1])
        return Row(stand, self.behind(place))

    def with_entry(self, entry):
        return Row(self.stand, self.entries + (entry,))
