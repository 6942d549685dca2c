"""Papers looked over: whether each holds, and the one settled row that they show."""

from chainhouse.benches import is_bench, is_half, is_step
from chainhouse.errors import NoPaper
from chainhouse.rows import is_entry
from chainhouse.works import is_name, is_rising_names, is_whole_from


def is_chair_paper(thing):
    if not isinstance(thing, tuple) or len(thing) != 5 or thing[0] != "chair":
        return False
    return is_whole_from(thing[1], 1) and is_name(thing[2]) and is_bench(thing[3]) and is_rising_names(thing[4])


def is_settled_paper(thing):
    if not isinstance(thing, tuple) or len(thing) != 7 or thing[0] != "settled":
        return False
    if not is_whole_from(thing[1], 1) or not is_name(thing[2]) or not is_whole_from(thing[3], 1):
        return False
    if not isinstance(thing[4], tuple) or len(thing[4]) == 0 or not all([is_entry(entry) for entry in thing[4]]):
        return False
    return is_bench(thing[5]) and is_rising_names(thing[6])


class Overlook:
    # What the papers ahead have shown: benches, each term's chair, and the row.
    def __init__(self, bench):
        self.benches = [bench]
        self.chairs = {}
        self.entries = ()

    def is_known(self, bench):
        return any([bench == known or is_step(known, bench) for known in self.benches])

    def is_chair_held(self, term, bench, yes):
        return self.is_known(bench) and is_half(bench, yes) and term not in self.chairs

    def is_settled_held(self, paper):
        term = paper[1]
        if not self.is_known(paper[5]) or not is_half(paper[5], paper[6]):
            return False
        if term not in self.chairs or self.chairs[term] != paper[2]:
            return False
        return self.is_joint(paper[3] - len(paper[4]), paper[4]) and paper[4][-1][0] == term

    def is_joint(self, before, entries):
        if before < 0 or before > len(self.entries):
            return False
        there = self.entries[before:before + len(entries)]
        return there == entries[:len(there)]

    def note_bench(self, bench):
        if bench not in self.benches:
            self.benches.append(bench)

    def take_paper(self, paper):
        # Told is whether it holds; what it shows is noted only then.
        if is_chair_paper(paper) and self.is_chair_held(paper[1], paper[3], paper[4]):
            self.chairs[paper[1]] = paper[2]
            self.note_bench(paper[3])
            return True
        if is_settled_paper(paper) and self.is_settled_held(paper):
            known = len(self.entries) - (paper[3] - len(paper[4]))
            self.entries = self.entries + paper[4][known:]
            self.note_bench(paper[5])
            return True
        return False


def look_over(bench, papers):
    overlook = Overlook(bench)
    for number, paper in enumerate(papers):
        if not overlook.take_paper(paper):
            raise NoPaper(number)
    return overlook.entries
