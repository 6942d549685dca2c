"""The table: what keys hold, and each asker's last ask with its answer."""


class Table:
    def __init__(self, held, asked):
        self.held = dict(held)
        self.lasts = {}
        for asker, number, answer in asked:
            self.lasts[asker] = (number, answer)

    def does(self, asker, number, work):
        last = self.last_of(asker)
        if number < last:
            return ("old", None)
        if number == last:
            return ("again", self.lasts[asker][1])
        answer = self.work_done(work)
        self.lasts[asker] = (number, answer)
        return ("done", answer)

    def work_done(self, work):
        key = work[1]
        before = self.holds(key)
        if work[0] == "drop":
            self.held.pop(key, None)
            return before
        if work[0] == "put":
            self.held[key] = work[2]
            return before
        self.held[key] = self.held.get(key, 0) + work[2]
        return self.held[key]

    def holds(self, key):
        return self.held.get(key)

    def last_of(self, asker):
        if asker not in self.lasts:
            return 0
        return self.lasts[asker][0]

    def told(self):
        held = tuple([(key, self.held[key]) for key in sorted(self.held)])
        asked = tuple([(asker, self.lasts[asker][0], self.lasts[asker][1]) for asker in sorted(self.lasts)])
        return (held, asked)

    def twin(self):
        told = self.told()
        return Table(told[0], told[1])
