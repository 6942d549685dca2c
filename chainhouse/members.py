"""What a chair notes of each other member of its row's bench."""

from chainhouse.benches import members


class Note:
    def __init__(self, next_place):
        self.next_place = next_place
        self.held = 0
        self.lacking = 0
        self.answered = 0

    def twin(self):
        other = Note(self.next_place)
        other.held = self.held
        other.lacking = self.lacking
        other.answered = self.answered
        return other


class Members:
    def __init__(self, own):
        self.own = own
        self.notes = {}

    def note_bench(self, bench, place):
        # A new chair and one that puts a bench note alike: place is that of the entry which is put then.
        notes = {}
        for name in members(bench):
            if name != self.own:
                notes[name] = self.notes[name] if name in self.notes else Note(place)
        self.notes = notes

    def names(self):
        return tuple(sorted(self.notes))

    def is_noted(self, name):
        return name in self.notes

    def next_of(self, name):
        return self.notes[name].next_place

    def lacking_of(self, name):
        return self.notes[name].lacking

    def with_own(self, names):
        # The chair itself is not noted: it holds its whole row, and needs no letter to answer itself.
        return tuple(sorted(names + [self.own]))

    def held_places(self):
        return [note.held for note in self.notes.values()]

    def holders(self, place):
        return self.with_own([name for name in self.notes if self.notes[name].held >= place])

    def answerers(self, beat):
        return self.with_own([name for name in self.notes if self.notes[name].answered >= beat])

    def took(self, name, yes, place, beat):
        if name not in self.notes:
            return
        note = self.notes[name]
        note.answered = max(note.answered, beat)
        if yes:
            note.held = max(note.held, place)
            note.next_place = max(note.next_place, place + 1)
        else:
            note.next_place = max(note.held, place) + 1

    def got(self, name, place, number, beat, stand_place):
        if name not in self.notes:
            return
        note = self.notes[name]
        note.answered = max(note.answered, beat)
        # What is got of another stand than the chair's own tells nothing of this one's pieces.
        note.lacking = number if place == stand_place else 0

    def clear_lacking(self):
        for name in self.names():
            note = self.notes[name]
            note.lacking = 0

    def twin(self):
        other = Members(self.own)
        for name, note in self.notes.items():
            other.notes[name] = note.twin()
        return other

    def told(self):
        notes = [(name, self.notes[name]) for name in self.names()]
        return tuple([(name, note.next_place, note.held, note.lacking, note.answered) for name, note in notes])
