"""What the program refuses with: one class for each refusal, all under ChainError."""


class ChainError(ValueError):
    pass


class NoBench(ChainError):
    pass


class NotYet(ChainError):
    pass


class NoText(ChainError):
    pass


class NoLetter(ChainError):
    pass


class NoDeed(ChainError):
    pass


class NotChair(ChainError):
    # The asker is told whom to turn to: chair is a name, or None where none is known.
    def __init__(self, chair):
        ChainError.__init__(self, f"this house is no chair; the chair it knows: {chair}")
        self.chair = chair


class Old(ChainError):
    pass


class NoTown(ChainError):
    pass


class NoHouse(ChainError):
    pass


class Standing(ChainError):
    pass


class Down(ChainError):
    pass


class NoPaper(ChainError):
    # The first paper that doesn't hold is the one to look at: number counts from 0.
    def __init__(self, number):
        ChainError.__init__(self, f"the paper with this number does not hold: {number}")
        self.number = number


class NoJournal(ChainError):
    pass
