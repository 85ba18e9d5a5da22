"""All refusals; of several that are due, the one that stands first here is met."""


class RelayError(ValueError):
    """Any refusal."""


class NoNet(RelayError):
    """Parts that make no net; fault is a tuple that tells the first thing wrong."""

    def __init__(self, fault):
        self.fault = fault


class NoText(RelayError):
    """A text that is no net's."""


class NoTable(RelayError):
    """Parts that make no table; fault is a tuple that tells the first thing wrong."""

    def __init__(self, fault):
        self.fault = fault


class NoNames(RelayError):
    """Tuples that are no names of a table's states."""


class NoName(RelayError):
    """A text that names nothing of the kind asked for."""


class NoPiece(RelayError):
    """A number that is no fitting piece's."""


class NoPosition(RelayError):
    """Tuples that are no position of a net."""


class NoState(RelayError):
    """Tuples that are no state of a net."""


class NotResting(RelayError):
    """A state that is not at rest."""


class Raced(RelayError):
    """More than one end, or none; race is the first race of names, or None."""

    def __init__(self, race):
        self.race = race


class NotSure(RelayError):
    """A net that has not just one end by each letter."""
