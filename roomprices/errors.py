"""What the program refuses: one class for each kind, all of them under RoomError."""


class RoomError(ValueError):
    """Anything that the program refuses."""


class BadTable(RoomError):
    """What was handed in as a table is none."""


class BadRent(RoomError):
    """What was handed in as a rent is none."""


class BadGiving(RoomError):
    """What was handed in as a giving is none for the table."""


class BadPrices(RoomError):
    """What was handed in as prices is none for the table."""


class BadRoom(RoomError):
    """What was handed in as a room is no count of one."""


class NoPrices(RoomError):
    """The giving can't be priced."""
