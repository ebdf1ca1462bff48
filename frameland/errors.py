"""The refusals: each is an error of its own under FrameError, so that one can be taken without the others."""


class FrameError(ValueError):
    pass


class NoShape(FrameError):
    pass


class OutOfRoom(FrameError):
    pass


class BadRights(FrameError):
    pass


class NoTask(FrameError):
    pass


class NoBank(FrameError):
    pass


class OutOfBank(FrameError):
    pass


class Taken(FrameError):
    pass


class NotMapped(FrameError):
    pass


class NoRight(FrameError):
    pass


class NoRoom(FrameError):
    pass


class Busy(FrameError):
    pass


class NoRow(FrameError):
    pass
