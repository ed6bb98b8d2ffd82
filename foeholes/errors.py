"""The refusals: one class for each kind, all right under HoleError."""


class HoleError(ValueError):
    """Any refusal."""


class NoWord(HoleError):
    """What was handed in is no word of the lot of a hole, whose number is told."""

    def __init__(self, hole):
        super().__init__("this is no word of the hole's lot")
        self.hole = copied(hole)


class NoName(HoleError):
    """What was handed in is no name, or none that is there."""

    def __init__(self, name):
        super().__init__("this is no name, or none that is there")
        self.name = copied(name)


class Taken(HoleError):
    """A new name is there already."""

    def __init__(self, name):
        super().__init__("this name is there already")
        self.name = copied(name)


class Held(HoleError):
    """A frame, whose name is told, does not let its reader go."""

    def __init__(self, name):
        super().__init__("this frame holds the reader")
        self.name = copied(name)


class Full(HoleError):
    """No more have room than the number that is told."""

    def __init__(self, most):
        super().__init__("there is no room for more")
        self.most = copied(most)


class NoWay(HoleError):
    """There is no way on from here, or this is no place to go on from."""


class NoHole(HoleError):
    """All holes are filled."""


class NoNumber(HoleError):
    """This is no number that is asked for."""


class NoBook(HoleError):
    """This is no book that wins."""


class NoGuide(HoleError):
    """This is no guide that holds."""


class NoReader(HoleError):
    """This is no reader."""


class NoWeb(HoleError):
    """These rows make no web."""


class NoFrame(HoleError):
    """This is no frame of the web, or no piece of one."""


def copied(thing):
    """The thing anew: a refused list may be changed later, what the error tells of it may not."""
    if isinstance(thing, list):
        return [copied(part) for part in thing]
    if isinstance(thing, tuple):
        return tuple([copied(part) for part in thing])
    if isinstance(thing, dict):
        return {key: copied(thing[key]) for key in thing}
    return thing
