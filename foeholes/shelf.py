"""The shelf: readers and frames kept by names, while deeds are done to them and undone."""

from foeholes.errors import Full, Held, NoFrame, NoName, NoReader, NoWeb, Taken
from foeholes.foe import book
from foeholes.frames import is_frame
from foeholes.readers import is_reader
from foeholes.rows import is_web
from foeholes.signs import is_number_below
from foeholes.writing import Writer

MOST_KEPT = 8
LONGEST_NAME = 8


def is_name(thing):
    """Of anything, whether it is a name."""
    if not isinstance(thing, str) or not 1 <= len(thing) <= LONGEST_NAME:
        return False
    return all(["a" <= letter <= "z" for letter in thing])


def is_in(thing, kept):
    """Of anything, whether it is a name by which something is kept there."""
    return isinstance(thing, str) and thing in kept


def refuse_unkept(name, kept):
    """Refuse a name by which nothing is kept there."""
    if not is_in(name, kept):
        raise NoName(name)


def are_rows_of_names(thing):
    """Of anything, whether it is a tuple of tuples of texts."""
    if not isinstance(thing, tuple) or not all([isinstance(row, tuple) for row in thing]):
        return False
    return all([isinstance(name, str) for row in thing for name in row])


def web_of(readers, rows):
    """The web, if it is one, of the readers whose names stand in the rows."""
    return tuple([tuple([readers[name] for name in row]) for row in rows])


class Shelf:
    """Readers and frames by names, the deeds done to them, and what is told of them."""

    def __init__(self):
        self._readers = {}
        # By its name each frame with its rows of readers' names.
        self._frames = {}
        self._looked = {}
        # By their names the books of frames, or None, that were asked for since these were looked at.
        self._books = {}
        # For each deed that stands its word, and the readers and frames as they were ahead of it.
        self._deeds = []

    def __eq__(self, other):
        return isinstance(other, Shelf) and self._readers == other._readers and self._frames == other._frames

    def put(self, name, reader):
        """Keep a reader by a new name."""
        self._refuse_old(name)
        if len(self._readers) == MOST_KEPT:
            raise Full(MOST_KEPT)
        if not is_reader(reader):
            raise NoReader("this is no reader")
        self._do("put", {**self._readers, name: reader}, self._frames)

    def exchange(self, name, reader):
        """Keep another reader by a reader's name."""
        refuse_unkept(name, self._readers)
        if not is_reader(reader):
            raise NoReader("this is no reader")
        readers = {**self._readers, name: reader}
        for holder in sorted(self._frames):
            rows, frame = self._frames[holder]
            web = web_of(readers, rows)
            if not is_web(web) or not is_frame(web, frame):
                raise Held(holder)
        self._do("exchange", readers, self._frames)

    def lay(self, name, rows, frame):
        """Keep a frame by a new name, with the names of the readers in its web's rows."""
        self._refuse_old(name)
        if len(self._frames) == MOST_KEPT:
            raise Full(MOST_KEPT)
        if not are_rows_of_names(rows):
            raise NoWeb("these are no rows of names")
        for row in rows:
            for reader in row:
                refuse_unkept(reader, self._readers)
        web = web_of(self._readers, rows)
        if not is_web(web):
            raise NoWeb("these rows make no web")
        if not is_frame(web, frame):
            raise NoFrame("this is no frame of the web")
        self._do("lay", self._readers, {**self._frames, name: (rows, frame)})

    def edit(self, name, i, piece):
        """Exchange a frame's piece."""
        refuse_unkept(name, self._frames)
        rows, (pieces, holes, dues) = self._frames[name]
        if not is_number_below(i, len(pieces)):
            raise NoFrame("the frame has no such piece")
        frame = (pieces[:i] + (piece,) + pieces[i + 1:], holes, dues)
        if not is_frame(web_of(self._readers, rows), frame):
            raise NoFrame("with this piece it is no frame")
        self._do("edit", self._readers, {**self._frames, name: (rows, frame)})

    def drop(self, name):
        """Keep a reader, or a frame, no more."""
        if not is_in(name, self._readers):
            refuse_unkept(name, self._frames)
        for holder in sorted(self._frames):
            if name in [reader for row in self._frames[holder][0] for reader in row]:
                raise Held(holder)
        readers = {other: self._readers[other] for other in self._readers if other != name}
        self._do("drop", readers, {other: self._frames[other] for other in self._frames if other != name})

    def undo(self):
        """Undo the last deed that still stands; told is its word, None where there is none."""
        if not self._deeds:
            return None
        word, readers, frames = self._deeds.pop()
        self._stand(readers, frames)
        return word

    def readers(self):
        """The readers' names, sorted."""
        return sorted(self._readers)

    def frames(self):
        """The frames' names, sorted."""
        return sorted(self._frames)

    def looked(self):
        """The names of the frames that were looked at since this was told last, and are there, sorted."""
        names = [name for name in sorted(self._looked) if name in self._frames]
        self._looked = {}
        return names

    def reader(self, name):
        """The reader of this name."""
        refuse_unkept(name, self._readers)
        return self._readers[name]

    def web_and_frame(self, name):
        """The frame of this name, behind its web."""
        refuse_unkept(name, self._frames)
        rows, frame = self._frames[name]
        return (web_of(self._readers, rows), frame)

    def writer_wins(self, name):
        """Whether the writer wins the frame of this name."""
        return self.book(name) is None

    def book(self, name):
        """The foe's book for the frame of this name, None where the writer wins."""
        web, frame = self.web_and_frame(name)
        if name not in self._books:
            self._books[name] = book(web, frame)
        words = self._books[name]
        return None if words is None else {key: words[key] for key in words}

    def writer(self, name):
        """A writer for the frame of this name."""
        web, frame = self.web_and_frame(name)
        return Writer(web, frame)

    def _refuse_old(self, name):
        """Refuse what is no name, or one by which something is kept."""
        if not is_name(name):
            raise NoName(name)
        if name in self._readers or name in self._frames:
            raise Taken(name)

    def _do(self, word, readers, frames):
        """Do the deed of this word, behind which these are the readers and frames."""
        self._deeds.append((word, self._readers, self._frames))
        self._stand(readers, frames)

    def _stand(self, readers, frames):
        """Take these readers and frames; looked at is each frame that is new, another one or has another web."""
        for name in frames:
            rows, frame = frames[name]
            if name not in self._frames or (web_of(readers, rows), frame) != self.web_and_frame(name):
                self._looked[name] = True
                self._books.pop(name, None)
        self._readers = readers
        self._frames = frames
