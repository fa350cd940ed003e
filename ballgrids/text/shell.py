"""A shell: commands that change a desk or tell something about its form [19.5], [19.6]."""

from ballgrids.base.digits import written
from ballgrids.bound.bounds import bound
from ballgrids.desk.desks import Desk
from ballgrids.desk.promises import does_hold
from ballgrids.errors import (
    GridError, InvalidNumber, InvalidOperation, NothingToUndo, ParseError, Refused, TooMany, UnknownName)
from ballgrids.short.rows import density, least_rows, least_value
from ballgrids.span.spans import rank_of_squares
from ballgrids.text.commands import told_command
from ballgrids.text.formats import write_form
from ballgrids.weight.weights import level_number

MAX_LINE = 2000
MAX_LINES = 100
DEEDS = ("led", "plus", "times", "part", "cleared", "adjoint")


def written_ratio(ratio):
    """A ratio, or its top alone if the bottom is 1."""
    if ratio[1] == 1:
        return written(ratio[0])
    return f"{written(ratio[0])}/{written(ratio[1])}"


def written_promise(promise):
    """A promise as it is written in a command."""
    return " ".join([part if isinstance(part, str) else written(part) for part in promise])


def read_off(word, form):
    """What a command without further pieces tells of a form."""
    if word == "show":
        return write_form(form)
    if word == "least":
        return written(least_value(form))
    if word == "contacts":
        return str(len(least_rows(form)))
    if word == "density":
        return written_ratio(density(form))
    if word == "bound":
        return written_ratio(bound(form))
    if word == "level":
        return str(level_number(form))
    return str(rank_of_squares(form))


def refusal(reason):
    """The answer to what a desk refuses."""
    if reason[0] == "deed":
        return f"failed {reason[2]}"
    return f"broken {written_promise(reason[1])}"


def is_command(value):
    """Whether the value is a string of at most 2000 printable ASCII characters."""
    if not isinstance(value, str) or len(value) > MAX_LINE:
        return False
    return all([" " <= sign <= "~" for sign in value])


class Shell:
    """A desk that is told by commands what to do."""

    def __init__(self, form):
        self._desk = Desk(form)
        self._batch = None
        self._said = []

    @property
    def form(self):
        """The form of the open batch, or that of the desk if none is open."""
        return self._batch.form if self._batch is not None else self._desk.form

    @property
    def promises(self):
        """The promises of the desk."""
        return self._desk.promises

    @property
    def version(self):
        """The version of the desk."""
        return self._desk.version

    def say(self, command):
        """Does what a command tells, and returns its answer."""
        if not is_command(command):
            raise InvalidOperation("a command must be a string of at most 2000 printable characters")
        self._said.append(True)
        pieces = [piece for piece in command.split(" ") if piece != ""]
        return self.answer(pieces) if pieces else ""

    def run(self, commands):
        """Says some commands, one behind the other, and returns the tuple of their answers."""
        if not isinstance(commands, tuple) or len(commands) > MAX_LINES:
            raise InvalidOperation("there must be a tuple of at most 100 commands")
        if not all([is_command(command) for command in commands]):
            raise InvalidOperation("each command must be a string of at most 2000 printable characters")
        return tuple([self.say(command) for command in commands])

    def answer(self, pieces):
        """The answer to the pieces of a command, also if it is not done."""
        try:
            word, told = told_command(pieces)
            return self.obey(word, told)
        except ParseError as misread:
            return f"wrong at {misread.index}"
        except Refused as refused:
            return refusal(refused.reason)
        except TooMany:
            return "too many"
        except NothingToUndo:
            return "no more"
        except UnknownName:
            return "unknown"
        except (GridError, InvalidNumber):
            return "invalid"

    def obey(self, word, told):
        """Does what a command tells whose pieces are right."""
        if word in DEEDS:
            return self.act((word,) + told)
        if word in ("open", "end", "cancel"):
            return self.gather(word)
        if word == "promise":
            return "new" if self._desk.promise(told[0]) else "there"
        if word == "drop":
            return f"version {self._desk.drop(told[0])}"
        if word == "undo":
            return f"version {self._desk.undo(told[0])}"
        if word == "ask":
            return "yes" if does_hold(self.form, told[0]) else "no"
        if word == "promises":
            return ", ".join([written_promise(promise) for promise in self.promises]) if self.promises else "none"
        return read_off(word, self.form)

    def act(self, deed):
        """Does a deed, or puts it into the open batch."""
        if self._batch is None:
            return f"version {self._desk.do((deed,))}"
        self._batch.put(deed)
        return "taken"

    def gather(self, word):
        """Opens a batch, ends it or drops it; a batch that is refused is closed, too."""
        if word == "open":
            self._batch = self._desk.batch()
            return "open"
        if self._batch is None:
            return "no batch"
        batch = self._batch
        self._batch = None
        if word == "end":
            return f"version {batch.end()}"
        batch.drop()
        return "dropped"

    def __len__(self):
        return len(self._said)

    def __str__(self):
        return f"shell of size {self.form.size} at version {self.version}, {len(self.promises)} promises"
