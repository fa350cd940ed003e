"""Desks, which keep promises about their form, and batches of deeds [18.3] to [18.5]."""

from ballgrids.base.lines import adjugate, determinant_of
from ballgrids.base.numbers import divisor_of, is_integer
from ballgrids.desk.promises import fits_promise, need_promise, paper_by
from ballgrids.errors import InvalidNumber, InvalidOperation, NothingToUndo, Refused, TooMany, UnknownName
from ballgrids.form.algebra import divided, entries_of, is_positive_table, led_by, moved_by, scaled, table_sum
from ballgrids.form.forms import form_with
from ballgrids.form.matrices import fits_matrix, fits_square, fits_table
from ballgrids.form.needs import need_form, need_number
from ballgrids.short.least import shortest

MAX_PROMISES = 8
MAX_DEEDS = 20
MAX_INDEX = 20
MAX_TIMES = 1000


def is_part(size, value):
    """Whether the value is a tuple of rows whose determinant, without its sign, is from 1 to 20."""
    return fits_square(size, value) and 1 <= abs(determinant_of(value)) <= MAX_INDEX


def fits_deed(size, value):
    """Whether the value is a deed of the size."""
    if not isinstance(value, tuple) or len(value) == 0:
        return False
    word, rest = value[0], value[1:]
    if word in ("cleared", "adjoint"):
        return len(rest) == 0
    if len(rest) != 1:
        return False
    told = rest[0]
    if word == "led":
        return fits_matrix(size, told)
    if word == "plus":
        return fits_table(size, told)
    if word == "times":
        return is_integer(told) and 1 <= told <= MAX_TIMES
    return word == "part" and is_part(size, told)


def table_after(table, deed):
    """The table that a deed makes of a positive table."""
    word = deed[0]
    if word == "cleared":
        return divided(table, divisor_of(entries_of(table)))
    if word == "adjoint":
        return adjugate(table)
    if word == "led":
        return led_by(table, deed[1])
    if word == "plus":
        return table_sum(table, deed[1])
    if word == "times":
        return scaled(table, deed[1])
    # The pairings of the rows of a square are the numbers of the table moved by it.
    return moved_by(table, deed[1])


def form_after(form, deed, index):
    """The form that a deed makes of a form; raises the error, with an index, if it fails."""
    table = table_after(form.table, deed)
    if not is_positive_table(table):
        raise Refused(("deed", index, "flat"))
    if not all([is_integer(entry) for entry in entries_of(table)]):
        raise Refused(("deed", index, "great"))
    return form_with(table)


def form_behind(form, deeds):
    """The form that some deeds make of a form, one behind the other; raises the error for the first one that fails."""
    for index, deed in enumerate(deeds):
        form = form_after(form, deed, index)
    return form


def need_deeds(size, deeds):
    """Raises the error if the value is no tuple of 1 to 20 deeds of the size."""
    if not isinstance(deeds, tuple) or not 1 <= len(deeds) <= MAX_DEEDS:
        raise InvalidOperation("the deeds must be a tuple of 1 to 20 deeds")
    if not all([fits_deed(size, deed) for deed in deeds]):
        raise InvalidOperation("each deed must be one of the tuples that are told, for the size of the form")


def papers_by(form, promises):
    """A pair of a promise and a paper against it for each of some promises that does not hold for a form."""
    told = shortest(form.table) if promises else None
    pairs = [(promise, paper_by(form, promise, told)) for promise in promises]
    return [(promise, paper) for promise, paper in pairs if paper is not None]


def need_kept(form, promises):
    """Raises the error for the first one of some promises that does not hold for a form."""
    for promise, paper in papers_by(form, promises):
        raise Refused(("broken", promise, paper))


class Batch:
    """Deeds that are gathered for a desk, and done together. Only desks make batches."""

    def __init__(self, desk):
        self._desk = desk
        self._form = desk.form
        self._many = 0
        self._going = True

    @property
    def form(self):
        """The form behind the deeds."""
        return self._form

    @property
    def is_open(self):
        """Whether the batch is open."""
        return self._going

    def need_going(self):
        """Raises the error if the batch is closed."""
        if not self._going:
            raise InvalidOperation("the batch is closed")

    def put(self, deed):
        """Takes a further deed, and returns how many there are then."""
        self.need_going()
        if not fits_deed(self._form.size, deed):
            raise InvalidOperation("a deed must be one of the tuples that are told, for the size of the form")
        self._form = form_after(self._form, deed, self._many)
        self._many += 1
        return self._many

    def end(self):
        """Closes the batch, does its deeds, and returns the version of the desk."""
        self.need_going()
        self._going = False
        return self._desk.settle(self._form)

    def drop(self):
        """Closes the batch; nothing is done."""
        self.need_going()
        self._going = False

    def __enter__(self):
        self.need_going()
        return self

    def __exit__(self, kind, value, trace):
        self._going = False


class Desk:
    """A form and promises that hold for it, with all versions of both."""

    def __init__(self, form):
        need_form(form)
        self._form = form
        self._promises = ()
        self._past = []
        self._batch = None

    @property
    def form(self):
        """The form."""
        return self._form

    @property
    def promises(self):
        """The tuple of the promises, in the order in which they were made."""
        return self._promises

    @property
    def version(self):
        """How many changes were made and not undone."""
        return len(self._past)

    def need_free(self):
        """Raises the error while a batch of the desk is open."""
        if self._batch is not None and self._batch.is_open:
            raise InvalidOperation("a batch of the desk is open")

    def change(self, form, promises):
        """Makes the next version, and returns it."""
        self._past.append((self._form, self._promises))
        self._form = form
        self._promises = promises
        return len(self._past)

    def settle(self, form):
        """Puts a form in the place of the present one, if all promises hold for it, and returns the version."""
        need_kept(form, self._promises)
        if form == self._form:
            return len(self._past)
        return self.change(form, self._promises)

    def do(self, deeds):
        """Does some deeds, and returns the version."""
        self.need_free()
        need_deeds(self._form.size, deeds)
        return self.settle(form_behind(self._form, deeds))

    def would(self, deeds):
        """The tuple of the promises that do not hold for the form behind some deeds."""
        need_deeds(self._form.size, deeds)
        found = papers_by(form_behind(self._form, deeds), self._promises)
        return tuple([promise for promise, paper in found])

    def promise(self, promise):
        """Puts a promise behind the others, and returns whether it is new."""
        self.need_free()
        need_promise(self._form, promise)
        if promise in self._promises:
            return False
        need_kept(self._form, (promise,))
        if len(self._promises) >= MAX_PROMISES:
            raise TooMany(MAX_PROMISES)
        self.change(self._form, self._promises + (promise,))
        return True

    def drop(self, promise):
        """Takes a promise out, and returns the version."""
        self.need_free()
        need_promise(self._form, promise)
        if promise not in self._promises:
            raise UnknownName(promise)
        return self.change(self._form, tuple([told for told in self._promises if told != promise]))

    def undo(self, count=1):
        """Goes so many versions back for good, and returns the version."""
        self.need_free()
        need_number(count, 1)
        if count > len(self._past):
            raise NothingToUndo(count)
        place = len(self._past) - count
        self._form, self._promises = self._past[place]
        self._past = self._past[:place]
        return place

    def at(self, version):
        """A new desk with the form and the promises of a version up to the present one."""
        if not is_integer(version) or not 0 <= version <= len(self._past):
            raise InvalidNumber(version)
        known = self._past + [(self._form, self._promises)]
        form, promises = known[version]
        desk = Desk(form)
        desk._promises = promises
        return desk

    def batch(self):
        """A new batch of deeds, which is open."""
        self.need_free()
        self._batch = Batch(self)
        return self._batch

    def __eq__(self, other):
        return isinstance(other, Desk) and self._form == other._form and self._promises == other._promises

    def __len__(self):
        return len(self._promises)

    def __iter__(self):
        return iter(self._promises)

    def __contains__(self, value):
        return fits_promise(self._form.size, value) and value in self._promises

    def __str__(self):
        return f"desk of {self._form}, {len(self._promises)} promises"
