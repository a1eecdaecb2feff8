"""The plain walk of a PROGRAM: what it comes to, stores and loads."""

from lanewright.counts import counts_at
from lanewright.errors import BadGiven, BadNumber
from lanewright.parts import (
    arrays_by_name, cell_by, is_cell, is_row, nest_accesses, sizes_by_name, spots_below, spots_by_name,
)
from lanewright.programs import need_array, need_nest, need_sizes, nest_rounds
from lanewright.words import is_whole, reckoned


class Trail:
    """A plain walk that goes from nest to nest, and keeps a row for each store and each load."""

    def __init__(self, program, sizes, given):
        self.nests = program[2]
        self.named = sizes_by_name(program, sizes)
        self.words = first_words(program, self.named, given)
        self.stored = []
        self.loaded = []

    def walk_to(self, nest):
        """Walks all nests up to that one, from the beginning."""
        for number in range(nest + 1):
            self.walk_nest(number)

    def walk_nest(self, number):
        """Walks one nest."""
        nest = self.nests[number]
        for spots in nest_rounds(nest, self.named):
            where = spots_by_name(nest[0], spots)
            for place, step in enumerate(nest[1]):
                self.do_step(step, (number, place, spots), where)

    def do_step(self, step, at, where):
        """Does a STEP where the loops are so; rows of it begin with at."""
        word, array, indexes, expr = step
        cell = cell_by(indexes, where)
        worth = self.worth_of(expr, at, where)
        if word == "add":
            worth = reckoned("add", self.load(array, cell, at), worth)
        self.words[array][cell] = worth
        self.stored.append((*at, array, cell, worth))

    def worth_of(self, expr, at, where):
        """The WORD of an EXPR."""
        word = expr[0]
        if word == "num":
            return expr[1]
        if word == "loop":
            return where[expr[1]]
        if word == "at":
            return self.load(expr[1], cell_by(expr[2], where), at)
        one = self.worth_of(expr[1], at, where)
        other = self.worth_of(expr[2], at, where)
        return reckoned(word, one, other)

    def load(self, array, cell, at):
        """The WORD that a cell holds now."""
        worth = self.words[array][cell]
        self.loaded.append((*at, array, cell, worth))
        return worth


def first_words(program, named, given):
    """A dict from NAMES of arrays to dicts from their CELLS, rising, to the WORDS there at the beginning."""
    words = {}
    number = 0
    for name, kind, dims in program[1]:
        cells = spots_below(counts_at(dims, named))
        words[name] = {cell: 0 for cell in cells}
        if kind == "given":
            words[name] = dict(zip(cells, given[number]))
            number += 1
    return words


def words_shown(words):
    """Pairs of the NAMES of arrays and the WORDS of their CELLS."""
    return tuple([(name, tuple(words[name].values())) for name in words])


def result_shown(program, words):
    """Such pairs of the "told" arrays alone."""
    kinds = arrays_by_name(program[1])
    return tuple([pair for pair in words_shown(words) if kinds[pair[0]][1] == "told"])


def need_given(program, sizes, given):
    """None; refuses of anything what no walk can begin with."""
    need_sizes(program, sizes)
    named = sizes_by_name(program, sizes)
    wanted = [array[2] for array in program[1] if array[1] == "given"]
    if not is_row(given, len(wanted), len(wanted)):
        raise BadGiven(None)
    for number, dims in enumerate(wanted):
        if not are_words(given[number], len(spots_below(counts_at(dims, named)))):
            raise BadGiven(number)


def are_words(thing, many):
    """Whether anything is a tuple of so many WORDS."""
    return is_row(thing, many, many) and all([is_whole(word) for word in thing])


def need_cell(program, sizes, array, cell):
    """None; refuses of anything what is no CELL of an array that is there."""
    dims = counts_at(arrays_by_name(program[1])[array][2], sizes_by_name(program, sizes))
    if not is_cell(cell, dims):
        raise BadNumber(cell)


def whole_trail(program, sizes, given):
    """The walk of all nests."""
    need_given(program, sizes, given)
    trail = Trail(program, sizes, given)
    trail.walk_to(len(program[2]) - 1)
    return trail


def plain_run(program, sizes, given):
    """The RESULT."""
    return result_shown(program, whole_trail(program, sizes, given).words)


def stand_behind(program, sizes, given, nest):
    """The STAND behind a nest, or, of -1, at the beginning."""
    need_given(program, sizes, given)
    if not is_whole(nest, least=-1, most=len(program[2]) - 1):
        raise BadNumber(nest)
    trail = Trail(program, sizes, given)
    trail.walk_to(nest)
    return words_shown(trail.words)


def tale(program, sizes, given):
    """The TALE: a row for each store, in order."""
    return tuple(whole_trail(program, sizes, given).stored)


def reads(program, sizes, given):
    """READS: a row for each load, in order."""
    return tuple(whole_trail(program, sizes, given).loaded)


def traffic(program, sizes, given):
    """TRAFFIC: a pair for each nest, of how many loads and stores there are."""
    need_given(program, sizes, given)
    named = sizes_by_name(program, sizes)
    return tuple([nest_traffic(nest, len(nest_rounds(nest, named))) for nest in program[2]])


def nest_traffic(nest, rounds):
    """How many loads and stores a nest of so many ROUNDS has."""
    kinds = [access[0] for _, access in nest_accesses(nest)]
    return kinds.count("load") * rounds, kinds.count("store") * rounds


def last_writer(program, sizes, given, nest, array, cell):
    """The last row of the TALE that stores into a cell up to that nest; None without one."""
    need_given(program, sizes, given)
    need_nest(program, nest)
    need_array(program, array)
    need_cell(program, sizes, array, cell)
    trail = Trail(program, sizes, given)
    trail.walk_to(nest)
    for row in reversed(trail.stored):
        if row[3] == array and row[4] == cell:
            return row
    return None
