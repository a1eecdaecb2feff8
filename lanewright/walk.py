"""The plain walk, gone on with store by store, and back."""

from lanewright.errors import BadNumber
from lanewright.plain import first_words, need_cell, whole_trail, words_shown
from lanewright.parts import sizes_by_name
from lanewright.programs import need_array
from lanewright.words import is_whole

MOST_MANY = 100000


class Walk:
    """A plain walk that stands somewhere in its TALE."""

    def __init__(self, program, sizes, given):
        self._rows = whole_trail(program, sizes, given).stored
        self._program = program
        self._sizes = sizes
        self._given = given
        self._words = first_words(program, sizes_by_name(program, sizes), given)
        # What each store put out, so that it can be taken back.
        self._before = []

    def __eq__(self, other):
        if not isinstance(other, Walk) or len(self._before) != len(other._before):
            return False
        return (self._program, self._sizes, self._given) == (other._program, other._sizes, other._given)

    def __len__(self):
        return len(self._rows)

    def __repr__(self):
        return f"Walk({len(self._before)})"

    def step(self, many=1):
        """A list of the next so many rows of the TALE, fewer at its end."""
        need_many(many)
        ahead = self._rows[self.at():self.at() + many]
        for row in ahead:
            self._store(row)
        return ahead

    def back(self, many=1):
        """A list of the last so many rows, which are taken back, the last one first."""
        need_many(many)
        behind = self._rows[max(0, self.at() - many):self.at()][::-1]
        for row in behind:
            self._words[row[3]][row[4]] = self._before.pop()
        return behind

    def _store(self, row):
        words = self._words[row[3]]
        self._before.append(words[row[4]])
        words[row[4]] = row[5]

    def at(self):
        """How many rows are told by now."""
        return len(self._before)

    def is_over(self):
        """Whether all rows are told."""
        return self.at() == len(self._rows)

    def cell(self, array, cell):
        """The WORD in a cell now."""
        need_array(self._program, array)
        need_cell(self._program, self._sizes, array, cell)
        return self._words[array][cell]

    def stand(self):
        """The STAND now."""
        return words_shown(self._words)

    def walk_twin(self):
        """Another walk that stands so, and goes on by itself."""
        twin = Walk(self._program, self._sizes, self._given)
        twin.step(self.at())
        return twin


def need_many(many):
    """None; refuses of anything what can't tell how many rows to go."""
    if not is_whole(many, most=MOST_MANY):
        raise BadNumber(many)
