"""TURNS done one behind the other, taken back and done again, and the LEDGER that shows them SAFE."""

from lanewright.errors import BadPaper, BadTurn, Gone, Unsafe
from lanewright.parts import is_row, spots_below
from lanewright.programs import need_nest, need_program
from lanewright.turns import check_turn, is_order, is_safe, need_turn, reversed_by, turn_paper, turned


class Turning:
    """A PROGRAM that is turned, SAFE TURN by SAFE TURN."""

    def __init__(self, program):
        need_program(program)
        # The PROGRAM at the beginning, and that behind each TURN that stands.
        self._programs = [program]
        self._turns = []
        # TURNS that were taken back and can be done again, the next one last.
        self._spare = []
        self._tries = []

    def __eq__(self, other):
        if not isinstance(other, Turning):
            return False
        return (self._programs[0], self._turns) == (other._programs[0], other._turns)

    def __len__(self):
        return len(self._turns)

    def __repr__(self):
        return f"Turning({len(self._turns)})"

    def now(self):
        """The PROGRAM as it stands."""
        return self._programs[-1]

    def do(self, turn):
        """Does a SAFE TURN; the PROGRAM that comes."""
        against = reversed_by(self.now(), turn)
        if against is not None:
            self._tries.append(("unsafe", turn))
            raise Unsafe(against)
        self._tries.append(("kept", turn))
        self._spare.clear()
        return self._add(turn)

    def _add(self, turn):
        self._programs.append(turned(self.now(), turn))
        self._turns.append(turn)
        return self.now()

    def back(self):
        """Takes the last TURN back, and tells it."""
        if len(self._turns) == 0:
            raise Gone("no turn stands")
        self._programs.pop()
        self._spare.append(self._turns.pop())
        return self._spare[-1]

    def ahead(self):
        """Does the TURN again that was taken back last, and tells it."""
        if len(self._spare) == 0:
            raise Gone("no turn can be done again")
        self._add(self._spare.pop())
        return self._turns[-1]

    def ledger(self):
        """The LEDGER of all TURNS that stand."""
        return tuple([(turn, turn_paper(program, turn)) for program, turn in zip(self._programs, self._turns)])

    def tried(self):
        """A tuple of a pair for each TURN that was to be done, as they came: whether it was, and it."""
        return tuple(self._tries)

    def turning_twin(self):
        """Another one that stands so, and goes on by itself."""
        twin = Turning(self._programs[0])
        twin._programs = list(self._programs)
        twin._turns = list(self._turns)
        twin._spare = list(self._spare)
        twin._tries = list(self._tries)
        return twin


def check_ledger(program, ledger):
    """The PROGRAM that comes of all TURNS of a LEDGER; refuses of anything what is none."""
    need_program(program)
    if not isinstance(ledger, tuple):
        raise BadPaper(None)
    now = program
    for number, row in enumerate(ledger):
        if not is_row(row, 2, 2):
            raise BadPaper(number)
        try:
            now = check_turn(now, row[0], row[1])
        except (BadTurn, BadPaper):
            raise BadPaper(number) from None
    return now


def all_safe(program, nest):
    """A rising list of the SAFE TURNS of a nest, but that which leaves the LOOPS in their order."""
    need_program(program)
    need_nest(program, nest)
    loops, steps = program[2][nest]
    many = len(loops)
    turns = [("fuse", nest), ("part", nest)]
    turns.extend([("split", nest, number) for number in range(1, len(steps))])
    # The first ORDER of all is that which the LOOPS have.
    orders = [order for order in spots_below((many,) * many) if is_order(order, many)]
    turns.extend([("swap", nest, order) for order in orders[1:]])
    return [turn for turn in turns if is_turn(program, turn) and is_safe(program, turn)]


def is_turn(program, thing):
    """Whether anything is a TURN of a PROGRAM."""
    try:
        need_turn(program, thing)
    except BadTurn:
        return False
    return True
