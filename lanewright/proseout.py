"""Texts of PROGRAMS, COUNTS, TURNS, PLANS and KERNELS."""

from lanewright.kernels import rows_in
from lanewright.plans import FIRST_USE, PLAN_USES
from lanewright.programs import need_program


def program_text(program):
    """The text of a PROGRAM."""
    need_program(program)
    sizes, arrays, nests = program
    rows = [spaced(["sizes", *sizes])]
    for name, kind, dims in arrays:
        rows.append(spaced(["array", name, kind, *count_texts(dims)]))
    for nest in nests:
        rows.extend(nest_texts(nest))
    return "\n".join(rows)


def spaced(words):
    """Words with one blank between."""
    return " ".join(words)


def nest_texts(nest):
    """A list of the rows of a NEST."""
    rows = ["nest"]
    for name, count in nest[0]:
        rows.append(spaced(["loop", name, count_text(count)]))
    for word, array, indexes, expr in nest[1]:
        rows.append(spaced([word, cell_text(array, indexes), expr_text(expr)]))
    return rows


def count_texts(counts):
    """A list of the words of some COUNTS."""
    return [count_text(count) for count in counts]


def count_text(count):
    """The text of a COUNT."""
    fixed, terms = count
    if len(terms) == 0:
        return str(fixed)
    shown = "+".join([term_text(name, times) for name, times in terms])
    return shown if fixed == 0 else f"{shown}{fixed:+d}"


def term_text(name, times):
    """How one of TERMS is written."""
    return name if times == 1 else f"{times}{name}"


def cell_text(array, indexes):
    """How a CELL is written, to which INDEXES come."""
    shown = ",".join([index_text(loop, more) for loop, more in indexes])
    return f"{array}[{shown}]"


def index_text(loop, more):
    """How an INDEX is written."""
    if loop == "":
        return str(more)
    return loop if more == 0 else f"{loop}+{more}"


def expr_text(expr):
    """The words of an EXPR."""
    word = expr[0]
    if word == "num":
        return str(expr[1])
    if word == "loop":
        return f":{expr[1]}"
    if word == "at":
        return cell_text(expr[1], expr[2])
    return spaced([word, expr_text(expr[1]), expr_text(expr[2])])


def turn_text(turn):
    """The text of a TURN."""
    numbers = [*turn[1:2], *turn[2]] if turn[0] == "swap" else turn[1:]
    return spaced([turn[0], *number_texts(numbers)])


def number_texts(numbers):
    """A list of the words of some numbers."""
    return [str(number) for number in numbers]


def plan_text(program, nest, plan):
    """The text of a PLAN of a nest."""
    words = ["plan", program[2][nest][0][plan[0]][0], str(plan[1])]
    for number, use in enumerate(PLAN_USES):
        names = plan[FIRST_USE + number]
        if len(names) > 0:
            words.extend([use, ",".join(names)])
    return spaced(words)


def kernel_text(kernel):
    """The text of a KERNEL."""
    lanes, count, nears, rows = kernel
    found = [spaced(["kernel", str(lanes), count_text(count)])]
    for name, dims in nears:
        found.append(spaced(["near", name, *count_texts(dims)]))
    return "\n".join(found + rows_texts(rows, []))


def rows_texts(rows, dots):
    """A list of the rows of ROWS, dots ahead of each."""
    found = []
    for row in rows:
        found.append(spaced([*dots, *row_words(row)]))
        found.extend(rows_texts(rows_in(row), [*dots, "."]))
    return found


def row_words(row):
    """A list of the words of a row, those of the rows within it left out."""
    word = row[0]
    if word in ("load", "store"):
        return move_words(row)
    if word == "do":
        return ["do", row[1], register_text(row[2]), *operand_texts(row[3:])]
    if word in ("set", "loop"):
        return [word, register_text(row[1]), *operand_texts(row[2:3] if word == "set" else row[2:4])]
    return ["if", operand_text(row[1])] if word == "if" else ["fence"]


def move_words(row):
    """A list of the words of a load or store."""
    if row[0] == "load":
        words = ["load", register_text(row[1]), row[2], *operand_texts(row[3])]
    else:
        words = ["store", row[1], *operand_texts(row[2]), operand_text(row[3])]
    for nest, step in row[4:]:
        words.extend(["at", str(nest), "-" if step is None else str(step)])
    return words


def register_text(number):
    """How a register is written."""
    return f"r{number}"


def operand_texts(operands):
    """A list of the words of some operands."""
    return [operand_text(operand) for operand in operands]


def operand_text(operand):
    """How an operand is written."""
    word = operand[0]
    if word == "num":
        return str(operand[1])
    if word == "reg":
        return register_text(operand[1])
    return f":{operand[1]}" if word == "size" else word
