"""The interface: names, arguments and values that stand where nothing is handed in, in the files that list them."""

import importlib
import inspect
import unittest

FUNCTIONS = {
    "words": [
        "is_whole(thing, *, least=0, most=65535)", "is_name(thing)", "reckoned(op, one, other)",
    ],
    "counts": [
        "is_count(thing, names)", "count_at(count, sizes)", "least_of(count)", "greatest_of(count)", "at_most(count, other)",
        "worst_sizes(count, other, names)",
    ],
    "programs": [
        "need_program(thing)", "need_head(sizes, arrays)", "accesses_of(program, nest)", "loops_of(program, nest)",
        "are_like(program, nest, other)", "array_of(program, name)", "cell_at(program, nest, access, spots)",
        "need_sizes(program, sizes)", "dims_at(program, name, sizes)", "cells_at(program, name, sizes)",
        "rounds_at(program, nest, sizes)",
    ],
    "plain": [
        "plain_run(program, sizes, given)", "stand_behind(program, sizes, given, nest)", "tale(program, sizes, given)",
        "reads(program, sizes, given)", "traffic(program, sizes, given)", "last_writer(program, sizes, given, nest, array, cell)",
    ],
    "meetings": [
        "binds(program, one, other, pattern)", "meeting(program, one, other, pattern)", "ring(program, one, other, pattern)",
        "check_ring(program, one, other, pattern, paper)", "binds_apart(program, one, other)", "meeting_apart(program, one, other)",
        "meets_at(program, one, other, sizes, x, y)", "ring_of(rows)", "need_ring(rows, paper)",
    ],
    "loose": [
        "is_free(program, nest, loop)", "free_loops(program, nest)", "free_paper(program, nest, loop)", "held_back(program, nest, loop)",
        "check_free(program, nest, loop, paper)", "ties(program, nest)",
    ],
    "turns": [
        "need_turn(program, turn)", "turned(program, turn)", "cases(program, turn)", "case_binds(program, turn, number)",
        "reversed_by(program, turn)", "is_safe(program, turn)", "safely(program, turn)", "turn_paper(program, turn)",
        "check_turn(program, turn, paper)",
    ],
    "ledger": ["check_ledger(program, ledger)", "all_safe(program, nest)"],
    "plans": [
        "need_plan(program, nest, plan)", "groups_of(program, nest, plan, sizes)", "window(program, nest, plan, sizes, group, array)",
        "moved(program, nest, plan, sizes)", "moved_parts(program, nest, plan, sizes)", "near_words(program, nest, plan, sizes)",
        "is_fit(program, nest, plan, sizes)", "may_be(program, nest, loop, array)", "plain_plans(program)",
    ],
    "leastplan": [
        "least_plan(program, nest, sizes)", "all_plans(program, nest, loop, lanes, sizes)", "shelf(program, nest, loop, lanes, sizes)",
        "table(program, nest, loop, lanes, sizes)", "least_paper(program, nest, sizes)", "check_least(program, nest, sizes, paper)",
    ],
    "kernels": ["need_kernel(sizes, arrays, kernel)", "rows_by_path(kernel)", "row_at(kernel, path)"],
    "lanes": ["run_lanes(sizes, arrays, kernel, at, stand, *, schedule=(), most=2000000)"],
    "clean": [
        "clash_of(kernel, events)", "is_clean(kernel, events)", "clean_paper(kernel, events)", "check_clean(kernel, events, paper)",
        "words_moved(kernel, events)", "one_order(events, others)",
    ],
    "compiled": ["kernel_of(program, nest, plan)", "kernels_of(program, plans)"],
    "steady": ["like_paper(sizes, arrays, kernel)", "check_like(sizes, arrays, kernel, paper)", "is_steady(sizes, arrays, kernel)"],
    "led": [
        "run_led(program, plans, sizes, given, *, schedules=())", "words_led(program, plans, sizes, given)",
        "tried(program, plans, kernels, sizes, given)", "first_event(program, plans, kernels, sizes, given)",
    ],
    "proseout": ["program_text(program)", "count_text(count)", "turn_text(turn)", "plan_text(program, nest, plan)", "kernel_text(kernel)"],
    "prosein": ["program_in(text)", "count_in(text)", "turn_in(text)", "plan_in(program, nest, text)", "kernel_in(text)"],
    "desk": ["all_said(lines)"],
}
CLASSES = {
    ("walk", "Walk"): ["__init__(self, program, sizes, given)", "step(self, many=1)", "back(self, many=1)", "at(self)", "is_over(self)",
                       "cell(self, array, cell)", "stand(self)", "walk_twin(self)", "__eq__(self, other)", "__len__(self)",
                       "__repr__(self)"],
    ("ledger", "Turning"): ["__init__(self, program)", "now(self)", "do(self, turn)", "back(self)", "ahead(self)", "ledger(self)",
                            "tried(self)", "turning_twin(self)", "__eq__(self, other)", "__len__(self)", "__repr__(self)"],
    ("lanes", "Lanes"): ["__init__(self, sizes, arrays, kernel, at, stand, *, most=2000000)", "turn(self, group, lane)",
                         "run(self, schedule=())", "has_turn(self, group, lane)", "path_of(self, group, lane)",
                         "registers(self, group, lane)", "interval(self, group, lane)", "lanes_there(self)", "is_over(self)", "end(self)",
                         "far(self)", "near(self, group)", "events(self)", "turns(self)", "clash(self)", "lanes_twin(self)",
                         "__eq__(self, other)", "__len__(self)", "__repr__(self)"],
    ("led", "Line"): ["__init__(self, program, plans, sizes, given)", "step(self, schedule=())", "back(self)", "at(self)", "stand(self)",
                      "result(self)", "line_twin(self)", "__eq__(self, other)", "__len__(self)", "__repr__(self)"],
    ("work", "Work"): ["__init__(self, program, *, sizes=None, given=None)", "do(self, edit)", "undo(self)", "redo(self)", "program(self)",
                       "plans(self)", "sizes(self)", "given(self)", "result(self)", "moved(self)", "kernels(self)", "ledger(self)",
                       "edits(self)", "log(self)", "work_twin(self)", "__eq__(self, other)", "__len__(self)", "__repr__(self)"],
    ("desk", "Desk"): ["__init__(self)", "said(self, line)", "works(self)", "work_of(self, name)", "__len__(self)", "__repr__(self)"],
}


class Interface(unittest.TestCase):
    def test_functions(self):
        for file, rows in FUNCTIONS.items():
            module = importlib.import_module(f"lanewright.{file}")
            for row in rows:
                name = row.split("(")[0]
                function = getattr(module, name)
                self.assertEqual(name + str(inspect.signature(function)), row)
                self.assertEqual(function.__module__, f"lanewright.{file}")

    def test_classes_have_their_methods_in_their_own_bodies(self):
        for (file, name), rows in CLASSES.items():
            kind = getattr(importlib.import_module(f"lanewright.{file}"), name)
            self.assertEqual(kind.__module__, f"lanewright.{file}")
            for row in rows:
                method = vars(kind)[row.split("(")[0]]
                self.assertEqual(method.__name__ + str(inspect.signature(method)), row)


if __name__ == "__main__":
    unittest.main()
