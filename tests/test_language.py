"""The package keeps to the plainer rules of ../shared/LANGUAGE.md, as far as a short look tells."""

import ast
import builtins
import pathlib
import re
import unittest

import truebooks
from truebooks import errors

FOLDER = pathlib.Path(truebooks.__file__).parent
LIBRARY = {"math": {"gcd", "lcm", "isqrt", "comb", "perm", "factorial"},
           "heapq": {"heappush", "heappop", "heapify", "heapreplace", "heappushpop"},
           "itertools": {"product", "combinations", "permutations"}}
BUILTINS = set("""len range enumerate zip min max sum abs sorted reversed int str bool list tuple dict
set isinstance ord repr any all divmod property ValueError""".split())
BARRED = (ast.GeneratorExp, ast.Lambda, ast.Global, ast.AsyncFunctionDef, ast.Await, ast.Import,
          ast.Yield, ast.YieldFrom, ast.Set, ast.SetComp, ast.Match, ast.With, ast.NamedExpr,
          ast.Div)
METHODS = set("""append clear copy count endswith extend find get index insert isalnum isalpha isdigit
items join keys ljust lower lstrip partition pop remove replace reverse rfind rjust split splitlines
startswith strip update upper values zfill bit_length setdefault""".split())
# L12: names begin with none of the first, and are none of the others, figures behind them aside.
BARRED_BEGINNINGS = ("_wall", "_pe_", "_dcw_", "_enum_", "_cm_", "_twin_re_", "_lay_", "_law_",
                     "_stub_", "_sre", "_WallAttr")
BARRED_NAMES = ("_cold", "_tuplegetter", "_outside", "_record", "_written_out", "_member_names")
PLAIN_NAME = re.compile("_?[A-Za-z][A-Za-z0-9_]*|_")
INTERFACE = {
    "lots": ["make_lot", "empty_lot", "whole_lot", "just_lot", "range_lot", "either_lot", "both_lot",
             "less_lot", "moved_lot", "turned_lot", "rest_lot", "within", "lot_members", "Lot"],
    "letters": ["check_letter", "check_test", "do_letter", "passes", "lot_of_test", "lot_after",
                "lot_before"],
    "lettertext": ["write_letter", "write_test", "read_letter", "read_test"],
    "lottext": ["write_lot", "read_lot"],
    "numbermachine": ["check_move", "move_number", "room_of", "number_of", "Machine"],
    "levels": ["room_arrows", "level_rooms"],
    "heights": ["rooms_by_height", "row_at", "core_numbers", "Heights"],
    "reach": ["reach", "number_run", "run_fault", "keeps_fault"],
    "books": ["Book"],
    "tables": ["check_word", "at_most", "join_two", "join_all", "deed_word", "test_word", "step_word",
               "alarms_at", "covers_first", "covers_row", "covers_test", "raised_book", "renamed_book"],
    "programs": ["rows_count", "procedure_of", "Program"],
    "places": ["place_count", "row_at_place", "call_places", "arrows_of", "alphabet_of"],
    "programtext": ["row_text", "read_rows", "write_program", "read_program"],
    "booktext": ["write_book", "read_book"],
    "runs": ["run_program", "run_fault", "all_runs", "open_calls", "Run"],
    "rows": ["check_alphabet", "join_rows", "row_at_most", "start_row", "entry_row", "row_after"],
    "climbs": ["Climb"],
    "rounds": ["closed_table", "closed_fault", "Climbed"],
    "orders": ["order_of", "climb_by"],
    "treatments": ["check_treatment", "first_key", "key_of"],
    "calls": ["answer_program", "table_of", "row_told", "result_of", "joined_row", "asked_nodes",
              "node_of_calls", "Answer"],
    "packages": ["called_names", "reached_names", "join_units"],
    "edits": ["edit_program"],
    "kept": ["Keeper"],
    "reasons": ["reasons_of", "find_line", "lines_under"],
    "tablejudge": ["judge_reasons", "judge_table", "judge_answer"],
    "unrolled": ["unroll_place", "carried_choices", "Unrolled"],
    "told": ["told_words", "told_lines", "told_fault", "told_procedures", "told_program",
             "rows_that_matter"],
    "beneath": ["word_machine", "beneath_lots"],
    "lies": ["show_couple", "verdict", "lie_fault", "Shown", "NeverLies", "Lies"],
    "couples": ["couples_told", "couple_program"],
    "twobooks": ["alike", "finer", "Parts"],
    "paths": ["path_lots", "paths_row", "joins_fault", "none_fault", "paths_alike", "is_silent"],
    "callkin": ["treatments_alike"],
    "contexts": ["run_steps", "parted", "told_classes"],
    "leastbook": ["least_book", "class_of", "told_match"],
    "covering": ["all_gaps", "first_gap", "meanings_fault", "tight_book"],
    "bestbook": ["least_word", "best_book", "covered_book", "lots_book"],
    "mends": ["least_mends"],
    "placelots": ["place_lots", "failing_lot"],
    "alarms": ["alarm_cause", "alarm_causes", "cause_fault", "Real", "Loss"],
    "exactbook": ["exact_book"],
    "fits": ["follow_run", "first_leaving", "quiet_failure", "leaving_run"],
    "desk": ["report_of", "Report", "Desk"],
    "stories": ["play_story", "write_story", "read_story"],
}
# The parameters that the interface tells for what has defaults or keywords.
SIGNATURES = {
    ("runs", "run_program"): "program, choices=(), fuel=200",
    ("runs", "all_runs"): "program, fuel, most=64",
    ("rows", "row_after"): "book, act, row, result=0",
    ("rounds", "closed_table"): "book, program, name, entry, *, results=(), order=None",
    ("rounds", "closed_fault"): "book, program, name, entry, table, *, results=()",
    ("orders", "climb_by"): "book, program, name, entry, picks, *, results=()",
    ("calls", "answer_program"): "book, program, treatment, picks=()",
    ("treatments", "key_of"): "treatment, key, name, place, callee, words",
    ("rows", "entry_row"): "book, args, row, variables",
    ("calls", "node_of_calls"): "book, program, answer, calls",
    ("unrolled", "unroll_place"): "book, program, node, place",
    ("tablejudge", "judge_answer"): "book, program, answer, lines",
    ("lies", "show_couple"): "book, word, number",
    ("lies", "lie_fault"): "book, lie",
    ("couples", "couple_program"): "one, other, word, partner",
    ("paths", "paths_row"): "book, program, name, place",
    ("paths", "paths_alike"): "book, *, many=False",
    ("contexts", "run_steps"): "book, word, steps",
    ("contexts", "parted"): "book, word, other",
    ("covering", "meanings_fault"): "book, lots",
    ("bestbook", "least_word"): "book, lot",
    ("bestbook", "lots_book"): "book, lots",
    ("mends", "least_mends"): "book, pool",
    ("placelots", "failing_lot"): "program, place",
    ("alarms", "cause_fault"): "book, program, place, cause",
    ("fits", "first_leaving"): "book, program, answer, one",
    ("fits", "leaving_run"): "book, program, answer, fuel, most=64",
    ("stories", "play_story"): "book, program, treatment, deeds",
}
PARTS = {"Lot": {"__init__", "__eq__", "__contains__", "bare"}, "Machine": {"__init__", "__eq__"},
         "Heights": {"__init__", "__eq__"}, "Book": {"__init__", "__eq__", "many", "top"},
         "Program": {"__init__", "__eq__", "main"}, "Run": {"__init__", "__eq__"},
         "Climb": {"__init__", "pass_on", "enter", "settle", "settled"},
         "Climbed": {"__init__", "__eq__"}, "Answer": {"__init__", "__eq__", "alarm_places"},
         "Keeper": {"__init__", "do_edits", "take_back", "set_treatment", "work_out", "made_anew"},
         "Unrolled": {"__init__", "__eq__"}, "Shown": {"__init__", "__eq__"},
         "NeverLies": {"__init__", "__eq__"}, "Lies": {"__init__", "__eq__"},
         "Parts": {"__init__", "__eq__"}, "Real": {"__init__", "__eq__"}, "Loss": {"__init__", "__eq__"},
         "Report": {"__init__", "__eq__"},
         "Desk": {"__init__", "do_deed", "work_out", "told_verdict", "run_here", "leaving_here", "trial"}}


def files():
    return sorted(FOLDER.glob("*.py"))


def trees():
    return [(path.name, ast.parse(path.read_text())) for path in files()]


def names_of(tree):
    """All names that a file binds or uses: variables, functions, attributes, keywords, imports."""
    names = set()
    for node in ast.walk(tree):
        for field in ("id", "name", "attr", "arg", "asname"):
            word = getattr(node, field, None)
            if isinstance(word, str) and not isinstance(node, ast.ImportFrom):
                names.add(word)
    return names


class LanguageTest(unittest.TestCase):
    def test_the_folder_holds_nothing_else(self):
        names = {path.name for path in FOLDER.iterdir()} - {"__pycache__"}
        self.assertEqual(names, {path.name for path in files()})
        self.assertLessEqual(len(names), 100)

    def test_sizes_and_characters(self):
        for path in files():
            text = path.read_text()
            lines = text.split("\n")
            self.assertLessEqual(len(lines), 399, path.name)
            self.assertLessEqual(max(len(line) for line in lines), 120, path.name)
            self.assertTrue(all(" " <= character <= "~" or character == "\n" for character in text))

    def test_functions_are_short(self):
        for name, tree in trees():
            for node in ast.walk(tree):
                if isinstance(node, ast.FunctionDef):
                    self.assertLessEqual(node.end_lineno - node.lineno + 1, 40, (name, node.name))

    def test_imports(self):
        for name, tree in trees():
            for node in tree.body:
                if isinstance(node, ast.ImportFrom):
                    words = {alias.name for alias in node.names}
                    self.assertEqual({alias.asname for alias in node.names}, {None})
                    if not node.module.startswith("truebooks."):
                        self.assertLessEqual(words, LIBRARY[node.module], name)

    def test_statements_and_expressions(self):
        for name, tree in trees():
            for node in ast.walk(tree):
                self.assertNotIsInstance(node, BARRED, (name, getattr(node, "lineno", 0)))
                if isinstance(node, ast.Constant):
                    self.assertNotIsInstance(node.value, (float, complex, bytes))
                    if isinstance(node.value, str):
                        self.assertNotIn("%", node.value)
                if isinstance(node, ast.FunctionDef):
                    for mark in node.decorator_list:
                        self.assertEqual(ast.unparse(mark), "property")

    def test_builtins_and_methods(self):
        for name, tree in trees():
            bound = {node.id for node in ast.walk(tree)
                     if isinstance(node, ast.Name) and isinstance(node.ctx, ast.Store)}
            bound |= {node.arg for node in ast.walk(tree) if isinstance(node, ast.arg)}
            bound |= {node.name for node in ast.walk(tree)
                      if isinstance(node, (ast.FunctionDef, ast.ClassDef))}
            free = {node.name for node in tree.body if isinstance(node, (ast.FunctionDef, ast.ClassDef))}
            self.assertEqual({word for word in free if hasattr(builtins, word)}, set(), name)
            called = {node.func.attr for node in ast.walk(tree)
                      if isinstance(node, ast.Call) and isinstance(node.func, ast.Attribute)}
            own = {node.name for _, other in trees() for node in ast.walk(other)
                   if isinstance(node, ast.FunctionDef)}
            self.assertLessEqual(called, METHODS | own, name)
            used = {node.id for node in ast.walk(tree) if isinstance(node, ast.Name)
                    and hasattr(builtins, node.id)}
            self.assertLessEqual(used, BUILTINS, name)
            bound = {word for word in bound if not word.startswith("__")}
            self.assertEqual({word for word in bound if hasattr(builtins, word)}, set(), name)

    def test_names_are_plain(self):
        for name, tree in trees():
            for word in names_of(tree):
                self.assertFalse(word.startswith(BARRED_BEGINNINGS), (name, word))
                self.assertNotIn(word.rstrip("0123456789_"), BARRED_NAMES, name)
                if not (word.startswith("__") and word.endswith("__")):
                    self.assertTrue(PLAIN_NAME.fullmatch(word), (name, word))

    def test_no_name_of_an_import_or_class_is_bound_again(self):
        for name, tree in trees():
            taken = {alias.name for node in tree.body if isinstance(node, ast.ImportFrom)
                     for alias in node.names}
            taken |= {node.name for node in tree.body if isinstance(node, ast.ClassDef)}
            bound = {node.id for node in ast.walk(tree)
                     if isinstance(node, ast.Name) and isinstance(node.ctx, ast.Store)}
            bound |= {node.arg for node in ast.walk(tree) if isinstance(node, ast.arg)}
            self.assertEqual(taken & bound, set(), name)

    def test_the_interface_is_defined_where_it_is_listed(self):
        for module, names in INTERFACE.items():
            tree = ast.parse((FOLDER / f"{module}.py").read_text())
            defined = {node.name: node for node in tree.body
                       if isinstance(node, (ast.FunctionDef, ast.ClassDef))}
            self.assertLessEqual(set(names), set(defined), module)
            for name in set(names) & set(PARTS):
                parts = {node.name for node in defined[name].body if isinstance(node, ast.FunctionDef)}
                self.assertLessEqual(PARTS[name], parts, name)
            for name in names:
                if (module, name) in SIGNATURES:
                    self.assertEqual(ast.unparse(defined[name].args), SIGNATURES[(module, name)])

    def test_no_name_is_a_method_and_an_attribute(self):
        methods = set()
        attributes = set()
        for _, tree in trees():
            for node in ast.walk(tree):
                if isinstance(node, ast.ClassDef):
                    methods |= {part.name for part in node.body if isinstance(part, ast.FunctionDef)}
                if isinstance(node, ast.Attribute) and isinstance(node.ctx, ast.Store):
                    attributes.add(node.attr)
        self.assertEqual(methods & attributes, set())

    def test_no_name_is_a_property_and_a_method_or_attribute(self):
        properties = set()
        others = set()
        for _, tree in trees():
            for node in ast.walk(tree):
                if isinstance(node, ast.ClassDef):
                    for part in node.body:
                        if isinstance(part, ast.FunctionDef):
                            (properties if part.decorator_list else others).add(part.name)
                if isinstance(node, ast.Attribute) and isinstance(node.ctx, ast.Store):
                    others.add(node.attr)
        self.assertEqual(properties & others, set())
        self.assertGreater(len(properties), 4)

    def test_stars_in_calls_stand_before_names(self):
        for name, tree in trees():
            for node in ast.walk(tree):
                if isinstance(node, ast.Call):
                    for given in node.args:
                        if isinstance(given, ast.Starred):
                            self.assertIsInstance(given.value, (ast.Name, ast.List, ast.Tuple), (name, node.lineno))

    def test_zips_and_views_are_iterated_at_once(self):
        takers = {"list", "tuple", "dict", "sorted", "sum", "enumerate", "zip", "min", "max"}
        for name, tree in trees():
            right = set()
            for node in ast.walk(tree):
                if isinstance(node, (ast.For, ast.comprehension)):
                    right.add(id(node.iter))
                if isinstance(node, ast.Call) and isinstance(node.func, ast.Name) and node.func.id in takers:
                    right |= {id(given) for given in node.args}
            for node in ast.walk(tree):
                if isinstance(node, ast.Call):
                    word = getattr(node.func, "id", getattr(node.func, "attr", None))
                    if word in ("zip", "enumerate", "range", "reversed", "items", "keys", "values", "combinations"):
                        self.assertIn(id(node), right, (name, node.lineno))

    def test_caught_errors_are_the_package_s_own(self):
        own = set(vars(errors))
        for name, tree in trees():
            for node in ast.walk(tree):
                if isinstance(node, ast.ExceptHandler):
                    self.assertIn(ast.unparse(node.type), own, name)

    def test_no_two_files_import_from_each_other(self):
        needs = {}
        for name, tree in trees():
            needs[name[:-3]] = {node.module.split(".")[1] for node in tree.body
                                if isinstance(node, ast.ImportFrom)
                                and node.module.startswith("truebooks.")}
        done = set()
        while len(done) < len(needs):
            ready = {name for name, words in needs.items() if words <= done} - done
            self.assertTrue(ready, set(needs) - done)
            done |= ready


if __name__ == "__main__":
    unittest.main()
