"""Some of the rules of LANGUAGE.md, for every file of the package.

The package uses less than the rules allow; what is checked here is narrower than they
are where that is simpler. A rule that is not checked here still holds.
"""

import ast
import builtins
import doctest
import os
import unittest

TOP = os.path.join(os.path.dirname(os.path.dirname(os.path.abspath(__file__))), "ballgrids")
LIBRARY = {"math": ("gcd", "lcm", "isqrt", "comb", "perm", "factorial")}
CALLED = (
    "len range enumerate zip min max sum abs sorted reversed int str bool list tuple dict isinstance any all divmod "
    "TypeError iter").split()
METHODS = "append get items join keys values zfill copy index count bit_length split startswith isdigit isalnum".split()
BARRED = (
    "mro elements open input law version_info with_traceback add_note register attrgetter breakpoint builtins compile "
    "copyright credits delattr dir eval exec exit gc getattr globals hasattr help id importlib license locals "
    "methodcaller os quit setattr super vars sys type typing enum Enum Flag Generic Protocol ABC namedtuple "
    "NamedTuple").split()
NO_NODES = (
    ast.Global, ast.Nonlocal, ast.AsyncFunctionDef, ast.AsyncFor, ast.AsyncWith, ast.Await, ast.Lambda, ast.Set,
    ast.SetComp, ast.GeneratorExp, ast.NamedExpr, ast.With, ast.Delete, ast.Assert, ast.Div, ast.MatMult,
    ast.AnnAssign, ast.YieldFrom, ast.Match)


def files():
    found = []
    for folder, folders, names in os.walk(TOP):
        folders[:] = [name for name in folders if name != "__pycache__"]
        found.extend(os.path.join(folder, name) for name in names)
    return sorted(found)


def module_of(path):
    parts = os.path.relpath(path, os.path.dirname(TOP))[:-3].split(os.sep)
    return ".".join(parts[:-1] if parts[-1] == "__init__" else parts)


def read(path):
    with open(path, encoding="utf-8") as file:
        return file.read()


TREES = {path: ast.parse(read(path)) for path in files()}
MODULES = {module_of(path): tree for path, tree in TREES.items()}


def bound_at_top(tree):
    """The names that a file defines itself, in their order."""
    names = []
    for node in tree.body:
        if isinstance(node, (ast.FunctionDef, ast.ClassDef)):
            names.append(node.name)
        elif isinstance(node, ast.Assign):
            names.extend(target.id for target in node.targets)
    return names


def imported(tree):
    return [(node.module, name.name) for node in tree.body if isinstance(node, ast.ImportFrom) for name in node.names]


def functions_of(tree):
    return [node for node in ast.walk(tree) if isinstance(node, ast.FunctionDef)]


def locals_of(function):
    arguments = function.args
    names = [told.arg for told in arguments.args + arguments.kwonlyargs + arguments.posonlyargs]
    names += [told.arg for told in (arguments.vararg, arguments.kwarg) if told]
    for node in ast.walk(function):
        if isinstance(node, ast.Name) and isinstance(node.ctx, ast.Store):
            names.append(node.id)
    return names


class Files(unittest.TestCase):
    def test_files(self):
        self.assertLessEqual(len(TREES), 100)
        for path in TREES:
            self.assertTrue(path.endswith(".py"), path)
            text = read(path)
            self.assertTrue(all(" " <= sign <= "~" or sign == "\n" for sign in text), path)
            lines = text.split("\n")
            self.assertLessEqual(len(lines), 399, path)
            self.assertLessEqual(max(map(len, lines)), 120, path)
            self.assertIn(os.path.join(os.path.dirname(path), "__init__.py"), TREES)
            name = os.path.basename(path)[:-3]
            self.assertTrue(name == "__init__" or not hasattr(builtins, name), path)
            self.assertEqual(name, name.lower())

    def test_functions(self):
        for path, tree in TREES.items():
            for node in functions_of(tree):
                self.assertLessEqual(node.end_lineno - node.lineno + 1, 40, (path, node.name))
                if not node.name.startswith("__"):
                    self.assertTrue(ast.get_docstring(node), (path, node.name))

    def test_statements_at_the_top(self):
        for path, tree in TREES.items():
            self.assertTrue(ast.get_docstring(tree), path)
            for node in tree.body[1:]:
                self.assertIsInstance(node, (ast.ImportFrom, ast.FunctionDef, ast.ClassDef, ast.Assign), path)
                if isinstance(node, ast.Assign):
                    self.assertEqual([type(target) for target in node.targets], [ast.Name])


class Words(unittest.TestCase):
    def test_words_that_stand_nowhere(self):
        for path in TREES:
            text = read(path)
            for word in ("_wall", "_Wall", "_law_", "_lay_", "_stub_", "_enum_", "_record", "_outside", "_cold"):
                self.assertNotIn(word, text, path)


class Names(unittest.TestCase):
    def test_imports(self):
        for path, tree in TREES.items():
            for module, name in imported(tree):
                if module in LIBRARY:
                    self.assertIn(name, LIBRARY[module])
                else:
                    self.assertIn(name, bound_at_top(MODULES[module]), (path, module, name))
            for node in tree.body:
                if isinstance(node, ast.ImportFrom):
                    self.assertEqual(node.level, 0)
                    self.assertTrue(all(name.asname is None for name in node.names))

    def test_no_circles(self):
        behind = {module: {told for told, _ in imported(tree) if told not in LIBRARY} for module, tree in MODULES.items()}
        done = set()
        while len(done) < len(behind):
            free = [module for module in behind if module not in done and behind[module] <= done]
            self.assertTrue(free, sorted(set(behind) - done))
            done.update(free)

    def test_every_import_is_used(self):
        for path, tree in TREES.items():
            used = {node.id for node in ast.walk(tree) if isinstance(node, ast.Name)}
            for module, name in imported(tree):
                self.assertIn(name, used, path)

    def test_one_binding(self):
        for path, tree in TREES.items():
            names = bound_at_top(tree) + [name for _, name in imported(tree)]
            self.assertEqual(len(names), len(set(names)), path)
            taken = {name for _, name in imported(tree)}
            taken.update(node.name for node in tree.body if isinstance(node, ast.ClassDef))
            for function in functions_of(tree):
                for name in locals_of(function):
                    self.assertNotIn(name, taken, (path, function.name))
                    self.assertFalse(hasattr(builtins, name), (path, function.name, name))
            for name in names:
                self.assertFalse(hasattr(builtins, name), (path, name))

    def test_plain_names(self):
        for path, tree in TREES.items():
            for node in ast.walk(tree):
                for field in ("id", "attr", "name", "arg"):
                    name = getattr(node, field, None)
                    if isinstance(name, str):
                        self.assertNotIn(name, BARRED, path)
                        self.assertTrue(name == "_" or not name.startswith("__") or name.endswith("__"), (path, name))
                if isinstance(node, ast.Name) and node.id == "_":
                    self.assertIsInstance(node.ctx, ast.Store)


class Expressions(unittest.TestCase):
    def test_nodes(self):
        for path, tree in TREES.items():
            for node in ast.walk(tree):
                self.assertNotIsInstance(node, NO_NODES, (path, getattr(node, "lineno", "")))
                if isinstance(node, ast.Constant):
                    self.assertNotIsInstance(node.value, (float, complex, bytes), path)
                if isinstance(node, ast.AugAssign):
                    self.assertIsInstance(node.op, ast.Add)
                    self.assertIs(type(node.value.value), int)
                if isinstance(node, ast.BinOp) and isinstance(node.op, ast.Pow):
                    self.assertTrue(isinstance(node.right, ast.Constant) and 0 <= node.right.value <= 64)
                if isinstance(node, ast.Compare):
                    for operator, right in zip(node.ops, node.comparators):
                        if isinstance(operator, (ast.Is, ast.IsNot)):
                            self.assertTrue(isinstance(right, ast.Constant))

    def test_strings(self):
        for path, tree in TREES.items():
            texts = {id(node.body[0].value) for node in ast.walk(tree)
                     if isinstance(node, (ast.Module, ast.FunctionDef, ast.ClassDef)) and ast.get_docstring(node)}
            for node in ast.walk(tree):
                if isinstance(node, ast.Constant) and isinstance(node.value, str) and id(node) not in texts:
                    self.assertNotIn("%", node.value, path)
                    self.assertNotIn("__", node.value, path)

    def test_calls(self):
        own = {name for tree in TREES.values() for name in bound_at_top(tree)}
        own.update(name for names in LIBRARY.values() for name in names)
        methods = {node.name for tree in TREES.values() for node in functions_of(tree)}
        for path, tree in TREES.items():
            for node in ast.walk(tree):
                if isinstance(node, ast.Call) and isinstance(node.func, ast.Name):
                    self.assertIn(node.func.id, own | set(CALLED) | {"cls"}, (path, node.lineno))
                elif isinstance(node, ast.Call):
                    self.assertIsInstance(node.func, ast.Attribute)
                    self.assertIn(node.func.attr, methods | set(METHODS), (path, node.lineno))

    def test_decorators(self):
        for path, tree in TREES.items():
            for node in ast.walk(tree):
                if isinstance(node, ast.ClassDef):
                    self.assertEqual(node.decorator_list, [])
                if isinstance(node, ast.FunctionDef):
                    for told in node.decorator_list:
                        self.assertIn(told.id, ("property", "classmethod", "staticmethod"))


class Interface(unittest.TestCase):
    """Each name of DOC.md is defined in the file under which it stands."""

    LISTED = {
        "ballgrids.errors": (
            "GridError InvalidTable InvalidForm InvalidMatrix InvalidRow InvalidRows InvalidCopy InvalidStep "
            "InvalidPromise InvalidOperation ParseError InvalidNumber UnknownName TooMany Refused NothingToUndo"),
        "ballgrids.base.numbers": "MAX_NUMBERS is_integer is_ratio common_divisor lowest compare plus minus times",
        "ballgrids.base.tables": "MAX_LINES MAX_DETERMINANT rank echelon kernel determinant product told_by",
        "ballgrids.form.matrices": (
            "SIZES is_row is_table is_matrix unit_matrix matrix_product matrix_back normal_row square led_row led_table "
            "moved_table table_value together"),
        "ballgrids.form.forms": "Form is_positive barrier is_barrier",
        "ballgrids.short.bases": (
            "is_reduced reduced is_reducing successive_values is_successive is_basis least_form"),
        "ballgrids.short.rows": (
            "MOST_ROWS MOST_VALUE least_value least_rows is_least_row rows_up_to rows_of_value count_values each_row "
            "density is_denser"),
        "ballgrids.alike.alikes": (
            "MOST_COUNTED MOST_ROWS matrices_between matrix_between is_between are_alike are_turned_alike keepers "
            "count_keepers keeper_order multiple_between is_multiple_between row_kinds first_unlike alike_parts"),
        "ballgrids.cone.told": "NAMES told_form rays_of frames Copy has_ray",
        "ballgrids.span.spans": (
            "MAX_SPANNED rank_of_rows base_of_zeros table_by_values rank_of_squares is_perfect blanks is_blank told_copy "
            "is_told_copy"),
        "ballgrids.chain.chains": (
            "is_rising greatest_t risen rise_rows is_rise each_rise chain is_chain"),
        "ballgrids.cone.cones": (
            "wall_tables wall_rows behind are_beside level_weights weighted is_in_cone crossed"),
        "ballgrids.weight.weights": (
            "weights_of_adjoint level_number opposing is_opposing blocking is_blocking is_locally_densest critical_forms "
            "critical_index"),
        "ballgrids.cone.addresses": (
            "address is_address face_of walk is_walk copies_beside are_alike_by_faces"),
        "ballgrids.price.prices": (
            "is_price_table price_of is_writing sum_of_writing least_price price_paper is_price_paper price_at "
            "is_cheapest price_excess"),
        "ballgrids.bound.bounds": (
            "bound bound_paper is_bound_paper bound_by shortfall is_densest dual_product value_product"),
        "ballgrids.face.classes": "face_marks keepers_by_mark face_with mass",
        "ballgrids.face.faces": (
            "is_face mark_of dimension_of face_table are_alike_faces face_matrix is_face_matrix face_keepers each_face"),
        "ballgrids.word.galleries": (
            "MOST_ENTRY is_step each_step gallery is_gallery steps_of gallery_along word_of is_word told_by_word distance"),
        "ballgrids.cell.cells": (
            "relevant_rows is_relevant count_sides obtuse_basis is_obtuse_basis obtuse_weights corners covering"),
        "ballgrids.count.counts": (
            "COUNTED MAX_COUNTED counted_form count_by_divisors each_count count_in count_about each_above"),
        "ballgrids.desk.promises": "is_promise does_hold paper_against is_paper_against",
        "ballgrids.desk.desks": "MAX_PROMISES MAX_DEEDS MAX_INDEX Desk Batch",
        "ballgrids.text.formats": "write_form read_form write_matrix read_matrix write_address read_address",
        "ballgrids.text.shell": "MAX_LINE MAX_LINES Shell",
    }
    CLASSES = {
        "Form": (
            "__init__ diagonal size table determinant minors adjoint content value pairing led cleared __add__ __mul__ "
            "__eq__ __len__ __str__"),
        "Copy": (
            "__init__ first name matrix size rays rows form led __eq__ __contains__ __len__ __iter__ __str__"),
        "Desk": (
            "__init__ form promises version do would promise drop undo at batch __eq__ __len__ __iter__ __contains__ __str__"),
        "Batch": "__init__ form is_open put end drop __enter__ __exit__",
        "Shell": "__init__ form promises version say run __len__ __str__",
    }
    # What further methods a class has for other files of the package, or for its own methods.
    INNER = {"Batch": "need_going", "Desk": "need_free change settle", "Shell": "answer obey act gather"}

    def test_names(self):
        for module, names in self.LISTED.items():
            self.assertEqual([name for name in names.split() if name not in bound_at_top(MODULES[module])], [])

    def test_classes(self):
        defined = {node.name: node for tree in TREES.values() for node in tree.body if isinstance(node, ast.ClassDef)}
        for name, methods in self.CLASSES.items():
            own = {node.name for node in defined[name].body if isinstance(node, ast.FunctionDef)}
            self.assertEqual(sorted(own), sorted(methods.split() + self.INNER.get(name, "").split()))

    def test_arguments(self):
        told = {
            "lowest": "top bottom", "told_by": "lines line", "led_row": "matrix row", "led_table": "table matrix",
            "is_barrier": "size table value", "is_reducing": "form value", "rows_up_to": "form bound",
            "rows_of_value": "form number", "count_values": "form most", "keeper_order": "form matrix",
            "is_multiple_between": "one other value", "first_unlike": "one other most", "alike_parts": "forms",
            "told_form": "name", "rays_of": "name", "frames": "", "has_ray": "name value",
            "rank_of_rows": "size rows", "base_of_zeros": "size rows", "table_by_values": "size rows values",
            "is_blank": "form value", "told_copy": "form", "is_told_copy": "form value", "is_rising": "form value",
            "greatest_t": "form table", "risen": "form table", "rise_rows": "form table", "is_rise": "form value",
            "each_rise": "form", "chain": "form", "is_chain": "form value", "wall_tables": "copy",
            "wall_rows": "copy table", "behind": "copy table", "are_beside": "one other", "level_weights": "copy table",
            "weighted": "copy weights", "is_in_cone": "copy table", "crossed": "copy table", "is_opposing": "form value",
            "is_blocking": "form value", "critical_forms": "size", "critical_index": "form", "is_address": "form value",
            "is_walk": "form value", "copies_beside": "form copy", "are_alike_by_faces": "one other",
            "is_price_table": "size table bottom", "price_of": "form table bottom", "is_writing": "form value",
            "sum_of_writing": "form writing", "is_price_paper": "form value", "price_at": "copy form",
            "is_cheapest": "copy form", "price_excess": "form table bottom writing", "is_bound_paper": "form value",
            "bound_by": "form paper", "face_marks": "size", "keepers_by_mark": "size", "face_with": "size mark",
            "mass": "size", "is_face": "size value", "mark_of": "size rows", "dimension_of": "size rows",
            "face_table": "size rows", "are_alike_faces": "size one other", "face_matrix": "size one other",
            "is_face_matrix": "size one other value", "face_keepers": "size rows", "each_face": "copy many",
            "is_step": "name other value", "each_step": "name", "gallery": "one other", "is_gallery": "value",
            "steps_of": "copies", "gallery_along": "copy steps", "word_of": "size matrix", "is_word": "size matrix value",
            "told_by_word": "size word", "distance": "one other", "relevant_rows": "form", "is_relevant": "form value",
            "count_sides": "form", "obtuse_basis": "form", "is_obtuse_basis": "form value",
            "obtuse_weights": "form basis", "corners": "form", "covering": "form", "counted_form": "name",
            "count_by_divisors": "name number", "each_count": "name", "count_in": "size lower upper",
            "count_about": "size lower upper", "each_above": "size lower", "is_promise": "size value",
            "does_hold": "form promise", "paper_against": "form promise", "is_paper_against": "form promise value",
            "write_form": "form", "read_form": "text", "write_matrix": "matrix", "read_matrix": "text",
            "write_address": "address", "read_address": "text"}
        for tree in TREES.values():
            for node in tree.body:
                if isinstance(node, ast.FunctionDef) and node.name in told:
                    self.assertEqual([name.arg for name in node.args.args], told[node.name].split())


    def test_arguments_of_methods(self):
        told = {
            "do": "deeds", "would": "deeds", "promise": "promise", "undo": "count", "at": "version", "batch": "", "put": "deed",
            "end": "", "say": "command", "run": "commands", "value": "row", "pairing": "one other", "led": "matrix"}
        for tree in TREES.values():
            for node in tree.body:
                if isinstance(node, ast.ClassDef) and node.name in self.CLASSES:
                    for method in node.body:
                        if isinstance(method, ast.FunctionDef) and method.name in told:
                            self.assertEqual([name.arg for name in method.args.args][1:], told[method.name].split())


class Attributes(unittest.TestCase):
    def test_attributes_have_names_of_their_own(self):
        inner = set()
        for tree in TREES.values():
            for node in ast.walk(tree):
                if isinstance(node, ast.ClassDef):
                    inner.update(told.name for told in node.body if isinstance(told, ast.FunctionDef))
        stored = {
            node.attr for tree in TREES.values() for node in ast.walk(tree)
            if isinstance(node, ast.Attribute) and isinstance(node.ctx, ast.Store)}
        self.assertEqual(stored & inner, set())
        read = {
            node.attr for tree in TREES.values() for node in ast.walk(tree)
            if isinstance(node, ast.Attribute) and isinstance(node.ctx, ast.Load)}
        self.assertEqual(read - stored - inner - set(METHODS), set())

    def test_properties_change_nothing(self):
        for tree in TREES.values():
            for node in functions_of(tree):
                if node.name in ("__eq__", "__len__", "__str__", "__iter__", "__contains__"):
                    self.assertLessEqual(len(node.body), 2)
                    self.assertIsInstance(node.body[-1], ast.Return)
                if [told.id for told in node.decorator_list] == ["property"]:
                    self.assertEqual(len(node.body), 2)
                    self.assertIsInstance(node.body[1], ast.Return)


class Stars(unittest.TestCase):
    def test_stars_in_calls(self):
        for path, tree in TREES.items():
            for node in ast.walk(tree):
                if isinstance(node, ast.Starred) and isinstance(node.ctx, ast.Load):
                    self.assertIsInstance(node.value, (ast.Name, ast.Attribute), path)
                if isinstance(node, ast.Call) and isinstance(node.func, ast.Name) and node.func.id in ("zip", "range"):
                    self.assertFalse(node.keywords)


class Readme(unittest.TestCase):
    def test_examples(self):
        failed, tried = doctest.testfile(os.path.join(os.path.dirname(TOP), "README.md"), module_relative=False)
        self.assertEqual(failed, 0)
        self.assertGreater(tried, 0)
