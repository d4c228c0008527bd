"""Checks those rules of the language subset that can be read off the code one by one."""

import ast
import builtins
import pathlib
import unittest

PACKAGE = pathlib.Path(__file__).resolve().parent.parent / "enoughtests"

NODES = set("""
    Module FunctionDef ClassDef Return Delete Assign AugAssign For While If With Raise Try Assert ImportFrom Nonlocal
    Expr Pass Break Continue Match BoolOp NamedExpr BinOp UnaryOp Lambda IfExp Dict Set ListComp SetComp DictComp
    GeneratorExp Yield YieldFrom Compare Call FormattedValue JoinedStr Constant Attribute Subscript Starred Name List
    Tuple Slice Load Store Del And Or Add Sub Mult Mod Pow LShift RShift BitOr BitXor BitAnd FloorDiv Invert Not UAdd
    USub Eq NotEq Lt LtE Gt GtE Is IsNot In NotIn comprehension ExceptHandler arguments arg keyword alias withitem
    match_case MatchValue MatchSingleton MatchSequence MatchClass MatchStar MatchAs MatchOr
""".split())

BUILTINS = set("""
    len range enumerate zip min max sum abs sorted reversed int str bool list tuple dict set isinstance ord repr any
    all divmod pow iter next map Exception ValueError TypeError KeyError IndexError LookupError ZeroDivisionError
    ArithmeticError OverflowError RuntimeError NotImplementedError StopIteration NotImplemented
""".split())

LIBRARY = {
    "heapq": {"heappush", "heappop", "heapify", "heapreplace", "heappushpop"},
    "math": {"gcd", "lcm", "isqrt", "comb", "perm", "factorial"},
    "itertools": {"chain", "accumulate", "pairwise", "islice", "zip_longest"},
    "collections": {"defaultdict"},
}

METHODS = set("""
    append clear copy count endswith extend find get index insert isalnum isalpha isdigit islower isspace isupper items
    join keys ljust lower lstrip partition pop remove replace reverse rfind rjust rpartition rsplit rstrip setdefault
    split splitlines startswith strip update upper values zfill bit_length title capitalize swapcase casefold center
    expandtabs removeprefix removesuffix rindex isascii isdecimal isnumeric istitle isidentifier isprintable translate
    add discard sort format
""".split())

DOUBLE_UNDERSCORE = set("""
    __init__ __eq__ __repr__ __str__ __len__ __enter__ __exit__ __call__ __iter__ __contains__ __getitem__ __setitem__
    __or__ __mul__ __invert__ __neg__ __and__ __add__ __sub__
""".split())

BARRED = set("""
    register mro elements open input law version_info with_traceback add_note type typing enum compile dir eval exec
    exit gc globals help id locals os quit super vars sys
""".split())

DECORATORS = {"property", "staticmethod", "classmethod"}


def files():
    return sorted(path for path in PACKAGE.rglob("*") if "__pycache__" not in path.parts and path.is_file())


def nodes():
    for path in files():
        for node in ast.walk(ast.parse(path.read_text("utf-8"))):
            yield f"{path.name}:{getattr(node, 'lineno', '')}", node


def nodes_of(*kinds):
    return [(place, node) for place, node in nodes() if isinstance(node, kinds)]


def bound_names():
    for place, node in nodes():
        if isinstance(node, (ast.FunctionDef, ast.ClassDef)):
            yield place, node.name
        elif isinstance(node, ast.arg):
            yield place, node.arg
        elif isinstance(node, ast.Name) and not isinstance(node.ctx, ast.Load):
            yield place, node.id
        elif isinstance(node, ast.Attribute) and not isinstance(node.ctx, ast.Load):
            yield place, node.attr


class Language(unittest.TestCase):
    def test_the_folder_holds_plain_python_files_only(self):
        self.assertTrue((PACKAGE / "__init__.py").is_file())
        for path in files():
            self.assertRegex(path.name, r"\A[a-z_0-9]+\.py\Z")

    def test_characters_and_sizes(self):
        for path in files():
            text = path.read_bytes().decode("utf-8")
            self.assertTrue(all(letter == "\n" or " " <= letter <= "~" for letter in text), path)
            self.assertLess(len(text.splitlines()), 400, path)
            self.assertLessEqual(max(len(line) for line in text.splitlines()), 120, path)
        for place, node in nodes_of(ast.FunctionDef):
            self.assertLessEqual(node.end_lineno - node.lineno + 1, 40, place)

    def test_only_allowed_parts_of_the_language(self):
        for place, node in nodes():
            self.assertIn(type(node).__name__, NODES, place)
        for place, node in nodes_of(ast.Constant):
            self.assertNotIsInstance(node.value, (float, complex, bytes), place)

    def test_imports(self):
        for place, node in nodes_of(ast.ImportFrom):
            self.assertEqual(node.level, 0, place)
            for alias in node.names:
                self.assertIsNone(alias.asname, place)
                if not node.module.startswith("enoughtests."):
                    self.assertIn(alias.name, LIBRARY.get(node.module, ()), place)

    def test_every_import_is_used_and_names_the_file_that_defines_it(self):
        for path in files():
            tree = ast.parse(path.read_text("utf-8"))
            used = {node.id for node in ast.walk(tree) if isinstance(node, ast.Name)}
            for node in [node for node in tree.body if isinstance(node, ast.ImportFrom)]:
                source = ast.parse((PACKAGE.parent / (node.module.replace(".", "/") + ".py")).read_text("utf-8")) \
                    if node.module.startswith("enoughtests.") else None
                for alias in node.names:
                    self.assertIn(alias.name, used, path.name)
                    if source is not None:
                        defined = [getattr(part, "name", None) for part in source.body]
                        defined += [part.targets[0].id for part in source.body if isinstance(part, ast.Assign)]
                        self.assertIn(alias.name, defined, path.name)

    def test_builtins(self):
        known = set(vars(builtins))
        for place, node in nodes_of(ast.Name):
            if isinstance(node.ctx, ast.Load) and node.id in known - DECORATORS:
                self.assertIn(node.id, BUILTINS, place)
        methods = {child.name for _, node in nodes_of(ast.ClassDef) for child in node.body
                   if isinstance(child, ast.FunctionDef)}
        for place, name in bound_names():
            if name not in methods:
                self.assertNotIn(name, known, place)

    def test_names(self):
        for place, name in bound_names():
            self.assertNotIn(name, BARRED, place)
            self.assertRegex(name, r"\A_?([A-Za-z][A-Za-z0-9_]*)?\Z|\A__[a-z]+__\Z", place)
            if name.startswith("__"):
                self.assertIn(name, DOUBLE_UNDERSCORE, place)

    def test_no_parameter_or_variable_has_the_name_of_a_class_or_an_import(self):
        for path in files():
            tree = ast.parse(path.read_text("utf-8"))
            taken = {node.name for node in tree.body if isinstance(node, ast.ClassDef)}
            taken |= {alias.name for node in tree.body if isinstance(node, ast.ImportFrom) for alias in node.names}
            for node in ast.walk(tree):
                if isinstance(node, ast.arg):
                    self.assertNotIn(node.arg, taken, path.name)
                if isinstance(node, ast.Name) and not isinstance(node.ctx, ast.Load):
                    self.assertNotIn(node.id, taken, path.name)

    def test_methods_that_are_called(self):
        own = {node.name for _, node in nodes_of(ast.FunctionDef)}
        for place, node in nodes_of(ast.Call):
            if isinstance(node.func, ast.Attribute):
                self.assertIn(node.func.attr, METHODS | own, place)

    def test_generators_have_names_of_their_own(self):
        functions = nodes_of(ast.FunctionDef)
        names = [node.name for _, node in functions]
        for place, node in functions:
            if any(isinstance(part, (ast.Yield, ast.YieldFrom)) for part in ast.walk(node)):
                self.assertEqual(names.count(node.name), 1, place)

    def test_strings(self):
        for place, node in nodes_of(ast.Constant):
            if isinstance(node.value, str):
                self.assertNotIn(chr(37), node.value, place)
                self.assertNotRegex(node.value, r"\._?_\Z", place)
                self.assertNotRegex(node.value, r"\A__.*__\Z", place)

    def test_decorators(self):
        for place, node in nodes_of(ast.ClassDef):
            self.assertEqual(node.decorator_list, [], place)
        for place, node in nodes_of(ast.FunctionDef):
            for decorator in node.decorator_list:
                self.assertTrue(getattr(decorator, "id", None) in DECORATORS
                                or getattr(decorator, "attr", None) == "setter", place)

    def test_no_two_files_import_from_each_other(self):
        imports = {}
        for path in files():
            tree = ast.parse(path.read_text("utf-8"))
            imports[f"enoughtests.{path.stem}"] = {node.module for node in tree.body if isinstance(node, ast.ImportFrom)}
        left = set(imports)
        while left:
            ends = {name for name in left if not imports[name] & left}
            self.assertTrue(ends, left)
            left -= ends

    def test_is_stands_beside_none_true_and_false_only(self):
        for place, node in nodes_of(ast.Compare):
            if any(isinstance(sign, (ast.Is, ast.IsNot)) for sign in node.ops):
                self.assertIn(getattr(node.comparators[0], "value", 0), (None, True, False), place)

    def test_sets_are_measured_or_sorted_at_once(self):
        self.assertEqual(nodes_of(ast.Set), [])
        for path in files():
            tree = ast.parse(path.read_text("utf-8"))
            parents = {child: node for node in ast.walk(tree) for child in ast.iter_child_nodes(node)}
            for node, parent in parents.items():
                is_call = isinstance(node, ast.Call) and getattr(node.func, "id", None) == "set"
                if is_call or isinstance(node, ast.SetComp):
                    self.assertIsInstance(parent, ast.Call, path.name)
                    self.assertIn(getattr(parent.func, "id", None), ("len", "sorted"), path.name)

    def test_classes_with_items_are_not_iterated_over_by_them(self):
        for place, node in nodes_of(ast.ClassDef):
            methods = {child.name for child in node.body if isinstance(child, ast.FunctionDef)}
            if "__getitem__" in methods:
                self.assertIn("__iter__", methods, place)
            self.assertNotIn("keys", methods, place)
        for path in files():
            self.assertNotRegex(path.read_text("utf-8"), r"\(type\)|Meta|metaclass=")

    def test_the_end_of_a_with_block_only_assigns(self):
        for place, node in nodes_of(ast.FunctionDef):
            if node.name == "__exit__":
                for row in node.body:
                    self.assertIsInstance(row, ast.Assign, place)
                    self.assertIsInstance(row.value, ast.Attribute, place)

    def test_no_name_is_that_of_a_method_and_of_an_attribute(self):
        attributes = {node.attr for _, node in nodes_of(ast.Attribute) if isinstance(node.ctx, ast.Store)}
        for place, node in nodes_of(ast.ClassDef):
            for child in node.body:
                if isinstance(child, ast.FunctionDef):
                    self.assertNotIn(child.name, attributes, place)

    def test_lists_and_dicts_of_a_file_hold_no_lists_and_dicts(self):
        for path in files():
            for node in [node for node in ast.parse(path.read_text("utf-8")).body if isinstance(node, ast.Assign)]:
                inner = [part for part in ast.walk(node.value) if isinstance(part, (ast.List, ast.Dict))]
                self.assertLessEqual(len(inner), 1, path.name)
                self.assertFalse(any(isinstance(part, (ast.Call, ast.ListComp)) for part in ast.walk(node.value)))

    def test_what_a_loop_iterates_over_is_not_changed_in_it(self):
        changing = {"append", "extend", "insert", "pop", "remove", "clear", "update", "reverse", "setdefault"}
        for place, node in nodes_of(ast.For):
            over = {part.id for part in ast.walk(node.iter) if isinstance(part, ast.Name)}
            for part in [part for row in node.body for part in ast.walk(row)]:
                if isinstance(part, ast.Call) and isinstance(part.func, ast.Attribute) and part.func.attr in changing:
                    self.assertNotIn(getattr(part.func.value, "id", None), over, place)
                if isinstance(part, ast.Subscript) and not isinstance(part.ctx, ast.Load):
                    self.assertNotIn(getattr(part.value, "id", None), over, place)

    def test_no_generator_expressions_beside_own_comparisons(self):
        if any(node.name == "__eq__" for _, node in nodes_of(ast.FunctionDef)):
            self.assertEqual([place for place, _ in nodes_of(ast.GeneratorExp)], [])


if __name__ == "__main__":
    unittest.main()
