"""What can be seen at a glance of the rules for the language of the package."""

import ast
import os
import unittest

FOLDER = os.path.join(os.path.dirname(os.path.dirname(os.path.abspath(__file__))), "rankedjoins")
BUILTINS = set("""len range enumerate zip min max sum abs sorted reversed int str bool list tuple dict set isinstance ord
    repr any all divmod super property iter ValueError NotImplemented True False None""".split())
OTHER_BUILTINS = set(dir(__builtins__) if not isinstance(__builtins__, dict) else __builtins__) - BUILTINS
TAKES_LISTS = ("any", "all", "min", "max", "sum", "sorted")
METHODS_OF_VALUES = set("""append clear copy count endswith extend find get index insert isalnum isalpha isdigit islower
    isspace isupper items join keys ljust lower lstrip partition pop remove replace reverse rfind rjust rpartition rsplit
    rstrip setdefault split splitlines startswith strip update upper values zfill bit_length""".split())
NOT_CALLED_SO = set("""breakpoint compile copyright credits delattr dir eval exec exit gc globals help id input law license
    locals map mro next open os quit register sys type vars elements""".split())
CHANGING = ("append", "pop", "extend", "insert", "remove", "clear", "update", "setdefault", "reverse", "sort")
FORBIDDEN = (ast.Global, ast.AsyncFunctionDef, ast.Await, ast.AsyncFor, ast.AsyncWith, ast.Import, ast.Div)


def files():
    return sorted([name for name in os.listdir(FOLDER) if name != "__pycache__"])


def source(name):
    with open(os.path.join(FOLDER, name), encoding="utf-8", newline="") as file:
        return file.read()


def names_in(node):
    """The names and attributes that stand in the node, outside of the calls that make something new of them."""
    if isinstance(node, ast.Call) and ast.unparse(node.func) in ("list", "range", "sorted", "tuple"):
        return []
    if isinstance(node, (ast.Name, ast.Attribute)):
        return [ast.unparse(node)]
    return [word for part in ast.iter_child_nodes(node) for word in names_in(part)]


def changed_names(statements):
    """The names and attributes of which an item is set or removed, or whose methods change them."""
    words = []
    for node in [node for statement in statements for node in ast.walk(statement)]:
        if isinstance(node, ast.Call) and isinstance(node.func, ast.Attribute) and node.func.attr in CHANGING:
            words.append(ast.unparse(node.func.value))
        if isinstance(node, ast.Subscript) and isinstance(node.ctx, (ast.Store, ast.Del)):
            words.append(ast.unparse(node.value))
    return words


def names_of_one_value(function):
    """A function that tells, for a name, all names that may mean the same value as it by some plain assignment."""
    groups = {}
    for node in ast.walk(function):
        if isinstance(node, ast.Assign):
            for target in node.targets:
                values = [node.value.body, node.value.orelse] if isinstance(node.value, ast.IfExp) else [node.value]
                for value in [value for value in values if isinstance(value, (ast.Name, ast.Attribute))]:
                    words = [ast.unparse(target), ast.unparse(value)]
                    joined = sorted(set([name for word in words for name in groups.get(word, [word])]))
                    groups.update({word: joined for word in joined})
    return lambda word: groups.get(word, [word])


class Language(unittest.TestCase):
    def test_files_hold_plain_characters_and_keep_their_sizes(self):
        self.assertIn("__init__.py", files())
        for name in files():
            self.assertRegex(name, r"\A[a-z0-9_]+\.py\Z")
            text = source(name)
            self.assertTrue(text.endswith("\n"), name)
            self.assertTrue(all([sign == "\n" or " " <= sign <= "~" for sign in text]), name)
            lines = text.split("\n")
            self.assertLessEqual(len(lines), 399, name)
            self.assertLessEqual(max([len(line) for line in lines]), 120, name)
            self.assertEqual([line for line in lines if line != line.rstrip()], [], name)

    def test_functions_are_short_and_tell_what_they_do(self):
        for name in files():
            for node in ast.walk(ast.parse(source(name))):
                if isinstance(node, ast.FunctionDef):
                    self.assertLessEqual(node.end_lineno - node.lineno + 1, 40, node.name)
                    if not node.name.startswith("__"):
                        self.assertTrue(ast.get_docstring(node), f"{name} {node.name}")

    def test_imports_name_the_package_alone(self):
        for name in files():
            for node in ast.walk(ast.parse(source(name))):
                if isinstance(node, ast.ImportFrom) and node.module == "math":
                    self.assertEqual([(alias.name, alias.asname) for alias in node.names], [("gcd", None)])
                elif isinstance(node, ast.ImportFrom):
                    self.assertRegex(node.module, r"\Arankedjoins\.[a-z]+\Z")
                    self.assertEqual(node.level, 0)
                    self.assertNotIn("*", [alias.name for alias in node.names])

    def test_no_forbidden_statement_builtin_or_value(self):
        for name in files():
            for node in ast.walk(ast.parse(source(name))):
                self.assertNotIsInstance(node, FORBIDDEN, name)
                if isinstance(node, ast.Name):
                    self.assertNotIn(node.id, OTHER_BUILTINS, name)
                    if isinstance(node.ctx, ast.Store):
                        self.assertNotIn(node.id, BUILTINS, name)
                if isinstance(node, ast.Constant):
                    self.assertNotIsInstance(node.value, (float, complex), name)
                    if isinstance(node.value, str):
                        self.assertNotIn(chr(37), node.value, name)

    def test_names_mean_one_thing(self):
        for name in files():
            tree = ast.parse(source(name))
            taken = set([alias.name for node in ast.walk(tree) if isinstance(node, ast.ImportFrom) for alias in node.names])
            taken |= set([node.name for node in ast.walk(tree) if isinstance(node, ast.ClassDef)])
            for node in ast.walk(tree):
                if isinstance(node, ast.arg) or isinstance(node, ast.FunctionDef):
                    word = node.arg if isinstance(node, ast.arg) else node.name
                elif isinstance(node, ast.Name) and isinstance(node.ctx, ast.Store):
                    word = node.id
                else:
                    continue
                self.assertNotIn(word, taken | BUILTINS | OTHER_BUILTINS | NOT_CALLED_SO, name)

    def test_methods_that_are_called_are_listed_or_own(self):
        trees = [ast.parse(source(name)) for name in files()]
        own = set([node.name for tree in trees for node in ast.walk(tree) if isinstance(node, ast.FunctionDef)])
        for node in [node for tree in trees for node in ast.walk(tree)]:
            if isinstance(node, ast.Call) and isinstance(node.func, ast.Attribute):
                self.assertIn(node.func.attr, METHODS_OF_VALUES | own)

    def test_what_a_loop_goes_over_is_not_changed_in_it(self):
        for name in files():
            for loop in ast.walk(ast.parse(source(name))):
                if not isinstance(loop, ast.For):
                    continue
                gone_over = set([ast.unparse(node) for node in ast.walk(loop.iter) if isinstance(node, (ast.Name, ast.Attribute))])
                for node in [node for statement in loop.body for node in ast.walk(statement)]:
                    if isinstance(node, ast.Call) and isinstance(node.func, ast.Attribute):
                        if node.func.attr in CHANGING:
                            self.assertNotIn(ast.unparse(node.func.value), gone_over, name)
                    if isinstance(node, ast.Subscript) and isinstance(node.ctx, (ast.Store, ast.Del)):
                        self.assertNotIn(ast.unparse(node.value), gone_over, name)

    def test_what_a_loop_goes_over_is_not_changed_in_it_by_another_name(self):
        for name in files():
            for function in ast.walk(ast.parse(source(name))):
                if isinstance(function, ast.FunctionDef):
                    together = names_of_one_value(function)
                    for loop in [node for node in ast.walk(function) if isinstance(node, ast.For)]:
                        gone_over = set([name for word in names_in(loop.iter) for name in together(word)])
                        changed = set([name for word in changed_names(loop.body) for name in together(word)])
                        self.assertEqual(gone_over & changed, set(), f"{name} row {loop.lineno}")

    def test_a_name_that_keeps_a_range_is_assigned_once(self):
        kept = ("range", "zip", "enumerate", "reversed")
        for name in files():
            for function in ast.walk(ast.parse(source(name))):
                if not isinstance(function, ast.FunctionDef):
                    continue
                assigned = [node for node in ast.walk(function) if isinstance(node, ast.Assign)]
                words = [ast.unparse(node.targets[0]) for node in assigned]
                for node in assigned:
                    if isinstance(node.value, ast.Call) and ast.unparse(node.value.func) in kept:
                        self.assertEqual(words.count(ast.unparse(node.targets[0])), 1, f"{name} {function.name}")

    def test_no_generator_expression_where_objects_may_be_compared(self):
        for name in files():
            for node in ast.walk(ast.parse(source(name))):
                if isinstance(node, ast.Call) and isinstance(node.func, ast.Name) and node.func.id in TAKES_LISTS:
                    kinds = [argument.__class__ for argument in node.args]
                    self.assertNotIn(ast.GeneratorExp, kinds, name)


if __name__ == "__main__":
    unittest.main()
