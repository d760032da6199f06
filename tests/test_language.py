"""The rules of LANGUAGE.md for the files of the package, as far as they can be told line by line.

The tests are stricter than the rules where the package does without a part of the language altogether.
"""

import ast
import builtins
import os
import unittest

ROOT = os.path.join(os.path.dirname(os.path.dirname(os.path.abspath(__file__))), "meetbehind")

INTERFACE = {
    "errors": "MeetError InvalidKind InvalidPart NoRealm Taken TooDeep Needed InvalidTarget InvalidPort InvalidName "
              "InvalidTime Clash InvalidQuestion InvalidEvent InvalidText UnknownCommand NoStation NoRound "
              "NothingToUndo NotHeard NotSeen Heard TooMany",
    "kinds": "Kind", "worlds": "World", "routes": "way hidden reachable free_addresses", "ports": "Ports",
    "nets": "Net tried", "names": "is_name address_of is_plain owner fold depth sources show_name read_name",
    "named": "NamedNet", "packets": "walk", "closure": "Closure", "plans": "reach play",
    "plancheck": "shows_plan", "late": "late reasons", "latecheck": "shows_late", "books": "book first_in",
    "bookcheck": "shows_book shows_book_after", "leftovers": "event_in remaining",
    "talks": "talk shows_talk even meeting", "agents": "Agent", "families": "least_sets blockers",
    "questions": "set_up family shown_family", "speakers": "least_speakers needed", "relays": "relays groups",
    "repairs": "repairs opened", "familycheck": "shows_family", "gatekinds": "kinds_for shown_kinds shows_kinds",
    "restnets": "RestNet", "beats": "slowest shows_beat", "moves": "book_after back heard_again", "movenets": "MoveNet",
    "looser": "looser joined renamed grown", "plantexts": "show_rows show_bound", "reader": "read_rows read_bound",
    "shell": "Shell",
}
METHODS = {
    ("kinds", "Kind"): "__init__ lends lets turns rests within read __or__ __and__ __eq__ __str__ __repr__",
    ("worlds", "World"): "__init__ parts gates hosts kind address realm chain station stations with_part with_kind "
                         "without read __contains__ __len__ __eq__ __str__ __repr__",
    ("ports", "Ports"): "__init__ numbers __call__",
    ("nets", "Net"): "__init__ world log told entries seen send undo twin trial __eq__",
    ("named", "NamedNet"): "send_to endpoint known_names undo twin trial",
    ("restnets", "RestNet"): "now wait fall entries log undo twin trial __eq__",
    ("movenets", "MoveNet"): "world move undo twin trial __eq__",
    ("shell", "Shell"): "__init__ say say_all",
    ("closure", "Closure"): "__init__ world speakers names rounds told_in first heard known arrivals",
    ("agents", "Agent"): "__init__ step round learned result done run twin",
}
BUILTINS = set(
    "len range enumerate zip min max sum abs sorted reversed int str bool list tuple dict set isinstance ord repr any "
    "all divmod super property classmethod staticmethod ValueError KeyError IndexError LookupError RuntimeError "
    "OverflowError NotImplemented".split())
METHODS_OF_VALUES = set(
    "append clear copy count endswith extend find get index insert isalnum isalpha isdigit islower isspace isupper "
    "items join keys ljust lower lstrip partition pop remove replace reverse rfind rjust rpartition rsplit rstrip "
    "setdefault split splitlines startswith strip update upper values zfill bit_length".split())
BARRED = set(
    "register mro elements open input law version_info with_traceback add_note attrgetter breakpoint builtins compile "
    "copyright credits delattr dir eval exec exit gc getattr globals hasattr help id importlib license locals "
    "methodcaller os quit setattr type vars sys _cold _tuplegetter _outside _record _written_out _member_names "
    "format format_map".split())
BARRED_WORDS = set(
    "type typing typing_extensions enum Enum IntEnum StrEnum Flag IntFlag Generic Protocol ABC ABCMeta namedtuple "
    "NamedTuple TypedDict TYPE_CHECKING abstractmethod dataclass overload contextmanager".split())
DOUBLE = set(
    "__init__ __eq__ __repr__ __str__ __len__ __enter__ __exit__ __call__ __or__ __and__ __contains__".split())
NODES_BARRED = (
    ast.GeneratorExp, ast.Global, ast.Nonlocal, ast.Try, ast.AsyncFunctionDef, ast.Await, ast.AnnAssign, ast.Div,
    ast.NamedExpr, ast.Import, ast.Match, ast.Set, ast.SetComp, ast.Assert)


def files():
    """The names of the modules of the package, with their texts."""
    found = {}
    for name in sorted(os.listdir(ROOT)):
        if name != "__pycache__":
            with open(os.path.join(ROOT, name), encoding="utf-8") as file:
                found[name] = file.read()
    return found


# doctest binds _ among the builtins
NAMES_OF_BUILTINS = set(dir(builtins)) - {"_"}
FILES = files()
TREES = {name: ast.parse(text) for name, text in FILES.items()}


def nodes(kind):
    """The pairs of a place and a node of this kind, in all files."""
    for name, tree in TREES.items():
        for node in ast.walk(tree):
            if isinstance(node, kind):
                yield f"{name}:{getattr(node, 'lineno', 0)}", node


def functions():
    return nodes(ast.FunctionDef)


def bound_names(function):
    """The parameters and local variables of a function."""
    arguments = function.args
    names = [one.arg for one in arguments.posonlyargs + arguments.args + arguments.kwonlyargs]
    names += [one.arg for one in (arguments.vararg, arguments.kwarg) if one is not None]
    names += [one.id for one in ast.walk(function) if isinstance(one, ast.Name) and isinstance(one.ctx, ast.Store)]
    for one in ast.walk(function):
        if isinstance(one, ast.Lambda):
            names += [argument.arg for argument in one.args.args]
    return names


class FilesTest(unittest.TestCase):

    def test_the_folder_contains_python_files_only(self):
        for name in FILES:
            self.assertRegex(name, r"^[a-z_][a-z0-9_]*\.py$")
            self.assertFalse(name.startswith(("law_", "test")), name)
            self.assertTrue(name == "__init__.py" or name[:-3] not in NAMES_OF_BUILTINS, name)

    def test_sizes(self):
        for name, text in FILES.items():
            lines = text.split("\n")
            self.assertLessEqual(len(lines), 400, name)
            self.assertLessEqual(max(len(line) for line in lines), 120, name)
        for place, node in functions():
            self.assertLessEqual(node.end_lineno - node.lineno + 1, 40, place)

    def test_characters(self):
        for name, text in FILES.items():
            self.assertTrue(all(" " <= sign <= "~" or sign == "\n" for sign in text), name)

    def test_imports(self):
        needs = {}
        for name, tree in TREES.items():
            needs[name[:-3]] = []
            behind = False
            for node in tree.body:
                if isinstance(node, ast.ImportFrom):
                    self.assertFalse(behind, name)
                    self.assertEqual(node.level, 0, name)
                    module = node.module
                    self.assertTrue(module.startswith("meetbehind."), name)
                    needs[name[:-3]].append(module.partition(".")[2])
                    self.assert_defines(module.partition(".")[2], [one.name for one in node.names])
                    self.assertTrue(all(one.asname is None for one in node.names), name)
                elif not (isinstance(node, ast.Expr) and isinstance(node.value, ast.Constant)):
                    behind = True
        for name in needs:
            self.assertNotIn(name, self.behind(needs, name), "imports in a circle")

    def behind(self, needs, name):
        found = []
        waiting = list(needs[name])
        while waiting:
            module = waiting.pop()
            if module not in found:
                found.append(module)
                waiting += needs[module]
        return found

    def assert_defines(self, module, names):
        defined = []
        for node in TREES[module + ".py"].body:
            if isinstance(node, (ast.FunctionDef, ast.ClassDef)):
                defined.append(node.name)
            if isinstance(node, ast.Assign):
                defined.append(node.targets[0].id)
        for name in names:
            self.assertIn(name, defined, module)

    def test_interface(self):
        for module, names in INTERFACE.items():
            defined = [node.name for node in TREES[module + ".py"].body
                       if isinstance(node, (ast.FunctionDef, ast.ClassDef))]
            for name in names.split():
                self.assertIn(name, defined)
        for (module, name), methods in METHODS.items():
            body = [node for node in TREES[module + ".py"].body
                    if isinstance(node, ast.ClassDef) and node.name == name][0].body
            defined = [node.name for node in body if isinstance(node, ast.FunctionDef)]
            for method in methods.split():
                self.assertIn(method, defined, name)

    def test_module_level(self):
        for name, tree in TREES.items():
            bound = []
            defined = []
            for at, node in enumerate(tree.body):
                if isinstance(node, ast.ImportFrom):
                    bound += [one.name for one in node.names]
                elif isinstance(node, (ast.FunctionDef, ast.ClassDef)):
                    bound.append(node.name)
                    defined.append(node.name)
                elif isinstance(node, ast.Assign):
                    self.assertEqual(len(node.targets), 1)
                    bound.append(node.targets[0].id)
                    self.assert_plain(node.value, defined)
                else:
                    self.assertEqual(at, 0, name)
                    self.assertIsInstance(node.value, ast.Constant)
            self.assertEqual(len(bound), len(set(bound)), name)


    def assert_plain(self, node, defined):
        """Asserts that a value is plain, or a dict of functions that stand above it."""
        if isinstance(node, ast.Dict) and all(isinstance(one, ast.Name) for one in node.values):
            for one in node.keys + node.values:
                self.assertTrue(isinstance(one, ast.Constant) or one.id in defined)
        else:
            value = ast.literal_eval(node)
            for part in value.values() if isinstance(value, dict) else value if isinstance(value, (list, tuple)) else ():
                self.assertNotIsInstance(part, (list, dict))


class NamesTest(unittest.TestCase):

    def test_names(self):
        for place, node in nodes((ast.Name, ast.arg, ast.FunctionDef, ast.ClassDef, ast.Attribute)):
            name = (getattr(node, "id", None) or getattr(node, "arg", None) or getattr(node, "name", None)
                    or getattr(node, "attr", None))
            self.assertRegex(name, r"^_?[A-Za-z][A-Za-z0-9_]*$|^_$|^__[a-z]+__$", place)
            self.assertNotIn(name, BARRED, place)
            for start in ("_wall", "_pe_", "_dcw_", "_enum_", "_cm_", "_twin_re_", "_lay_", "_law_", "_stub_", "_sre"):
                self.assertFalse(name.startswith(start), place)

    def test_double_underscores(self):
        for place, node in functions():
            if node.name.startswith("__"):
                self.assertIn(node.name, DOUBLE, place)
        for place, node in nodes(ast.Attribute):
            if node.attr.startswith("__"):
                self.assertIn(node.attr, ("__init__", "__class__", "__name__"), place)

    def test_no_builtin_gets_another_meaning(self):
        for place, node in functions():
            for name in bound_names(node):
                self.assertNotIn(name, NAMES_OF_BUILTINS, place)

    def test_builtins(self):
        for name, tree in TREES.items():
            bound = [node.name for node in ast.walk(tree) if isinstance(node, (ast.FunctionDef, ast.ClassDef))]
            for node in ast.walk(tree):
                if isinstance(node, ast.ImportFrom):
                    bound += [one.name for one in node.names]
                if isinstance(node, ast.Name) and node.id in NAMES_OF_BUILTINS and node.id not in bound:
                    self.assertIn(node.id, BUILTINS, f"{name}:{node.lineno}")

    def test_locals_are_no_classes_and_no_imports(self):
        for name, tree in TREES.items():
            taken = []
            for node in tree.body:
                if isinstance(node, ast.ImportFrom):
                    taken += [one.name for one in node.names]
                if isinstance(node, ast.ClassDef):
                    taken.append(node.name)
            for node in ast.walk(tree):
                if isinstance(node, ast.FunctionDef):
                    for local in bound_names(node):
                        self.assertNotIn(local, taken, f"{name}:{node.lineno}")

    def test_no_name_is_used_for_two_things(self):
        methods = {}
        decorated = set()
        generators = set()
        for _, node in nodes(ast.ClassDef):
            for one in node.body:
                if isinstance(one, ast.FunctionDef):
                    methods.setdefault(one.name, []).append(node.name)
                    if one.decorator_list:
                        decorated.add(one.name)
        for _, node in functions():
            if any(isinstance(one, (ast.Yield, ast.YieldFrom)) for one in ast.walk(node)):
                generators.add(node.name)
        assigned = {node.attr for _, node in nodes(ast.Attribute) if isinstance(node.ctx, ast.Store)}
        self.assertEqual(assigned & set(methods), set())
        self.assertEqual([name for name in generators
                          if len([one for _, one in functions() if one.name == name]) > 1], [])
        properties = [name for name in decorated if name != "read"]
        for _, node in nodes(ast.Call):
            if isinstance(node.func, ast.Attribute):
                self.assertNotIn(node.func.attr, properties)
        for name in assigned:
            for value in ("", 1, [], {}, set(), b"", ()):
                self.assertFalse(hasattr(value, name) and name not in ("count", "index"), name)


class ExpressionsTest(unittest.TestCase):

    def test_parts_of_the_language_that_are_not_used(self):
        for place, node in nodes(NODES_BARRED):
            self.fail(f"{place} {node.__class__.__name__}")

    def test_no_annotations(self):
        for place, node in functions():
            self.assertIsNone(node.returns, place)
        for place, node in nodes(ast.arg):
            self.assertIsNone(node.annotation, place)

    def test_decorators(self):
        for place, node in functions():
            self.assertLessEqual(len(node.decorator_list), 1, place)
            for one in node.decorator_list:
                self.assertIn(one.id, ("property", "classmethod", "staticmethod"), place)
        for place, node in nodes(ast.ClassDef):
            self.assertEqual(node.decorator_list, [], place)

    def test_defaults_are_plain(self):
        for place, node in functions():
            for one in node.args.defaults + [one for one in node.args.kw_defaults if one is not None]:
                ast.literal_eval(one)

    def test_constants(self):
        for place, node in nodes(ast.Constant):
            self.assertNotIsInstance(node.value, (float, complex, bytes), place)
            if isinstance(node.value, str):
                self.assertNotIn("%", node.value, place)
                self.assertFalse(node.value.endswith(("._", ".__")), place)

    def test_words_that_do_not_occur(self):
        documents = set()
        for _, node in nodes((ast.Module, ast.ClassDef, ast.FunctionDef)):
            if ast.get_docstring(node) is not None:
                documents.add(id(node.body[0].value))
        for place, node in nodes(ast.Constant):
            if isinstance(node.value, str) and id(node) not in documents:
                self.assertEqual(set(node.value.replace(".", " ").split()) & BARRED_WORDS, set(), place)
        for place, node in nodes((ast.Name, ast.Attribute, ast.arg)):
            self.assertNotIn(getattr(node, "id", None) or getattr(node, "attr", None), BARRED_WORDS, place)

    def test_is_stands_beside_none(self):
        for place, node in nodes(ast.Compare):
            for sign, right in zip(node.ops, node.comparators):
                if isinstance(sign, (ast.Is, ast.IsNot)):
                    self.assertIsInstance(right, ast.Constant, place)
                    self.assertIsNone(right.value, place)

    def test_views_and_their_kin_are_iterated_at_once(self):
        iterated = set()
        for _, node in nodes((ast.For, ast.comprehension)):
            iterated.add(id(node.iter))
        for _, node in nodes(ast.Call):
            if isinstance(node.func, ast.Name) and node.func.id in ("list", "tuple", "enumerate", "zip"):
                iterated.update(id(one) for one in node.args)
        for place, node in nodes(ast.Call):
            name = getattr(node.func, "id", None) or getattr(node.func, "attr", None)
            if name in ("zip", "enumerate", "reversed", "range", "items", "keys", "values"):
                self.assertIn(id(node), iterated, place)

    def test_a_set_stands_in_sorted_or_len_only(self):
        allowed = set()
        for _, node in nodes(ast.Call):
            if isinstance(node.func, ast.Name) and node.func.id in ("sorted", "len") and not node.keywords:
                allowed.update(id(one) for one in node.args)
        for place, node in nodes(ast.Call):
            if isinstance(node.func, ast.Name) and node.func.id == "set":
                self.assertIn(id(node), allowed, place)

    def test_all_any_and_sorted_take_lists(self):
        for place, node in nodes(ast.Call):
            if isinstance(node.func, ast.Name) and node.func.id in ("any", "all", "sum"):
                self.assertIsInstance(node.args[0], (ast.ListComp, ast.List), place)

    def test_no_sort(self):
        for place, node in nodes(ast.Attribute):
            self.assertNotIn(node.attr, ("sort", "add", "discard", "format"), place)

    def test_methods_of_values(self):
        own = {node.name for _, node in functions()}
        for place, node in nodes(ast.Call):
            if isinstance(node.func, ast.Attribute):
                self.assertIn(node.func.attr, own | METHODS_OF_VALUES, place)

    def test_what_stands_behind_a_star(self):
        properties = {node.name for _, node in functions()
                      if any(getattr(one, "id", None) == "property" for one in node.decorator_list)}
        for place, node in nodes(ast.Call):
            stars = [at for at, one in enumerate(node.args) if isinstance(one, ast.Starred)]
            doubles = [one for one in node.keywords if one.arg is None]
            if doubles:
                self.assertEqual(len(node.keywords), 1, place)
                self.assertTrue(self.is_plain(doubles[0].value, properties), place)
            for one in node.args if doubles else node.args[stars[0]:] if stars else []:
                self.assertTrue(self.is_plain(one.value if isinstance(one, ast.Starred) else one, properties), place)

    def is_plain(self, node, properties):
        """Whether a node is a name, an attribute off a name, a literal, or a list, tuple or dict of these."""
        if isinstance(node, ast.Attribute):
            return isinstance(node.value, ast.Name) and node.attr not in properties
        if isinstance(node, (ast.List, ast.Tuple)):
            return all(self.is_plain(one, properties) for one in node.elts)
        if isinstance(node, ast.Dict):
            return all(self.is_plain(one, properties) for one in node.keys + node.values)
        return isinstance(node, (ast.Name, ast.Constant))

    def test_raises(self):
        for place, node in nodes(ast.Raise):
            self.assertIsInstance(node.exc, ast.Call, place)
            self.assertIsInstance(node.exc.func, ast.Name, place)


if __name__ == "__main__":
    unittest.main()
