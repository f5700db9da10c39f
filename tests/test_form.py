"""The form of the code: what can be told of the language rules from the files alone, and the interface."""

import ast
import builtins
import importlib
import inspect
import pathlib
import unittest

PACKAGE = pathlib.Path(__file__).resolve().parent.parent / "quietedition"
FILES = sorted(PACKAGE.glob("*.py"))

BUILTINS = set("""len range enumerate zip min max sum abs sorted reversed int str bool list tuple dict set isinstance
    ord repr any all divmod iter next map ValueError NotImplemented super property staticmethod classmethod""".split())
METHODS = set("""append clear copy count endswith extend find get index insert isalnum isalpha isdigit islower isspace
    isupper items join keys ljust lower lstrip partition pop remove replace reverse rfind rjust rpartition rsplit
    rstrip setdefault split splitlines startswith strip update upper values zfill bit_length removeprefix
    removesuffix""".split())
DUNDERS = set("""__init__ __eq__ __repr__ __str__ __len__ __call__ __iter__ __lt__ __or__ __and__ __sub__ __mul__
    __contains__ __getitem__""".split())
BARRED = set("""register mro elements open input law version_info with_traceback add_note attrgetter breakpoint compile
    copyright credits delattr dir eval exec exit gc getattr globals hasattr help id importlib license locals
    methodcaller os quit setattr type vars sys typing enum format""".split())
BARRED_ATTRIBUTES = set("""items keys values pop update append clear extend insert remove reverse setdefault sort args
    encode decode hex fromhex format register mro elements open input law""".split())
NODES = (ast.Global, ast.AsyncFunctionDef, ast.Await, ast.GeneratorExp, ast.Set, ast.Div, ast.Starred, ast.AnnAssign,
         ast.Try, ast.TryStar)

# The interface: for each file its functions with their parameters, and its classes with their methods.
INTERFACE = {
    "errors": {"QuietError": {}},
    "rows": {
        "value_text": "value",
        "Row": {"text": "", "operands": "", "__eq__": "other"},
        "Tell": {"__init__": "value", "text": "", "operands": "", "__eq__": "other"},
        "Put": {"__init__": "place value", "text": "", "operands": "", "__eq__": "other"},
        "Same": {"__init__": "left right skip", "text": "", "operands": "", "__eq__": "other"},
        "There": {"__init__": "name skip", "text": "", "operands": "", "__eq__": "other"},
        "Call": {"__init__": "name value tag=0", "text": "", "operands": "", "__eq__": "other"},
        "End": {"text": "", "operands": "", "__eq__": "other"},
    },
    "manners": {"Manners": {
        "__init__": "names", "of": "names", "is_part_of": "other", "__or__": "other", "__and__": "other",
        "__sub__": "other", "__eq__": "other", "__contains__": "name", "__len__": "", "__iter__": "", "__str__": ""}},
    "editions": {
        "First": {"__init__": "name after rows", "head": "", "__eq__": "other"},
        "Member": {"__init__": "name access tag is_default rows", "head": "", "__eq__": "other"},
        "Edition": {
            "__init__": "name numbers cells wants blocks", "read": "text", "text": "", "__str__": "",
            "__eq__": "other", "member": "name tag=0", "visible": "name tag=0", "offers": "", "entries": "",
            "written": "", "places": "", "first_values": "", "work": "block"},
    },
    "units": {
        "Block": {"__init__": "kind name rows", "__eq__": "other"},
        "Unit": {"__init__": "name is_late cells blocks", "read": "text", "text": "", "__str__": "",
                 "__eq__": "other", "shared": "", "block": "name"},
        "Client": {"__init__": "units", "of": "texts", "texts": "", "given": "", "__eq__": "other"},
    },
    "objects": {
        "Object": {"__init__": "unit numbers", "__eq__": "other", "block": "name", "start_block": ""},
        "named": "unit",
    },
    "assembling": {"assemble": "unit edition", "assemble_all": "client edition", "written_out": "unit edition",
                   "agree": "unit first second"},
    "listing": {"listing": "made"},
    "reaching": {"goes_to": "units unit name", "reached": "units unit name", "leaving": "units unit name",
                 "chain": "units unit name wanted"},
    "linking": {
        "demands": "objects", "meets": "demand edition", "refusals": "objects edition", "link": "objects edition",
        "Linked": {"__init__": "objects notes sizes", "noted": "name tag=0", "__eq__": "other"},
    },
    "facts": {"facts": "linked", "what_parts": "objects first second", "table": "linked"},
    "ordering": {"first_order": "edition"},
    "scope": {
        "landed": "edition name noted",
        "Scope": {"__init__": "edition given", "reach": "name tag=0", "why": "name tag=0", "targets": "", "entered": ""},
    },
    "loading": {
        "load": "linked edition",
        "Image": {"reach": "unit name tag=0", "why": "unit name tag=0", "reach_of_edition": "name tag=0",
                  "why_of_edition": "name tag=0", "there": "name", "targets": "", "lost": "", "__eq__": "other"},
    },
    "obstacles": {
        "linking_obstacles": "elder newer", "loading_obstacles": "elder newer",
        "Obstacles": {"__init__": "elder newer stage", "had_by": "linked", "client": "row", "__iter__": "",
                      "__len__": "", "__contains__": "row"},
    },
    "core": {"Core": {
        "__init__": "edition given", "enter": "name tag n", "open_first": "name", "load": "", "go": "values frames",
        "count": "values frames"}},
    "machine": {"Machine": {"__init__": "image * limit=3000", "events": ""}},
    "world": {
        "Moment": {}, "World": {"__init__": "assembled linked loaded", "of": "edition", "__eq__": "other"},
        "worlds": "elder newer moment",
    },
    "runs": {"image_of": "client world", "outcome": "client world * limit=3000", "unlike": "first second",
             "is_served": "client edition"},
    "patterns": {
        "pattern": "values kept", "realise": "entries kept", "choices": "values kept", "all_patterns": "length kept",
        "is_pattern": "thing length kept", "move_pattern": "entries at entry kept"},
    "renaming": {
        "numbers_of": "edition", "numbers_in": "client",
        "Renaming": {
            "__init__": "pairs=()", "swap": "n m", "__call__": "n", "__len__": "", "__eq__": "other", "__mul__": "other",
            "keeps": "numbers", "inverse": "", "of_edition": "edition", "of_unit": "unit", "of_client": "client",
            "of_rows": "rows"}},
    "doors": {
        "Door": {"__init__": "name tag first second", "__eq__": "other"},
        "doors": "elder newer moment manners given", "kept_numbers": "elder newer moment",
        "unlike_numbers": "elder newer", "given_sets": "elder newer manners", "at_once": "elder newer moment manners",
        "check_bounds": "elder newer moment manners"},
    "joint": {"Joint": {
        "__init__": "elder newer moment manners given", "load": "", "moves": "values is_top", "begin": "values move",
        "go": "values frames others", "look": "values"}},
    "saturation": {"Saturation": {"__init__": "joint", "entries": "", "floor": "limit"}},
    "verdicts": {"judge": "elder newer moment manners", "Verdict": {}, "clue_cost": "clue"},
    "checking": {
        "is_table": "elder newer moment manners thing", "is_floor": "elder newer moment manners cost thing",
        "is_clue": "elder newer moment manners thing"},
    "judging": {"manners_of": "client elder newer"},
    "trials": {
        "Trial": {"__init__": "client elder newer moment * limit=3000", "is_served": "", "is_noticing": "", "moves": ""},
        "passings": "events", "noticed_at": "client elder newer"},
    "writing": {"written": "verdict"},
    "cutting": {
        "removals": "client", "without": "client unit block=None row=None",
        "cut_steps": "client elder newer moment * limit=3000", "cut": "client elder newer moment * limit=3000"},
    "families": {
        "family": "sets", "least": "sets", "greatest": "sets", "barring": "sets among", "complements": "sets among",
        "parts": "among", "meets": "first second", "is_antichain": "sets"},
    "surveys": {
        "survey": "elder newer moment * among=None",
        "Survey": {"least_noticing": "", "greatest_quiet": "", "quiet": "manners", "verdict": "manners",
                   "client": "manners", "clients": "", "holds_for": "other", "lines": ""}},
    "moments": {
        "all_moments": "elder newer * among=None", "moments_quiet": "elder newer manners", "is_possible": "triple",
        "numbers_agree": "elder newer", "notes_agree": "elder newer"},
    "houses": {"House": {
        "__init__": "editions", "__len__": "", "__getitem__": "at", "__iter__": "", "verdict": "i j moment manners",
        "matrix": "moment manners", "clients": "moment manners", "eldest": "moment manners"}},
    "chains": {"broken": "quiet", "breaks": "house moment manners", "Break": {}},
    "drafts": {"Draft": {"__init__": "elder newer", "applied": "", "apply": "line", "text": "", "edition": ""}},
    "mends": {
        "mended": "elder newer lines", "least_mends": "elder newer moment manners pool", "Mends": {"is_monotone": ""}},
}


def parameters(function, skip):
    """The names of the parameters, with their default values."""
    told = list(inspect.signature(function).parameters.values())[skip:]
    words = []
    for part in told:
        if part.kind is part.KEYWORD_ONLY and "*" not in words:
            words.append("*")
        words.append(part.name if part.default is part.empty else f"{part.name}={part.default}")
    return " ".join(words)


class Interface(unittest.TestCase):
    def test_everything_stands_where_it_is_listed(self):
        for name, parts in INTERFACE.items():
            module = importlib.import_module(f"quietedition.{name}")
            for part, wanted in parts.items():
                found = vars(module)[part]
                self.assertEqual(found.__module__, module.__name__)
                if isinstance(wanted, str):
                    self.assertEqual(parameters(found, 0), wanted, part)
                    continue
                for method, told in wanted.items():
                    own = vars(found)[method]
                    if isinstance(own, classmethod):
                        own = own.__func__
                    if isinstance(own, property):
                        own = own.fget
                    self.assertEqual(parameters(own, 1), told, f"{part}.{method}")


class Form(unittest.TestCase):
    def setUp(self):
        self.trees = {path: ast.parse(path.read_text(encoding="ascii")) for path in FILES}
        self.functions = {node.name for tree in self.trees.values() for node in ast.walk(tree)
                          if isinstance(node, ast.FunctionDef)}

    def nodes(self, *kinds):
        for path, tree in self.trees.items():
            for node in ast.walk(tree):
                if isinstance(node, kinds):
                    yield f"{path.name}:{getattr(node, 'lineno', 0)}", node

    def test_files(self):
        self.assertTrue(FILES)
        others = [path.name for path in PACKAGE.iterdir() if path.suffix != ".py" and path.name != "__pycache__"]
        self.assertEqual(others, [])
        for path in FILES:
            text = path.read_text(encoding="utf-8")
            lines = text.split("\n")
            self.assertLessEqual(len(lines), 399, path.name)
            for line in lines:
                self.assertLessEqual(len(line), 120, path.name)
                self.assertTrue(all(" " <= sign <= "~" for sign in line), line)

    def test_functions_are_short_and_plain(self):
        for where, node in self.nodes(ast.FunctionDef):
            self.assertLessEqual(node.end_lineno - node.lineno + 1, 40, where)
            self.assertIsNone(node.returns, where)
            self.assertTrue(all(part.annotation is None for part in node.args.args), where)
            for decorator in node.decorator_list:
                self.assertIn(ast.unparse(decorator).split(".")[-1],
                              ("classmethod", "staticmethod", "property", "setter"), where)
            if node.name.startswith("__"):
                self.assertIn(node.name, DUNDERS, where)

    def test_imports(self):
        steps = {}
        for path, tree in self.trees.items():
            steps[path.stem] = []
            for node in ast.walk(tree):
                self.assertNotIsInstance(node, ast.Import)
                if not isinstance(node, ast.ImportFrom):
                    continue
                self.assertIn(node, tree.body)
                if node.module == "heapq":
                    self.assertEqual([(alias.name, alias.asname) for alias in node.names],
                                     [("heappop", None), ("heappush", None)])
                    continue
                package, name = node.module.split(".")
                self.assertEqual((package, node.level), ("quietedition", 0))
                steps[path.stem].append(name)
                other = self.trees[PACKAGE / f"{name}.py"]
                defined = [part.name for part in other.body if isinstance(part, (ast.FunctionDef, ast.ClassDef))]
                defined += [part.targets[0].id for part in other.body if isinstance(part, ast.Assign)]
                for alias in node.names:
                    self.assertIn(alias.name, defined, path.name)
                    self.assertIsNone(alias.asname)
        while steps:
            ready = [name for name in steps if all(other not in steps for other in steps[name])]
            self.assertTrue(ready, f"a ring of imports among {sorted(steps)}")
            steps = {name: needs for name, needs in steps.items() if name not in ready}

    def test_imported_names_are_used(self):
        for path, tree in self.trees.items():
            used = {node.id for node in ast.walk(tree) if isinstance(node, ast.Name)}
            for node in tree.body:
                if isinstance(node, ast.ImportFrom):
                    for alias in node.names:
                        self.assertIn(alias.name, used, path.name)

    def test_module_level(self):
        for path, tree in self.trees.items():
            names = []
            self.assertTrue(ast.get_docstring(tree), path.name)
            for node in tree.body[1:]:
                self.assertIsInstance(node, (ast.ImportFrom, ast.FunctionDef, ast.ClassDef, ast.Assign), path.name)
                if isinstance(node, ast.Assign):
                    is_table = isinstance(node.value, ast.Dict) and isinstance(node.value.values[0], ast.Name)
                    for part in node.value.values if is_table else []:
                        self.assertIn(part.id, names, path.name)
                    ast.literal_eval(ast.unparse(node.value.keys[0]) if is_table else node.value)
                    names.append(node.targets[0].id)
                elif isinstance(node, ast.ImportFrom):
                    names.extend(alias.name for alias in node.names)
                else:
                    names.append(node.name)
            self.assertEqual(len(names), len(set(names)), path.name)

    def test_no_statement_outside_the_subset(self):
        for where, node in self.nodes(*NODES):
            if isinstance(node, ast.Try):
                own = [ast.unparse(handler.type) for handler in node.handlers]
                self.assertEqual([name for name in own if name in vars(builtins)], [], where)
            else:
                self.fail(f"{where}: {ast.unparse(node)}")
        for where, node in self.nodes(ast.Compare):
            for sign, part in zip(node.ops, node.comparators):
                if isinstance(sign, (ast.Is, ast.IsNot)):
                    self.assertIn(ast.unparse(part), ("None", "True", "False"), where)
        for where, node in self.nodes(ast.Constant):
            self.assertNotIsInstance(node.value, float, where)
            if isinstance(node.value, str):
                self.assertNotIn("\x25", node.value, where)

    def test_names(self):
        for path, tree in self.trees.items():
            taken = set()
            for node in tree.body:
                if isinstance(node, ast.ImportFrom):
                    taken |= {alias.name for alias in node.names}
                elif isinstance(node, ast.ClassDef):
                    taken.add(node.name)
                    self.assertNotIn(node.name, vars(builtins))
            for node in ast.walk(tree):
                if isinstance(node, ast.Name):
                    self.assertNotIn(node.id, BARRED, path.name)
                    if isinstance(node.ctx, ast.Store):
                        self.assertNotIn(node.id, taken, f"{path.name}:{node.lineno}")
                        self.assertNotIn(node.id, vars(builtins), f"{path.name}:{node.lineno}")
                    elif node.id in vars(builtins):
                        self.assertIn(node.id, BUILTINS, f"{path.name}:{node.lineno}")
                elif isinstance(node, ast.arg):
                    self.assertNotIn(node.arg, taken | set(vars(builtins)) | BARRED, f"{path.name}:{node.lineno}")
                elif isinstance(node, ast.FunctionDef):
                    self.assertNotIn(node.name, set(vars(builtins)) | BARRED, f"{path.name}:{node.lineno}")
                elif isinstance(node, ast.Attribute) and isinstance(node.ctx, ast.Store):
                    self.assertNotIn(node.attr, BARRED_ATTRIBUTES, f"{path.name}:{node.lineno}")

    def test_attributes_and_methods(self):
        stored = {node.attr for _, node in self.nodes(ast.Attribute) if isinstance(node.ctx, ast.Store)}
        values = {part.targets[0].id for _, node in self.nodes(ast.ClassDef) for part in node.body
                  if isinstance(part, ast.Assign)}
        called = {id(node.func) for _, node in self.nodes(ast.Call)}
        properties = {node.name for _, node in self.nodes(ast.FunctionDef)
                      if "property" in [ast.unparse(part) for part in node.decorator_list]}
        for where, node in self.nodes(ast.Attribute):
            if id(node) in called:
                self.assertIn(node.attr, self.functions | METHODS, where)
            else:
                self.assertIn(node.attr, stored | values | properties, where)
        decorated = {node.name for _, node in self.nodes(ast.FunctionDef) if node.decorator_list}
        self.assertEqual(decorated & stored, set())
        methods = [part.name for _, node in self.nodes(ast.ClassDef) for part in node.body
                   if isinstance(part, ast.FunctionDef)]
        for name in properties:
            self.assertEqual(methods.count(name), 1, name)
        for where, node in self.nodes(ast.ClassDef):
            methods = {part.name for part in node.body if isinstance(part, ast.FunctionDef)}
            own = {part.attr for part in ast.walk(node) if isinstance(part, ast.Attribute)
                   and isinstance(part.ctx, ast.Store)}
            self.assertEqual(methods & own, set(), where)

    def test_properties_only_read(self):
        """So that nothing that reads one changes anything: a list that is told is a new one."""
        for where, node in self.nodes(ast.FunctionDef):
            if "property" in [ast.unparse(part) for part in node.decorator_list]:
                _, told = node.body
                self.assertIsInstance(told, ast.Return, where)
                for part in ast.walk(told):
                    if isinstance(part, ast.Call):
                        self.assertIn(ast.unparse(part.func), ("list", "tuple"), where)

    def test_generators(self):
        """Each is iterated where it is called, and nothing else has its name."""
        names = [node.name for _, node in self.nodes(ast.FunctionDef)
                 if any(isinstance(part, ast.Yield) for part in ast.walk(node))]
        fine = {id(node.iter) for _, node in self.nodes(ast.For, ast.comprehension)}
        fine |= {id(part) for _, node in self.nodes(ast.Call) for part in node.args
                 if ast.unparse(node.func) in ("list", "tuple", "sorted")}
        functions = [node.name for _, node in self.nodes(ast.FunctionDef)]
        for name in names:
            self.assertEqual(functions.count(name), 1, name)
        for where, node in self.nodes(ast.Call):
            if ast.unparse(node.func).split(".")[-1] in names:
                self.assertIn(id(node), fine, where)

    def test_sets_and_iterators_are_used_at_once(self):
        fine = set()
        for _, node in self.nodes(ast.Call):
            name = ast.unparse(node.func)
            if name in ("sorted", "len", "list", "tuple", "dict", "sum", "enumerate", "zip"):
                fine |= {id(part) for part in node.args}
        for _, node in self.nodes(ast.For, ast.comprehension):
            fine.add(id(node.iter))
        for where, node in self.nodes(ast.Call):
            name = ast.unparse(node.func).split(".")[-1]
            if name in ("set", "zip", "enumerate", "range", "reversed", "items", "keys", "values"):
                self.assertIn(id(node), fine, where)
        for where, node in self.nodes(ast.SetComp):
            self.assertIn(id(node), fine, where)

    def test_calls_of_builtins(self):
        for where, node in self.nodes(ast.Call):
            name = ast.unparse(node.func)
            if name in vars(builtins):
                for keyword in node.keywords:
                    self.assertIn((name, keyword.arg), (("sorted", "key"), ("sorted", "reverse"), ("min", "key"),
                                                        ("max", "key"), ("min", "default"), ("max", "default")), where)
            if name.endswith(".join"):
                self.assertIsInstance(node.func.value, ast.Constant, where)
            self.assertFalse(name.endswith(".sort"), where)

    def test_what_is_added_in_place_is_plain(self):
        """So that nothing behind `+=` was handed what it changes (L23)."""
        for where, node in self.nodes(ast.AugAssign):
            told = node.value.value if isinstance(node.value, ast.Attribute) else node.value
            self.assertIsInstance(told, (ast.Constant, ast.Name), where)

    def test_what_is_shown_ends_with_a_plain_return(self):
        for where, node in self.nodes(ast.FunctionDef):
            if node.name in ("__str__", "__repr__"):
                self.assertIsInstance(node.body[-1], ast.Return, where)
                self.assertTrue(isinstance(node.body[-1].value, (ast.Call, ast.JoinedStr, ast.Constant)), where)


if __name__ == "__main__":
    unittest.main()
