"""The rules of LANGUAGE.md that can be seen in the files of the package, as far as they are looked at here."""

import ast
import builtins
import os
import re
import unittest

FOLDER = os.path.join(os.path.dirname(os.path.dirname(os.path.abspath(__file__))), "onlyalike")

INTERFACE = {
    "errors.py": ["AlikeError", "BadMachine", "BadFlow", "BadPaper", "BadThing", "BadList", "BadWords", "BadPlace", "BadLink",
                  "BadCondition", "BadFilter", "BadVerdict", "BadWord", "BadClaim", "Parts", "BadNumber", "BadPipe", "BadRow",
                  "BadJournal", "BadText", "BadQuestion", "TooMany", "Missing"],
    "things.py": ["is_thing(thing)", "need_list(thing)", "need_words(thing)", "plain_list(words, things)",
                  "is_plain_list(words, thing)"],
    "machines.py": ["need_machine(thing)", "behaviour_for(machine, things)", "pattern_behind(machine, things)"],
    "flows.py": ["need_flow(thing)", "flow_of(machine)", "flow_over(machine, words)", "patterns_of(machine)", "ways_to(flow)",
                 "run_flow(flow, things)", "place_behind(flow, things)", "leaves_met(machine)"],
    "alike.py": ["are_alike(one, other)", "parting_of(one, other)", "flows_alike(one, other)", "flows_parting(one, other)",
                 "alike_paper(one, other)", "check_alike(one, other, paper)"],
    "insum.py": ["alike_in_sum(one, other)", "parting_in_sum(one, other)"],
    "within.py": ["is_within(one, other)", "escape_of(one, other)", "within_paper(one, other)",
                  "check_within(one, other, paper)"],
    "equal.py": ["need_place(flow, thing)", "need_link(flow, p, q, thing)", "is_equal(flow, p, q, link)",
                 "going_on(flow, p, q, link)", "matches(flow, p, q)"],
    "needed.py": ["needed_at(flow, p)", "need_of(machine)", "needed_behind(machine, things)"],
    "least.py": ["classes_of(flow)", "least_flow(flow)", "tidy(flow)", "same_class(machine, things, other)"],
    "needless.py": ["unmet(machine)", "settled(machine)", "unused(machine)", "idle(machine)", "dead_places(flow)",
                    "cleaned(machine)"],
    "keeppapers.py": ["need_paper(machine)", "check_need(machine, paper)", "classes_paper(machine)",
                      "check_classes(machine, paper)"],
    "conditions.py": ["need_condition(thing)", "does_hold(condition, things)", "kept_by_form(condition)",
                      "words_of_condition(condition)", "compile_condition(condition)"],
    # The document calls the first argument of the last two "filter", which LANGUAGE.md bars as a name.
    "filters.py": ["need_filter(thing)", "sift_list(sieve, things)", "make_filter(sieve)"],
    "verdicts.py": ["flow_both(one, other)", "flow_either(one, other)", "flow_without(one, other)", "flow_turned(flow)",
                    "first_with(flow, verdict)", "same_verdicts(one, other)", "unlike_verdicts(one, other)"],
    "pipes.py": ["need_pipe(thing)", "run_pipe(pipe, things)", "pipe_as_flow(pipe)", "may_turn_stages(pipe)",
                 "needless_stages(pipe)"],
    "guards.py": ["breach_of(pipe, guard, given)", "guard_paper(pipe, guard, given)", "check_guard(pipe, guard, given, paper)"],
    "counts.py": ["count_lists(machine, verdict, many, things)", "list_at(machine, verdict, many, things, number)",
                  "list_number(machine, verdict, things, items)", "lists_in_all(words, many, things)",
                  "range_of(machine, verdict, many)"],
    "losses.py": ["loss_of(machine, in_sum)", "does_keep(machine, in_sum)", "loss_paper(machine, in_sum)",
                  "check_loss(machine, in_sum, paper)"],
    "runner.py": ["Runner", "under(manager, deed)"],
    "shelf.py": ["Shelf"],
    "texts.py": ["machine_text(machine)", "list_text(machine, items)", "read_machine(text)", "read_list(machine, text)"],
    "judge.py": ["judged(claim, paper)"],
    "desk.py": ["Desk"],
}
# What each class of the interface defines itself: its methods, those beside the instance, its properties, its operators.
CLASSES = {
    "Runner": ["__init__(self, machine)", "classmethod of(cls, machine, journal)", "property program(self)", "property fed(self)",
               "property told(self)", "property state_now(self)", "property boxes_now(self)", "property journal(self)",
               "feed(self, thing)", "ending(self)", "needed_now(self)", "swap(self, machine)", "slim(self)", "undo(self)",
               "redo(self)", "copy(self)", "trial(self)", "__eq__(self, other)", "__len__(self)"],
    "Shelf": ["__init__(self, *, strict=True)", "property is_strict(self)", "__getitem__(self, name)",
              "__setitem__(self, name, machine)", "__contains__(self, name)", "__iter__(self)", "__len__(self)",
              "__eq__(self, other)", "forget(self, name)", "labels(self)", "replace(self, name, machine)", "undo(self)",
              "trial(self)"],
    "Desk": ["__init__(self, text)", "property runner(self)", "say(self, line)"],
}
BUILTINS = set("""len range enumerate zip min max sum abs sorted reversed int str bool bytes list tuple dict set frozenset
isinstance ord repr any all divmod pow super ValueError KeyError OverflowError TypeError classmethod property""".split())
METHODS = set("""append clear copy count endswith extend find get index insert isalnum isalpha isdigit islower isspace isupper
items join keys ljust lower lstrip partition pop remove replace reverse rfind rjust rpartition rsplit rstrip setdefault split
splitlines startswith strip update upper values zfill bit_length add discard __init__""".split())
DOUBLE = ("__init__", "__enter__", "__exit__", "__eq__", "__len__", "__iter__", "__contains__", "__getitem__", "__setitem__")
NOT_NAMES = set("""register mro elements open input law version_info with_traceback add_note attrgetter breakpoint builtins
compile copyright credits delattr dir eval exec exit gc getattr globals hasattr help id importlib license locals methodcaller os
quit setattr vars sys""".split())
NOT_WORDS = set("""typing typing_extensions enum Enum IntEnum StrEnum Flag IntFlag Generic Protocol ABC ABCMeta namedtuple
NamedTuple TypedDict TYPE_CHECKING abstractmethod type""".split())
TAKES_LISTS = ("any", "all", "sum", "min", "max", "sorted", "list", "tuple", "dict")


def sources():
    out = {}
    for name in sorted(os.listdir(FOLDER)):
        if name != "__pycache__":
            with open(os.path.join(FOLDER, name), encoding="utf-8") as file:
                out[name] = file.read()
    return out


SOURCES = sources()
TREES = {name: ast.parse(text) for name, text in SOURCES.items() if name.endswith(".py")}


def bound_names(tree):
    """All names that a file gives: variables, parameters, functions, classes, imports, attributes."""
    for node in ast.walk(tree):
        if isinstance(node, ast.Name) and isinstance(node.ctx, ast.Store):
            yield node.id
        elif isinstance(node, ast.arg):
            yield node.arg
        elif isinstance(node, (ast.FunctionDef, ast.ClassDef)):
            yield node.name
        elif isinstance(node, ast.alias):
            yield node.name
        elif isinstance(node, ast.Attribute) and isinstance(node.ctx, ast.Store):
            yield node.attr


class Language(unittest.TestCase):
    def each(self, *kinds):
        """Each node of these kinds, and where it is."""
        for name, tree in TREES.items():
            for node in ast.walk(tree):
                if isinstance(node, kinds):
                    yield node, (name, getattr(node, "lineno", 0))

    def test_files_of_the_package(self):
        self.assertIn("__init__.py", SOURCES)
        for name in SOURCES:
            self.assertRegex(name, r"^[a-z0-9_]+\.py$")
            self.assertFalse(name != "__init__.py" and hasattr(builtins, name[:-3]), name)

    def test_each_name_of_the_interface_is_defined_in_its_file(self):
        for name, wanted in INTERFACE.items():
            have = {}
            for node in TREES[name].body:
                if isinstance(node, ast.FunctionDef):
                    have[node.name] = f"{node.name}({', '.join(arg.arg for arg in node.args.args)})"
                elif isinstance(node, ast.ClassDef):
                    have[node.name] = node.name
            for entry in wanted:
                self.assertEqual(have.get(entry.split("(")[0]), entry, name)

    def test_each_class_of_the_interface_defines_its_methods_itself(self):
        classes = {node.name: node for node, _ in self.each(ast.ClassDef)}
        for name, wanted in CLASSES.items():
            have = []
            for node in classes[name].body:
                if isinstance(node, ast.FunctionDef):
                    parameters = [arg.arg for arg in node.args.args] + (["*"] if node.args.kwonlyargs else [])
                    parameters += [f"{arg.arg}={ast.unparse(default)}" for arg, default in zip(
                        node.args.kwonlyargs, node.args.kw_defaults)]
                    self.assertEqual(node.args.defaults, [])
                    have.append(" ".join([*(ast.unparse(x) for x in node.decorator_list), f"{node.name}({', '.join(parameters)})"]))
            for entry in wanted:
                self.assertIn(entry, have)

    def test_properties_and_operators_change_nothing(self):
        quiet = ("__eq__", "__len__", "__contains__", "__getitem__", "__iter__")
        properties = set()
        for node, where in self.each(ast.FunctionDef):
            is_property = any(ast.unparse(x) == "property" for x in node.decorator_list)
            if is_property:
                properties.add(node.name)
            if is_property or node.name in quiet:
                for part in ast.walk(node):
                    self.assertNotIsInstance(part, (ast.AugAssign, ast.Delete), where)
                    if isinstance(part, (ast.Attribute, ast.Subscript)):
                        self.assertIsInstance(part.ctx, ast.Load, where)
        for node, where in self.each(ast.Attribute):
            if isinstance(node.ctx, ast.Store):
                self.assertNotIn(node.attr, properties, where)

    def test_sizes_and_characters(self):
        for name, text in SOURCES.items():
            lines = text.split("\n")
            self.assertLessEqual(len(lines), 399, name)
            self.assertLessEqual(max(len(line) for line in lines), 120, name)
            self.assertTrue(all(character == "\n" or " " <= character <= "~" for character in text), name)
        for node, where in self.each(ast.FunctionDef):
            self.assertLessEqual(node.end_lineno - node.lineno + 1, 40, where)

    def test_imports(self):
        graph = {}
        for name, tree in TREES.items():
            for node in ast.walk(tree):
                self.assertNotIsInstance(node, ast.Import)
                if isinstance(node, ast.ImportFrom):
                    self.assertIn(node, tree.body)
                    self.assertEqual(node.level, 0)
                    self.assertTrue(node.module.startswith("onlyalike."), node.module)
                    file = node.module[len("onlyalike."):] + ".py"
                    given = [x.name for x in TREES[file].body if isinstance(x, (ast.FunctionDef, ast.ClassDef))]
                    given += [x.targets[0].id for x in TREES[file].body if isinstance(x, ast.Assign)]
                    for alias in node.names:
                        self.assertIsNone(alias.asname)
                        self.assertIn(alias.name, given, (name, file))
                        used = [x for x in ast.walk(tree) if isinstance(x, ast.Name) and x.id == alias.name]
                        self.assertTrue(used, (name, alias.name))
                    graph.setdefault(name, set()).add(file)

        def reached(name, seen):
            for other in graph.get(name, ()):
                if other not in seen:
                    seen.add(other)
                    reached(other, seen)
            return seen

        for name in graph:
            self.assertNotIn(name, reached(name, set()))

    def test_module_level(self):
        for name, tree in TREES.items():
            seen = []
            for node in tree.body:
                self.assertIsInstance(node, (ast.Expr, ast.ImportFrom, ast.FunctionDef, ast.ClassDef, ast.Assign))
                if isinstance(node, ast.Expr):
                    self.assertIsInstance(node.value, ast.Constant)
                elif isinstance(node, ast.Assign):
                    # A table may have functions that are defined above it.
                    table = node.value.values if isinstance(node.value, ast.Dict) else []
                    if any(isinstance(part, ast.Name) for part in table):
                        self.assertTrue(all(isinstance(part, ast.Name) and part.id in seen for part in table), name)
                        self.assertTrue(all(isinstance(ast.literal_eval(key), str) for key in node.value.keys))
                    else:
                        ast.literal_eval(node.value)
                    self.assertEqual(len(node.targets), 1)
                    seen.append(node.targets[0].id)
                elif isinstance(node, ast.ImportFrom):
                    seen += [alias.name for alias in node.names]
                else:
                    seen.append(node.name)
            self.assertEqual(len(seen), len(set(seen)), name)

    def test_statements_and_expressions(self):
        # A generator expression may stand in few places, and in fewer where a class has an __eq__: lists are taken.
        for _, where in self.each(ast.Global, ast.AsyncFunctionDef, ast.Await, ast.Div, ast.GeneratorExp):
            self.fail(where)
        for tree in TREES.values():
            for node in tree.body:
                self.assertEqual(getattr(node, "decorator_list", []), [])
        for node, where in self.each(ast.Constant):
            self.assertNotIsInstance(node.value, (float, complex), where)
            if isinstance(node.value, str):
                self.assertNotIn("%", node.value, where)
                self.assertFalse(node.value.endswith(("._", ".__")), where)

    def test_is_stands_beside_none_true_and_false(self):
        for node, where in self.each(ast.Compare):
            if isinstance(node.ops[0], (ast.Is, ast.IsNot)):
                self.assertIsInstance(node.comparators[0], ast.Constant, where)

    def test_names(self):
        for name, tree in TREES.items():
            for bound in bound_names(tree):
                self.assertNotIn(bound, NOT_NAMES, name)
                self.assertTrue(bound in ("_", *DOUBLE) or not bound.startswith("__"), bound)
                self.assertFalse(bound.startswith(("_wall", "_pe_", "_dcw_")), bound)
            strict = [x.id for x in ast.walk(tree) if isinstance(x, ast.Name) and isinstance(x.ctx, ast.Store)]
            strict += [x.arg for x in ast.walk(tree) if isinstance(x, ast.arg)]
            strict += [x.name for x in tree.body if isinstance(x, (ast.FunctionDef, ast.ClassDef))]
            for bound in strict:
                self.assertFalse(hasattr(builtins, bound), (name, bound))
            outer = {x.name for x in tree.body if isinstance(x, ast.ClassDef)}
            outer |= {alias.name for x in tree.body if isinstance(x, ast.ImportFrom) for alias in x.names}
            inner = [x for node in tree.body if isinstance(node, (ast.FunctionDef, ast.ClassDef)) for x in ast.walk(node)]
            for node in inner:
                if isinstance(node, ast.Name) and isinstance(node.ctx, ast.Store):
                    self.assertNotIn(node.id, outer, (name, node.lineno))
                elif isinstance(node, ast.arg):
                    self.assertNotIn(node.arg, outer, (name, node.lineno))

    def test_barred_words(self):
        for name, text in SOURCES.items():
            tree = TREES[name]
            words = set()
            for node in ast.walk(tree):
                if isinstance(node, ast.Name):
                    words.add(node.id)
                elif isinstance(node, ast.Attribute):
                    words.add(node.attr)
            self.assertFalse(words & NOT_WORDS, name)
            self.assertIsNone(re.search("dataclass|overload|contextmanager|_wall|metaclass", text), name)

    def test_builtins_and_methods(self):
        own = {node.name for node, _ in self.each(ast.FunctionDef)}
        for node, where in self.each(ast.Name):
            if isinstance(node.ctx, ast.Load) and hasattr(builtins, node.id):
                self.assertIn(node.id, BUILTINS, where)
        for node, where in self.each(ast.Call):
            if isinstance(node.func, ast.Attribute):
                self.assertIn(node.func.attr, METHODS | own, where)
                self.assertTrue(node.func.attr in own or not node.keywords, where)
            else:
                self.assertIsInstance(node.func, ast.Name, where)

    def test_own_methods_are_called_where_they_stand(self):
        functions = [x for node, _ in self.each(ast.ClassDef) for x in node.body if isinstance(x, ast.FunctionDef)]
        properties = {x.name for x in functions if any(ast.unparse(y) == "property" for y in x.decorator_list)}
        methods = {x.name for x in functions} - properties
        called = {id(node.func) for node, _ in self.each(ast.Call)}
        attributes = {node.attr for node, _ in self.each(ast.Attribute) if isinstance(node.ctx, ast.Store)}
        self.assertFalse(methods & attributes)
        for node, where in self.each(ast.Attribute):
            if node.attr in methods:
                self.assertIn(id(node), called, where)
            elif id(node) not in called:
                self.assertIn(node.attr, attributes | properties, where)

    def test_sets_are_not_stored(self):
        for name, tree in TREES.items():
            fine = set()
            for node in ast.walk(tree):
                if isinstance(node, ast.Call) and isinstance(node.func, ast.Name) and node.func.id in ("sorted", "len"):
                    fine |= {id(part) for part in node.args}
            for node in ast.walk(tree):
                made = isinstance(node, ast.Call) and isinstance(node.func, ast.Name) and node.func.id == "set"
                if made or isinstance(node, (ast.Set, ast.SetComp)):
                    self.assertIn(id(node), fine, (name, node.lineno))

    def test_views_are_gone_through_at_once(self):
        for name, tree in TREES.items():
            fine = set()
            for node in ast.walk(tree):
                if isinstance(node, (ast.For, ast.comprehension)):
                    fine.add(id(node.iter))
                elif isinstance(node, ast.Call) and isinstance(node.func, ast.Name) and node.func.id in TAKES_LISTS:
                    fine |= {id(part) for part in node.args[:1]}
            for node in ast.walk(tree):
                if isinstance(node, ast.Call) and isinstance(node.func, ast.Name) and node.func.id in (
                        "zip", "enumerate", "range", "reversed"):
                    self.assertIn(id(node), fine, (name, node.lineno))

    def test_what_a_loop_goes_over_is_not_changed(self):
        for node, where in self.each(ast.For):
            over = ast.unparse(node.iter)
            for part in node.body:
                for inner in ast.walk(part):
                    if isinstance(inner, ast.Call) and isinstance(inner.func, ast.Attribute):
                        if inner.func.attr in ("append", "extend", "pop", "insert", "remove", "clear", "setdefault"):
                            self.assertNotIn(ast.unparse(inner.func.value), over.replace("(", " ").replace(")", " ").split())

    def test_names_in_comprehensions(self):
        def look(node, outer, depth):
            inner, deeper = outer, depth
            if isinstance(node, (ast.ListComp, ast.DictComp, ast.SetComp)):
                own = {part.id for each in node.generators for part in ast.walk(each.target) if isinstance(part, ast.Name)}
                if depth > 0:
                    self.assertFalse(own & outer - {"_"}, node.lineno)
                inner, deeper = outer | own, depth + 1
            for part in ast.iter_child_nodes(node):
                look(part, inner, deeper)

        for tree in TREES.values():
            look(tree, set(), 0)

    def test_only_own_errors_are_caught(self):
        own = {node.name for node, _ in self.each(ast.ClassDef)}
        for node, where in self.each(ast.ExceptHandler):
            for caught in node.type.elts if isinstance(node.type, ast.Tuple) else [node.type]:
                self.assertIsInstance(caught, ast.Name, where)
                self.assertIn(caught.id, own, where)

    def test_each_function_has_a_docstring(self):
        for node, where in self.each(ast.FunctionDef, ast.ClassDef):
            # LANGUAGE.md tells of all rows of the last two, and of no docstring there.
            if not isinstance(node, ast.FunctionDef) or node.name not in ("__init__", "__exit__", "__iter__"):
                self.assertTrue(ast.get_docstring(node), where)


if __name__ == "__main__":
    unittest.main()
