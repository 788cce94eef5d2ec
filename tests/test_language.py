"""Checks of the rules of the Python subset that can be told from the syntax."""

import ast
import builtins
import re
import unittest
from pathlib import Path

PACKAGE = Path(__file__).resolve().parent.parent / "stepsvanish"

LIBRARY = {
    "math": {"gcd", "lcm", "isqrt", "comb", "perm", "factorial"},
    "itertools": {"product", "combinations", "permutations"},
}

BUILTINS = set(
    "len range enumerate zip min max sum abs sorted reversed int str bool list tuple "
    "dict set isinstance ord repr any all divmod iter ValueError".split()
)

SPECIAL = set("init eq call iter len add sub mul rmul neg contains".split())

BARRED = (
    "type typing enum Enum namedtuple NamedTuple dataclass overload contextmanager "
    "abstractmethod ABC Generic Protocol elements register open input law mro"
).split()

STATEMENTS = (
    ast.Global,
    ast.Nonlocal,
    ast.AsyncFunctionDef,
    ast.AsyncFor,
    ast.AsyncWith,
    ast.Await,
    ast.GeneratorExp,
    ast.Div,
    ast.Pow,
    ast.Lambda,
)


def trees():
    for path in sorted(PACKAGE.glob("*.py")):
        yield path, ast.parse(path.read_text(encoding="utf-8"))


def bound_names(tree):
    for node in ast.walk(tree):
        if isinstance(node, (ast.FunctionDef, ast.ClassDef)):
            yield node.name
        elif isinstance(node, ast.arg):
            yield node.arg
        elif isinstance(node, ast.Name) and isinstance(node.ctx, ast.Store):
            yield node.id


class LanguageTest(unittest.TestCase):
    def test_the_folder_contains_only_python_files(self):
        names = [path.name for path in PACKAGE.iterdir() if path.name != "__pycache__"]
        self.assertIn("__init__.py", names)
        for name in names:
            self.assertRegex(name, r"^[a-z_]+\.py$")

    def test_sizes_and_characters(self):
        for path, tree in trees():
            text = path.read_text(encoding="utf-8")
            self.assertRegex(text, r"\A[ -~\n]*\Z", path)
            lines = text.splitlines()
            self.assertLessEqual(len(lines), 399, path)
            for line in lines:
                self.assertLessEqual(len(line), 120, path)
            for node in ast.walk(tree):
                if isinstance(node, ast.FunctionDef):
                    self.assertLessEqual(node.end_lineno - node.lineno + 1, 40, node.name)

    def test_imports(self):
        later = {}
        for path, tree in trees():
            used = set()
            for node in ast.walk(tree):
                self.assertNotIsInstance(node, ast.Import)
                if not isinstance(node, ast.ImportFrom):
                    continue
                self.assertEqual(node.level, 0)
                self.assertIn(node, tree.body)
                self.assertTrue(all(alias.asname is None for alias in node.names))
                if node.module in LIBRARY:
                    names = {alias.name for alias in node.names}
                    self.assertLessEqual(names, LIBRARY[node.module])
                else:
                    self.assertRegex(node.module, r"^stepsvanish\.[a-z]+$")
                    used.add(node.module.split(".")[1])
                    self.check_names_are_defined_there(node)
            later[path.stem] = used
        # Take away files that import nothing any more; a circle would remain.
        while later:
            free = [name for name, used in later.items() if not used & set(later)]
            self.assertTrue(free, later)
            for name in free:
                del later[name]

    def check_names_are_defined_there(self, node):
        path = PACKAGE / (node.module.split(".")[1] + ".py")
        tree = ast.parse(path.read_text(encoding="utf-8"))
        defined = {part.name for part in tree.body if hasattr(part, "name")}
        for part in tree.body:
            if isinstance(part, ast.Assign):
                defined.add(part.targets[0].id)
        for alias in node.names:
            self.assertIn(alias.name, defined)

    def test_no_name_has_another_meaning(self):
        for path, tree in trees():
            taken = set()
            for node in tree.body:
                if isinstance(node, ast.ImportFrom):
                    taken |= {alias.name for alias in node.names}
                elif isinstance(node, ast.ClassDef):
                    taken.add(node.name)
            tops = [node.name for node in tree.body if hasattr(node, "name")]
            self.assertEqual(len(tops), len(set(tops)), path)
            for name in bound_names(tree):
                if name not in tops:
                    self.assertNotIn(name, taken, path)
                if name == f"__{name[2:-2]}__":
                    self.assertIn(name[2:-2], SPECIAL, path)
                else:
                    self.assertFalse(hasattr(builtins, name), (path, name))
                    self.assertRegex(name, r"^(_?[A-Za-z][A-Za-z0-9_]*|_)$", path)

    def test_only_listed_builtins_are_used(self):
        for path, tree in trees():
            own = set(bound_names(tree))
            for node in ast.walk(tree):
                if isinstance(node, ast.Name) and node.id not in own:
                    if hasattr(builtins, node.id):
                        allowed = {*BUILTINS, "staticmethod", "property"}
                        self.assertIn(node.id, allowed, path)

    def test_barred_words(self):
        for path, tree in trees():
            for node in ast.walk(tree):
                if isinstance(node, (ast.FunctionDef, ast.ClassDef, ast.Module)):
                    body = node.body
                    if body and isinstance(body[0], ast.Expr):
                        # Docstrings may contain any word.
                        body[0].value = ast.Constant("")
            text = ast.unparse(tree)
            for word in BARRED:
                self.assertIsNone(re.search(rf"\b{word}\b", text), (path, word))

    def test_statements_and_expressions(self):
        for path, tree in trees():
            for node in ast.walk(tree):
                self.assertNotIsInstance(node, STATEMENTS, path)
                if isinstance(node, (ast.FunctionDef, ast.ClassDef)):
                    decorators = [ast.unparse(part) for part in node.decorator_list]
                    self.assertIn(decorators, ([], ["staticmethod"], ["property"]))
                if isinstance(node, ast.Constant):
                    self.assertNotIsInstance(node.value, (float, complex, bytes))
                    if isinstance(node.value, str):
                        self.assertNotIn("%", node.value)
                if isinstance(node, ast.Compare):
                    for sign, side in zip(node.ops, node.comparators):
                        if isinstance(sign, (ast.Is, ast.IsNot)):
                            self.assertIn(ast.unparse(side), ("None", "True", "False"))

    def test_a_raise_creates_its_error(self):
        for path, tree in trees():
            for node in ast.walk(tree):
                if isinstance(node, ast.Raise):
                    self.assertIsInstance(node.exc, ast.Call, path)
                    self.assertIsInstance(node.exc.func, ast.Name, path)


INTERFACE = {
    "numbers": {"factored": ["number"], "is_prime": ["number"]},
    "groups": {
        "Group": ["table"],
        "Group.multiply": ["left", "right"],
        "Group.inverse": ["element"],
        "Group.power": ["element", "exponent"],
        "Group.order_of": ["element"],
        "Group.generated": ["members"],
        "Group.generators": [],
        "Group.is_commutative": [],
        "Group.__eq__": ["other"],
    },
    "targets": {
        "Target": ["moduli"],
        "Target.is_value": ["value"],
        "Target.plus": ["left", "right"],
        "Target.minus": ["left", "right"],
        "Target.times": ["factor", "value"],
        "Target.all_values": [],
        "Target.position": ["value"],
        "Target.value_at": ["position"],
        "Target.as_group": [],
        "Target.__eq__": ["other"],
    },
    "maps": {
        "GroupMap": ["group", "target", "images"],
        "GroupMap.constant": ["group", "target", "value"],
        "GroupMap.from_parts": ["group", "target", "parts"],
        "GroupMap.__call__": ["element"],
        "GroupMap.__add__": ["other"],
        "GroupMap.__sub__": ["other"],
        "GroupMap.__neg__": [],
        "GroupMap.__mul__": ["factor"],
        "GroupMap.__eq__": ["other"],
        "GroupMap.__iter__": [],
        "GroupMap.part": ["at"],
        "GroupMap.is_zero": [],
        "GroupMap.step": ["element"],
        "GroupMap.left_step": ["element"],
        "GroupMap.translated": ["element"],
        "GroupMap.evaluate": ["coefficients"],
    },
    "lattices": {
        "Lattice": ["vectors", "width", "modulus"],
        "Lattice.radices": [],
        "Lattice.coset_count": [],
        "Lattice.remainder": ["vector"],
        "Lattice.contains": ["vector"],
        "Lattice.__contains__": ["vector"],
        "Lattice.inside": ["other"],
        "Lattice.joined": ["vectors"],
        "Lattice.reordered": ["places"],
        "Lattice.__eq__": ["other"],
    },
    "powers": {
        "shifted": ["group", "coefficients", "element"],
        "power_lattice": ["group", "exponent", "modulus"],
        "power_chain": ["group", "modulus"],
    },
    "subgroups": {
        "is_subgroup": ["group", "members"],
        "is_normal": ["group", "members"],
        "normal_closure": ["group", "members"],
        "left_cosets": ["group", "members"],
        "commutator_subgroup": ["group"],
        "lower_series": ["group"],
        "center": ["group"],
    },
    "building": {
        "cyclic": ["order"],
        "from_permutations": ["permutations", "=points"],
        "direct_product": ["*groups"],
        "quotient": ["group", "members"],
        "subgroup_as_group": ["group", "members"],
        "is_homomorphism": ["group", "other", "images"],
    },
    "sums": {
        "FormalSum": ["group", "coefficients"],
        "FormalSum.element": ["group", "element"],
        "FormalSum.__add__": ["other"],
        "FormalSum.__sub__": ["other"],
        "FormalSum.__neg__": [],
        "FormalSum.__mul__": ["other"],
        "FormalSum.__eq__": ["other"],
        "FormalSum.scaled": ["factor"],
        "FormalSum.augmentation": [],
        "difference_product": ["group", "members"],
        "depth": ["formal_sum", "modulus"],
    },
    "diagonal": {
        "diagonal_form": ["table", "=modulus"],
        "divisors": ["table"],
        "divisor_row": ["group", "bound"],
    },
    "degrees": {
        "degree": ["f"],
        "vanishes": ["f", "count"],
        "stepped": ["f", "members"],
        "leading_value": ["f", "members"],
        "witness": ["f"],
        "integrated": ["group", "target", "pieces"],
    },
    "transport": {
        "pull_back": ["f", "group", "images"],
        "push_forward": ["f", "group", "images"],
        "external_sum": ["f", "g"],
        "external_product": ["f", "g"],
    },
    "listing": {
        "choice_counts": ["group", "target", "bound"],
        "number_of_maps": ["group", "target", "bound"],
        "map_at": ["group", "target", "bound", "position"],
        "position_of": ["f", "bound"],
        "maps_before": ["f", "bound"],
        "maps_up_to": ["group", "target", "bound"],
        "map_lattice": ["group", "modulus", "bound"],
    },
    "growth": {
        "greatest_degree": ["group", "target"],
        "growth": ["group", "target"],
        "number_with_degree": ["group", "target", "degree"],
        "fixed_count": ["group", "target", "bound", "element"],
        "class_count": ["group", "target", "bound"],
    },
    "residuals": {
        "residual": ["group", "prime"],
        "prime_part": ["f", "prime"],
        "has_degree": ["f"],
        "all_have_degree": ["group", "target"],
        "obstruction": ["f"],
        "number_having_degree": ["group", "target"],
        "blocks": ["group", "target"],
        "split": ["f"],
        "assembled": ["group", "target", "pieces"],
    },
    "weights": {
        "dimension_subgroup": ["group", "prime", "exponent"],
        "dimension_series": ["group", "prime"],
        "element_weight": ["group", "prime", "element"],
        "dimension_ranks": ["group", "prime"],
        "weight_counts": ["group", "prime"],
    },
    "partial": {
        "restricted": ["f", "places"],
        "extension": ["group", "target", "bound", "partial"],
        "extension_count": ["group", "target", "bound", "partial"],
        "extensions": ["group", "target", "bound", "partial"],
        "extension_at": ["group", "target", "bound", "partial", "position"],
        "refutation": ["group", "target", "bound", "partial"],
        "is_refutation": ["group", "target", "bound", "partial", "part", "coefficients"],
        "first_conflict": ["group", "target", "bound", "partial"],
        "least_bound": ["group", "target", "partial"],
    },
    "places": {
        "closure": ["group", "target", "bound", "places"],
        "determines": ["group", "target", "bound", "places"],
        "is_free": ["group", "target", "bound", "places"],
        "relations": ["group", "modulus", "bound", "places"],
        "completing_places": ["group", "prime", "bound", "places"],
        "least_places": ["group", "prime", "bound"],
    },
    "totals": {
        "total": ["f"],
        "total_over": ["f", "places"],
        "totals_vanish": ["group", "target", "bound", "coefficients"],
        "nonvanishing_map": ["group", "target", "bound", "coefficients"],
        "total_order": ["group", "modulus", "bound", "coefficients"],
        "number_with_total": ["group", "target", "bound", "coefficients", "value"],
        "total_counts": ["group", "target", "bound", "coefficients"],
        "total_bound": ["group", "modulus"],
        "moved": ["f", "coefficients"],
    },
    "duality": {
        "inner_product": ["f", "g"],
        "is_orthogonal": ["f", "bound"],
        "orthogonal_count": ["group", "modulus", "bound"],
        "dual_bound": ["group", "prime", "bound"],
    },
    "pairings": {
        "Pairing": ["left", "right", "result", "table"],
        "Pairing.by_parts": ["target"],
        "Pairing.__call__": ["v", "w"],
        "Pairing.__eq__": ["other"],
        "Pairing.__add__": ["other"],
        "Pairing.__neg__": [],
        "Pairing.__mul__": ["factor"],
        "Pairing.__rmul__": ["factor"],
        "Pairing.flipped": [],
        "number_of_pairings": ["left", "right", "result"],
        "all_pairings": ["left", "right", "result"],
        "product": ["f", "g", "pairing"],
    },
    "composing": {
        "compose": ["f", "g"],
        "indicator": ["group", "target", "places", "value"],
    },
    "zeros": {
        "common_zeros": ["group", "maps"],
        "solution_counts": ["group", "maps"],
        "value_degree": ["target", "prime", "exponent"],
        "promised_exponent": ["group", "prime", "conditions"],
    },
    "coordinates": {
        "weight_basis": ["group", "prime"],
        "exponents_of": ["group", "prime", "element"],
        "element_of": ["group", "prime", "exponents"],
        "coordinate_maps": ["group", "prime"],
        "basis_sum": ["group", "prime", "exponents"],
    },
    "polynomials": {
        "coefficients_of": ["f"],
        "from_coefficients": ["group", "prime", "coefficients"],
        "weight_of": ["group", "prime", "exponents"],
    },
    "series": {
        "binomial": ["top", "bottom"],
        "Series": ["modulus", "coefficients"],
        "Series.from_values": ["values", "modulus"],
        "Series.__call__": ["x"],
        "Series.__eq__": ["other"],
        "Series.__add__": ["other"],
        "Series.__sub__": ["other"],
        "Series.__mul__": ["other"],
        "Series.__neg__": [],
        "Series.difference": ["by=1"],
        "Series.running_sum": [],
        "Series.degree": [],
        "Series.period": [],
    },
    "desk": {
        "Desk": ["group", "target", "bound"],
        "Desk.bound": [],
        "Desk.undo_count": [],
        "Desk.tell": ["element", "value"],
        "Desk.tell_all": ["pairs"],
        "Desk.forget": ["element"],
        "Desk.change_bound": ["bound"],
        "Desk.undo": [],
        "Desk.told": [],
        "Desk.places": [],
        "Desk.remaining": [],
        "Desk.settled": [],
        "Desk.image": ["element"],
        "Desk.least": [],
        "Desk.maps": [],
    },
    "worlds": {
        "World": ["group", "target"],
        "World.define": ["name", "f"],
        "World.drop": ["name"],
        "World.map_of": ["name"],
        "World.__contains__": ["name"],
        "World.__iter__": [],
        "write_world": ["world"],
        "read_world": ["text"],
    },
    "questions": {"run": ["text"]},
}


class InterfaceTest(unittest.TestCase):
    def test_names_and_arguments(self):
        for module, wanted in INTERFACE.items():
            tree = ast.parse((PACKAGE / f"{module}.py").read_text(encoding="utf-8"))
            found = {}
            for node in tree.body:
                if isinstance(node, ast.FunctionDef):
                    found[node.name] = self.arguments(node, False)
                elif isinstance(node, ast.ClassDef):
                    for part in node.body:
                        if isinstance(part, ast.FunctionDef):
                            name = f"{node.name}.{part.name}"
                            found[name.replace(".__init__", "")] = self.arguments(part, True)
            for name, arguments in wanted.items():
                self.assertEqual(found.get(name), arguments, (module, name))

    def arguments(self, node, in_class):
        names = [part.arg for part in node.args.args]
        for at, value in enumerate(node.args.defaults, len(names) - len(node.args.defaults)):
            names[at] += "=" + ast.unparse(value)
        if in_class and "staticmethod" not in [ast.unparse(part) for part in node.decorator_list]:
            names = names[1:]
        if node.args.vararg:
            names.append("*" + node.args.vararg.arg)
        return names + ["=" + part.arg for part in node.args.kwonlyargs]


if __name__ == "__main__":
    unittest.main()
