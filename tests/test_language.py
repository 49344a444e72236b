"""Some rules of the language that are easily broken unseen: L1, L2, L10, L12, L14, L15, L17, L18, L20."""

import ast
import builtins
import pathlib
import re
import unittest

PACKAGE = pathlib.Path(__file__).resolve().parent.parent / "keyorders"
FILES = sorted(PACKAGE.glob("*.py"))
BARRED = re.compile(r"\b(type|typing|typing_extensions|enum|Enum|IntEnum|StrEnum|Flag|IntFlag|Generic|Protocol|ABC|"
                    r"ABCMeta|namedtuple|NamedTuple|TypedDict|TYPE_CHECKING|abstractmethod)\b|dataclass|overload|"
                    r"contextmanager")


def nodes(path):
    return list(ast.walk(ast.parse(path.read_text())))


class Language(unittest.TestCase):
    def test_the_folder_contains_only_python_files(self):
        others = [path.name for path in PACKAGE.iterdir() if path not in FILES and path.name != "__pycache__"]
        self.assertEqual(others, [])
        self.assertIn(PACKAGE / "__init__.py", FILES)

    def test_sizes_and_signs(self):
        for path in FILES:
            lines = path.read_text().split("\n")
            self.assertLessEqual(len(lines), 400, path)
            for line in lines:
                self.assertLessEqual(len(line), 120, (path, line))
                self.assertTrue(all(" " <= sign <= "~" for sign in line), (path, line))
                self.assertIsNone(BARRED.search(line), (path, line))
            for node in nodes(path):
                if isinstance(node, ast.FunctionDef):
                    self.assertLessEqual(node.end_lineno - node.lineno + 1, 40, (path, node.name))

    def test_imports_are_of_the_package_by_full_names(self):
        for path in FILES:
            for node in nodes(path):
                self.assertNotIsInstance(node, ast.Import, path)
                if isinstance(node, ast.ImportFrom):
                    self.assertEqual((node.level, node.module.split(".")[0]), (0, "keyorders"), path)

    def test_names(self):
        for path in FILES:
            imported = {alias.name for node in nodes(path) if isinstance(node, ast.ImportFrom) for alias in node.names}
            taken = imported | set(dir(builtins))
            for node in nodes(path):
                if isinstance(node, ast.Name) and isinstance(node.ctx, ast.Store):
                    self.assertNotIn(node.id, taken, path)
                    self.assertFalse(node.id.startswith("_"), (path, node.id))
                if isinstance(node, ast.arg):
                    self.assertNotIn(node.arg, taken, path)

    def test_is_stands_only_with_none_and_truths(self):
        for path in FILES:
            for node in nodes(path):
                if isinstance(node, ast.Compare) and any(isinstance(op, (ast.Is, ast.IsNot)) for op in node.ops):
                    self.assertIn(ast.unparse(node.comparators[-1]), ("None", "True", "False"), path)

    def test_no_name_is_both_a_method_and_an_attribute(self):
        methods, attributes = set(), set()
        for node in [node for path in FILES for node in nodes(path)]:
            if isinstance(node, ast.ClassDef):
                methods |= {part.name for part in node.body if isinstance(part, ast.FunctionDef)}
            if isinstance(node, ast.Attribute) and isinstance(node.ctx, ast.Store):
                attributes.add(node.attr)
        self.assertEqual(methods & attributes, set())
        self.assertEqual(attributes & set(dir(str) + dir(int) + dir(list) + dir(dict) + dir(set) + dir(bytes)), set())
