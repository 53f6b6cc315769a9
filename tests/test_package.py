"""The interface: the package, and the file of each name."""

import inspect
import pathlib
import subprocess
import sys
import unittest

import foldchains
from foldchains import chains, feeds, likeness, running, tables, texts

FOLDER = pathlib.Path(foldchains.__file__).parent

FUNCTIONS = (
    (chains, "is_chain", ["value"]),
    (texts, "format_chain", ["chain"]),
    (texts, "parse_chain", ["text"]),
    (running, "run", ["chain", "row"]),
    (tables, "form", ["chain"]),
    (likeness, "same", ["chain", "other"]),
    (likeness, "parting", ["chain", "other"]),
    (likeness, "mix", ["chain", "row"]),
    (likeness, "sizes", ["chain"]),
    (likeness, "gives_nothing", ["chain"]),
    (likeness, "gives_as_many", ["chain"]),
    (likeness, "needless", ["chain"]),
    (likeness, "thinned", ["chain"]),
    (likeness, "exchangeable", ["chain"]),
    (likeness, "joined", ["chain", "other"]),
)

METHODS = (
    ("__init__", ["self", "chain"]),
    ("put", ["self", "number"]),
    ("undo", ["self"]),
    ("redo", ["self"]),
    ("row", ["self"]),
    ("given", ["self"]),
    ("__len__", ["self"]),
    ("__eq__", ["self", "other"]),
)


class PackageTest(unittest.TestCase):
    def test_init_defines_no_names(self):
        names = {"__name__": "foldchains"}
        exec((FOLDER / "__init__.py").read_text(encoding="utf-8"), names)
        self.assertEqual(set(names) - {"__name__", "__builtins__", "__doc__"}, set())

    def test_importing_the_package_alone_brings_no_names(self):
        code = "import foldchains; print([n for n in vars(foldchains) if n[:2] != '__'])"
        done = subprocess.run([sys.executable, "-c", code], cwd=FOLDER.parent,
                              capture_output=True, text=True, check=True)
        self.assertEqual(done.stdout.strip(), "[]")

    def test_each_function_is_defined_in_its_file(self):
        for module, name, parameters in FUNCTIONS:
            with self.subTest(name):
                function = getattr(module, name)
                self.assertTrue(inspect.isfunction(function))
                self.assertEqual(function.__module__, module.__name__)
                self.assertEqual(list(inspect.signature(function).parameters), parameters)

    def test_the_class_is_defined_in_its_file_with_its_methods(self):
        self.assertTrue(inspect.isclass(feeds.Feed))
        self.assertEqual(feeds.Feed.__module__, "foldchains.feeds")
        for name, parameters in METHODS:
            with self.subTest(name):
                method = vars(feeds.Feed)[name]
                self.assertTrue(inspect.isfunction(method))
                self.assertEqual(list(inspect.signature(method).parameters), parameters)

    def test_no_tests_inside_the_package(self):
        self.assertEqual(list(FOLDER.rglob("test*")), [])


if __name__ == "__main__":
    unittest.main()
