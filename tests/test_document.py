"""The whole interface, and the examples of the document where it lies beside the project."""

import ast
import importlib
import inspect
import pathlib
import re
import unittest

from anyplaces import errors
from anyplaces.store import Store
from tests.calls import FILES, right_calls

DOCUMENT = pathlib.Path(__file__).resolve().parent.parent.parent / "shared" / "DOC.md"
METHODS = {
    "width": [], "places": [], "count": [], "known": [], "do": ["deed"], "undo": [], "redo": [], "log": [], "copy": [],
    "choices": [], "told": [],
}
CLASS_ROW = "anyplaces.errors"


def listed_names():
    """For each module of the interface its names, with their arguments where these are told."""
    rows = re.findall(r"^\| (anyplaces\.\w+) \| (.*) \|$", DOCUMENT.read_text().split("# The interface")[1], re.M)
    return {name: [text.strip("`") for text in re.findall(r"`[^`]*`", told)] for name, told in rows}


def blocks():
    return re.findall(r"^```\n(.*?)^```", DOCUMENT.read_text(), re.M | re.S)


class TestStoreMethods(unittest.TestCase):
    def test_names_and_arguments(self):
        self.assertEqual(list(inspect.signature(Store).parameters), ["width", "places", "count"])
        for name, arguments in METHODS.items():
            method = vars(Store)[name]
            self.assertEqual(list(inspect.signature(method).parameters)[1:], arguments, name)
            self.assertEqual(method.__module__, "anyplaces.store")

    def test_by_name(self):
        store = Store(width=3, places=[0, 1], count=2)
        self.assertIsNone(store.do(deed=("set", 0, 5)))
        self.assertEqual(store.known(), [(0, 5)])


@unittest.skipUnless(DOCUMENT.exists(), "the document is not here")
class TestInterface(unittest.TestCase):
    def test_all_names(self):
        called = {function.__name__: list(arguments) for function, arguments in right_calls()}
        for name, texts in listed_names().items():
            module = importlib.import_module(name)
            if name == CLASS_ROW:
                self.assertEqual(set(texts), {one for one in vars(errors) if inspect.isclass(getattr(errors, one))})
                continue
            if name == "anyplaces.store":
                self.assertEqual([text.split("(")[0] for text in texts[1:-1]], list(METHODS))
                self.assertEqual([re.findall(r"\w+", text)[1:] for text in texts[1:-1]], list(METHODS.values()))
                texts = [texts[0], texts[-1]]
            self.assertEqual({text.split("(")[0] for text in texts}, {one.__name__ for one in FILES[name]})
            for text in texts:
                one, *arguments = re.findall(r"\w+", text)
                self.assertEqual(called[one], arguments, text)
                self.assertEqual(getattr(module, one).__module__, name)

    def test_all_modules(self):
        self.assertEqual(set(listed_names()), {*FILES, CLASS_ROW})


@unittest.skipUnless(DOCUMENT.exists(), "the document is not here")
class TestExamples(unittest.TestCase):
    def test_all_of_them(self):
        compared = 0
        for block in blocks():
            known, answer = {}, None
            for line in block.splitlines():
                if line.startswith("# "):
                    self.assertEqual(repr(answer), repr(ast.literal_eval(line[2:])), block)
                    compared += 1
                elif line.startswith("["):
                    answer = eval(line, known)
                else:
                    exec(line, known)
        self.assertGreater(compared, 60)


if __name__ == "__main__":
    unittest.main()
