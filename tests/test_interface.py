"""Point [2] and the interface: all is there under its name, with its arguments."""

import importlib
import inspect
import unittest

FUNCTIONS = {
    "kinds": {"depth": ["kind"], "named": ["saying"], "within": ["kind"]},
    "worlds": {"members": ["world", "kind"], "keeps": ["world", "saying"], "broken": ["world", "sayings"]},
    "words": {"is_name": ["text"], "is_thing": ["text"], "show_kind": ["kind"], "read_kind": ["text"]},
    "texts": {"show": ["saying"], "read": ["text"]},
    "plain": {"plain": ["kind"], "plain_saying": ["saying"]},
    "rules": {"right": ["steps", "at", "pairs"], "stands": ["steps", "pairs"]},
    "stills": {"still": ["pairs", "starts", "further", "steps=None"]},
    "papers": {"paper": ["steps", "fact"]},
    "small": {"small_world": ["steps", "starts"]},
    "answers": {"goal": ["question"], "follows": ["pairs", "question"], "answer": ["pairs", "question"]},
    "least": {"least": ["pairs", "question", "most"], "cuts": ["pairs", "question", "most"]},
}
METHODS = {
    ("desk", "Desk"): {"put": ["saying"], "take": ["number"], "said": [], "ask": ["question"],
                       "least": ["question", "most"], "cuts": ["question", "most"], "table": []},
    ("clerk", "Clerk"): {"say": ["row"]},
}
REFUSALS = ["NoText", "NoFact", "NoQuestion", "NoSaying", "TooMany", "NoRow"]


def arguments(function):
    return [str(parameter) for parameter in inspect.signature(function).parameters.values()]


class Interface(unittest.TestCase):
    def module(self, name):
        return importlib.import_module(f"kinwords.{name}")

    def test_functions(self):
        for name, functions in FUNCTIONS.items():
            for word, wanted in functions.items():
                self.assertEqual(arguments(getattr(self.module(name), word)), wanted, word)

    def test_classes(self):
        for (name, word), methods in METHODS.items():
            made = getattr(self.module(name), word)()
            for method, wanted in methods.items():
                self.assertEqual(arguments(getattr(made, method)), wanted, method)

    def test_refusals(self):
        errors = self.module("errors")
        self.assertEqual(errors.KinError.__bases__, (ValueError,))
        for word in REFUSALS:
            self.assertEqual(getattr(errors, word).__bases__, (errors.KinError,), word)


if __name__ == "__main__":
    unittest.main()
