"""The names, arguments and places of the interface, as far as it is built."""
import importlib
import inspect
import unittest

FUNCTIONS = {
    "words": {
        "result": "op width widths words low=0", "to_bits": "width word", "from_bits": "bits",
        "split_ports": "ports words", "join_ports": "ports bits",
    },
    "tokens": {"tokens_of": "text"},
    "reading": {"read_design": "text"},
    "writing": {"write_design": "design", "write_expr": "expr", "write_const": "const"},
    "consts": {"const_value": "const numbers"},
    "flatten": {"flatten": "design numbers=()"},
    "widths": {"width_of": "flat expr"},
    "rings": {"shortest_ring": "links"},
    "check": {"check": "flat"},
    "graphs": {"is_graph": "graph", "is_lean": "graph"},
    "graphof": {"graph_of": "flat"},
    "codes": {"judge_codes": "graph paper", "recoded": "graph paper", "code_paper": "graph style"},
    "nets": {"is_net": "net", "heights": "net", "support": "net nodes"},
    "tidy": {"tidied": "net", "bared": "net"},
}
CLASSES = {
    "treeruns": ("DesignRun", "design numbers=()", "beat beats"),
    "beats": ("FlatRun", "flat", "beat beats state resume trial tried"),
    "graphruns": ("GraphRun", "graph", "beat beats state resume"),
    "netruns": ("NetRun", "net", "beat beats state resume trial tried"),
}
METHODS = {"beat": "given", "beats": "rows", "resume": "state", "trial": "", "tried": "rows"}


def told(function, skipped=0):
    rows = list(inspect.signature(function).parameters.values())[skipped:]
    return " ".join(str(row).replace(" ", "") for row in rows)


class InterfaceTest(unittest.TestCase):
    def test_functions(self):
        for file, functions in FUNCTIONS.items():
            module = importlib.import_module(f"beatfabric.{file}")
            for name, parameters in functions.items():
                function = getattr(module, name)
                self.assertEqual(function.__module__, f"beatfabric.{file}")
                self.assertEqual(told(function), parameters, name)

    def test_classes(self):
        for file, (name, parameters, methods) in CLASSES.items():
            kind = getattr(importlib.import_module(f"beatfabric.{file}"), name)
            self.assertEqual(kind.__module__, f"beatfabric.{file}")
            self.assertEqual(told(kind), parameters)
            for method in methods.split():
                self.assertIn(method, vars(kind), f"{name}.{method}")
                if method == "state":
                    self.assertIsInstance(vars(kind)[method], property)
                    self.assertIsNotNone(vars(kind)[method].fset)
                else:
                    self.assertEqual(told(vars(kind)[method], 1), METHODS[method])
            self.assertTrue(inspect.isgeneratorfunction(vars(kind)["beats"]))


if __name__ == "__main__":
    unittest.main()
