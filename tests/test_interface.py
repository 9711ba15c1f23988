"""The names, arguments and places of the interface, as far as it is built."""
import importlib
import inspect
import unittest

FUNCTIONS = {
    "words": {
        "result": "op width widths words low=0", "to_bits": "width word", "from_bits": "bits",
        "split_ports": "ports words", "join_ports": "ports bits",
    },
    "tokens": {"tokens_of": "text"},
    "reading": {"read_design": "text"},
    "writing": {"write_design": "design", "write_expr": "expr", "write_const": "const"},
    "consts": {"const_value": "const numbers"},
    "flatten": {"flatten": "design numbers=()"},
    "widths": {"width_of": "flat expr"},
    "rings": {"shortest_ring": "links"},
    "check": {"check": "flat"},
    "graphs": {"is_graph": "graph", "is_lean": "graph"},
    "graphof": {"graph_of": "flat"},
    "codes": {"judge_codes": "graph paper", "recoded": "graph paper", "code_paper": "graph style"},
    "nets": {"is_net": "net", "heights": "net", "support": "net nodes"},
    "tidy": {"tidied": "net", "bared": "net"},
    "netof": {"net_of": "graph shapes=('ripple','rows','steps','halves')"},
    "rewriting": {"judge_rewriting": "net paper", "rewritten": "net paper"},
    "rewrites": {"rewrites": "net"},
    "balance": {"least_heights": "net", "balanced": "net"},
    "clauses": {"clauses_of": "net", "judge_refutation": "net given assumed steps"},
    "refuting": {"refutation": "net given assumed"},
    "merges": {"judge_merges": "net paper", "merged": "net paper"},
    "sweeping": {"merges_of": "net"},
    "bonds": {"judge_bonds": "net paper", "bonded": "net paper"},
    "bonding": {"bonds_of": "net"},
    "traces": {"held_of": "net", "traced": "net literal"},
    "lags": {"judge_lags": "net lags", "clock_of": "net lags"},
    "retiming": {"retimed": "net lags"},
    "leastclock": {"least_clock": "net", "judge_bar": "net clock bar"},
    "covers": {"judge_cover": "net k cover", "depth_of": "net cover"},
    "levels": {"levels": "net k"},
    "bars": {"level_bars": "net k", "judge_level_bars": "net k levels bars"},
    "covering": {"cover_of": "net k"},
    "tables": {"tables_of": "net cover"},
}
CLASSES = {
    "treeruns": ("DesignRun", "design numbers=()", "beat beats"),
    "beats": ("FlatRun", "flat", "beat beats state resume trial tried"),
    "graphruns": ("GraphRun", "graph", "beat beats state resume"),
    "netruns": ("NetRun", "net", "beat beats state resume trial tried"),
    "tables": ("TablesRun", "tables", "beat beats state resume"),
}
METHODS = {"beat": "given", "beats": "rows", "resume": "state", "trial": "", "tried": "rows"}


def told(function, skipped=0):
    rows = list(inspect.signature(function).parameters.values())[skipped:]
    return " ".join(str(row).replace(" ", "") for row in rows)


class InterfaceTest(unittest.TestCase):
    def test_functions(self):
        for file, functions in FUNCTIONS.items():
            module = importlib.import_module(f"beatfabric.{file}")
            for name, parameters in functions.items():
                function = getattr(module, name)
                self.assertEqual(function.__module__, f"beatfabric.{file}")
                self.assertEqual(told(function), parameters, name)

    def test_classes(self):
        for file, (name, parameters, methods) in CLASSES.items():
            kind = getattr(importlib.import_module(f"beatfabric.{file}"), name)
            self.assertEqual(kind.__module__, f"beatfabric.{file}")
            self.assertEqual(told(kind), parameters)
            for method in methods.split():
                self.assertIn(method, vars(kind), f"{name}.{method}")
                if method == "state":
                    self.assertIsInstance(vars(kind)[method], property)
                    self.assertIsNotNone(vars(kind)[method].fset)
                else:
                    self.assertEqual(told(vars(kind)[method], 1), METHODS[method])
            self.assertTrue(inspect.isgeneratorfunction(vars(kind)["beats"]))


if __name__ == "__main__":
    unittest.main()
