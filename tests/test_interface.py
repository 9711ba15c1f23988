"""The names, arguments and places of the interface, as far as it is built."""
import importlib
import inspect
import unittest

FUNCTIONS = {
    "words": {
        "result": "op width widths words low=0", "to_bits": "width word", "from_bits": "bits",
        "split_ports": "ports words", "join_ports": "ports bits",
    },
    "tokens": {"tokens_of": "text"},
    "reading": {"read_design": "text"},
    "writing": {"write_design": "design", "write_expr": "expr", "write_const": "const"},
    "consts": {"const_value": "const numbers"},
    "flatten": {"flatten": "design numbers=()"},
    "widths": {"width_of": "flat expr"},
    "rings": {"shortest_ring": "links"},
    "check": {"check": "flat"},
    "graphs": {"is_graph": "graph", "is_lean": "graph"},
    "graphof": {"graph_of": "flat"},
    "codes": {"judge_codes": "graph paper", "recoded": "graph paper", "code_paper": "graph style"},
    "nets": {"is_net": "net", "heights": "net", "support": "net nodes"},
    "tidy": {"tidied": "net", "bared": "net"},
    "netof": {"net_of": "graph shapes=('ripple','rows','steps','halves')"},
    "rewriting": {"judge_rewriting": "net paper", "rewritten": "net paper"},
    "rewrites": {"rewrites": "net"},
    "balance": {"least_heights": "net", "balanced": "net"},
    "clauses": {"clauses_of": "net", "judge_refutation": "net given assumed steps"},
    "refuting": {"refutation": "net given assumed"},
    "merges": {"judge_merges": "net paper", "merged": "net paper"},
    "sweeping": {"merges_of": "net"},
    "bonds": {"judge_bonds": "net paper", "bonded": "net paper"},
    "bonding": {"bonds_of": "net"},
    "traces": {"held_of": "net", "traced": "net literal"},
    "lags": {"judge_lags": "net lags", "clock_of": "net lags"},
    "retiming": {"retimed": "net lags"},
    "leastclock": {"least_clock": "net", "judge_bar": "net clock bar"},
    "covers": {"judge_cover": "net k cover", "depth_of": "net cover"},
    "levels": {"levels": "net k"},
    "bars": {"level_bars": "net k", "judge_level_bars": "net k levels bars"},
    "covering": {"cover_of": "net k"},
    "tables": {"tables_of": "net cover"},
    "packing": {"judge_packing": "tables packing", "packing_of": "tables", "cells_of": "tables packing"},
    "fabrics": {"tiles_of": "fabric", "pads_of": "fabric", "entering": "fabric x y side track"},
    "places": {
        "judge_places": "fabric cells places", "length_of": "cells places", "is_good": "fabric cells places",
    },
    "placing": {"place": "fabric cells seed=0"},
    "routes": {
        "source_of": "fabric cells places routes x y selector", "judge_routes": "fabric cells places routes",
    },
    "combs": {"comb_loads": "cells places"},
    "routing": {"route": "fabric cells places"},
    "configs": {"config_of": "fabric cells places routes"},
    "frames": {"frame_of": "data", "read_frame": "many frame"},
    "streams": {"stream_of": "config", "inspected": "stream", "mended": "stream", "configured": "stream"},
    "times": {
        "told_clock": "stream outputs delays", "slow_path": "stream outputs delays",
        "judge_slow_path": "stream outputs delays clock path",
    },
    "comparing": {"compared": "net other", "judge_pairs": "net other pairs"},
    "claims": {"decided": "net name", "judge_states": "net name states"},
    "joint": {"joint_net": "net other", "judge_joint": "net other paper", "joint": "net other"},
    "passes": {"passed": "net word"},
    "flow": {"build": "design numbers settings", "build_text": "text numbers settings"},
}
CLASSES = {
    "treeruns": ("DesignRun", "design numbers=()", "beat beats"),
    "beats": ("FlatRun", "flat", "beat beats state resume trial tried"),
    "graphruns": ("GraphRun", "graph", "beat beats state resume"),
    "netruns": ("NetRun", "net", "beat beats state resume trial tried"),
    "tables": ("TablesRun", "tables", "beat beats state resume"),
    "cellruns": ("CellsRun", "cells", "beat beats state resume"),
    "device": ("Device", "stream inputs outputs", "beat beats state resume trial tried of"),
    "clocked": ("Clocked", "stream inputs outputs delays period noise=0", "beat beats of"),
}
CLASS_METHODS = {"Device": "build", "Clocked": "build period=0 noise=0"}
METHODS = {"beat": "given", "beats": "rows", "resume": "state", "trial": "", "tried": "rows"}


def told(function, skipped=0):
    rows = list(inspect.signature(function).parameters.values())[skipped:]
    return " ".join(str(row).replace(" ", "") for row in rows)


class InterfaceTest(unittest.TestCase):
    def test_functions(self):
        for file, functions in FUNCTIONS.items():
            module = importlib.import_module(f"beatfabric.{file}")
            for name, parameters in functions.items():
                function = getattr(module, name)
                self.assertEqual(function.__module__, f"beatfabric.{file}")
                self.assertEqual(told(function), parameters, name)

    def test_keywords(self):
        """The seed is passed by name."""
        seed = inspect.signature(importlib.import_module("beatfabric.placing").place).parameters["seed"]
        self.assertEqual(seed.kind, inspect.Parameter.KEYWORD_ONLY)

    def test_what_is_not_there(self):
        """Runs that have no state have nothing of that name."""
        for file, name in (("treeruns", "DesignRun"), ("clocked", "Clocked")):
            kind = getattr(importlib.import_module(f"beatfabric.{file}"), name)
            self.assertFalse(hasattr(kind, "state") or hasattr(kind, "resume"))

    def test_classes(self):
        for file, (name, parameters, methods) in CLASSES.items():
            kind = getattr(importlib.import_module(f"beatfabric.{file}"), name)
            self.assertEqual(kind.__module__, f"beatfabric.{file}")
            self.assertEqual(told(kind), parameters)
            for method in methods.split():
                self.assertIn(method, vars(kind), f"{name}.{method}")
                if method == "state":
                    self.assertIsInstance(vars(kind)[method], property)
                    self.assertIsNotNone(vars(kind)[method].fset)
                elif method == "of":
                    self.assertIsInstance(vars(kind)[method], classmethod)
                    self.assertEqual(told(getattr(kind, method)), CLASS_METHODS[name])
                else:
                    self.assertEqual(told(vars(kind)[method], 1), METHODS[method])
            self.assertTrue(inspect.isgeneratorfunction(vars(kind)["beats"]))


if __name__ == "__main__":
    unittest.main()
