"""The interface: names, arguments and where they are defined."""

import importlib
import inspect
import unittest

BOUNDS = "low=None, high=None, *, weight=1"

FUNCTIONS = {
    "readings": {
        "row_frame": "(rooms)", "ring_frame": "(rooms, total)", "stand_frame": "(rooms)",
        "row_levels": "(counts)", "row_counts": "(levels)",
        "stand_levels": "(counts)", "stand_counts": "(levels)",
        "run_claim": f"(start, stop, {BOUNDS})",
        "arc_claim": f"(boxes, total, start, length, {BOUNDS})",
        "count_claim": f"(box, {BOUNDS})", "lead_claim": f"(box, other, {BOUNDS})",
        "cell_run": "(kinds, box, kind=None)",
    },
    "lots": {
        "largest_lots": "(doubt, weights)", "least_sure_groups": "(doubt, weights)",
        "least_sets": "(sets)", "hitting_sets": "(sets)", "least_cover": "(doubt, weights)",
    },
    "exact": {"exact_counts": "(doubt, weights, values)", "parting_values": "(doubt, weights)"},
    "tables": {
        "closed_table": "(frame, claims=())", "in_table": "(table, levels)",
        "row_world": "(table, node)", "column_world": "(table, node)",
        "pinned_worlds": "(table, node, level)", "column_mix": "(table, shifts)",
        "least_of": "(worlds)", "greatest_of": "(worlds)",
        "middle_worlds": "(first, second)", "table_of": "(worlds)",
    },
    "chains": {
        "chain_end": "(frame, claims, start, chain)", "clash_ring": "(frame, claims)",
        "least_chain": "(frame, claims, first, second)",
    },
    "fitting": {"fitting_lots": "(hall)", "least_lots": "(hall)", "lightest_lot": "(hall)"},
    "spans": {
        "span": "(hall, first, second)", "possible_values": "(hall, first, second)", "hull": "(hall)",
        "verdict": "(hall, first, second, low=None, high=None)", "standings": "(hall)",
    },
    "carriers": {
        "carriers": "(hall, first, second, high)", "breakers": "(hall, first, second, high)",
    },
    "sheaves": {
        "sheaf": "(hall, first, second, high)", "accepts_sheaf": "(hall, first, second, high, papers)",
        "counter": "(hall, first, second, high)",
    },
    "holders": {
        "rank_in": "(levels, holders, node)", "rank_range": "(hall, holders, node)",
        "rank_worlds": "(hall, holders, node)", "sure_among": "(hall, holders, places)",
        "possible_among": "(hall, holders, places)", "shortfall": "(hall, group, node, lead=0)",
        "sum_range": "(hall, nodes)", "sum_worlds": "(hall, nodes)",
    },
    "shares": {"share_verdict": "(hall, holders, node, part, whole)"},
    "seats": {"seat_order": "(counts, seats, *, step=1)", "divide": "(counts, seats, *, step=1)"},
    "seatranges": {
        "seat_range": "(hall, holders, node, seats, *, step=1)",
        "seat_worlds": "(hall, holders, node, seats, *, step=1)",
        "sure_seats": "(hall, holders, seats, *, step=1)",
    },
    "grounds": {
        "holds_in": "(result, levels)", "grounds": "(hall, result)", "against": "(hall, result)",
    },
    "estimates": {
        "untrue_weight": "(estimates, value)", "weight_pieces": "(estimates, first, last)",
        "heaviest": "(estimates)", "fused": "(estimates, count)", "fused_under": "(estimates, doubt)",
        "middle_span": "(estimates)",
    },
    "ladders": {
        "ladders": "(estimates)", "accepts_ladders": "(estimates, rows)", "least_clash": "(estimates, count)",
    },
    "budgets": {
        "curve": "(estimates, room)", "price": "(curves, counts)", "total_prices": "(curves)",
        "cheapest_counts": "(curves, total)", "totals_within": "(curves, limit)",
    },
    "budgetranks": {
        "lead_price": "(curves, first, second, lead)", "rank_price": "(curves, box, rank)",
        "few_seats_price": "(curves, box, seats, most, *, step=1)",
        "many_seats_price": "(curves, box, seats, least, *, step=1)",
    },
    "flows": {
        "greatest_flow": "(size, arcs, start, goal)", "flow_chains": "(size, arcs, flows, start, goal)",
    },
    "comparisons": {
        "carried": "(size, comparisons, first, second)",
        "lesser_counts": "(size, comparisons, first, second, limit)",
        "group_strength": "(size, comparisons, group, node)",
    },
    "ties": {
        "tied": "(size, ties, first, second)", "strength_tree": "(size, ties)",
        "tree_strength": "(tree, first, second)", "borne": "(tree, first, second)",
    },
    "askings": {
        "cheapest_askings": "(size, offers, first, second, ways)",
        "askings_bound": "(offers, first, second, ways, levels)",
    },
    "growth": {
        "growth": "(claims, levels)", "flow_gap": "(frame, claims, flow)",
        "least_growth": "(frame, claims)", "cheapest_table": "(frame, claims)",
    },
    "growthcurve": {
        "growth_against": "(frame, claims, first, second, high)",
        "growth_curve": "(frame, claims, first, second)",
    },
    "even": {
        "even_growth": "(frame, claims, shares=None)", "even_fraction": "(frame, claims, shares=None)",
        "even_against": "(frame, claims, first, second, high, shares=None)",
    },
    "traffic": {"traffic": "(ledger, levels)", "least_traffic": "(ledger, claims)"},
    "plans": {"told_hall": "(plan, telling, doubt)"},
    "parting": {
        "parting": "(plan, doubt, first, second)", "parting_case": "(plan, doubt, first, second)",
    },
    "accounts": {
        "account_levels": "(size, accounts)", "suspects": "(size, accounts)",
        "corrected": "(size, accounts, index)", "suspect_ring": "(size, accounts)",
    },
    "hunts": {"hunt": "(size, accounts, prices=None)", "follow": "(tree, levels)"},
    "settling": {
        "settles": "(hall, first, second, high, start, goal)",
        "cheapest_settling": "(hall, first, second, high, offers)",
    },
    "texts": {
        "format_doubt": "(doubt)", "parse_doubt": "(text)", "format_hall": "(hall)", "parse_hall": "(text)",
    },
    "deeds": {"format_deeds": "(deeds)", "parse_deeds": "(text)"},
    "desk": {"replay": "(frame, text, *, doubt=None)"},
}

ALLOWS = {"allows": "(self, lot, weights)"}

CLASSES = {
    "runs": {"Runs": {
        "__init__": "(self, pairs)", "size": "(self)", "least": "(self)", "greatest": "(self)", "gaps": "(self)",
    }},
    "claims": {"Claim": {
        "__init__": f"(self, first, second, {BOUNDS})", "holds": "(self, levels)", "excess": "(self, levels)",
        "turned": "(self)", "widened": "(self, amount)", "parts": "(self)",
    }},
    "frames": {"Frame": {"__init__": "(self, size, rules)", "allows": "(self, levels)"}},
    "ledger": {"Ledger": {
        "__init__": "(self, rooms, last, *, gates=None)", "node": "(self, border, hour)",
        "levels_of": "(self, counts)", "counts_of": "(self, levels)",
        "passed": "(self, levels, border, since, until)",
        "sum_claim": f"(self, hour, start, stop, {BOUNDS})",
        "passage_claim": f"(self, border, since, until, {BOUNDS})",
    }},
    "doubts": {
        "Doubt": {}, "AtMost": {"__init__": "(self, count)", **ALLOWS},
        "Within": {"__init__": "(self, limit)", **ALLOWS}, "Lots": {"__init__": "(self, lots)", **ALLOWS},
        "Both": {"__init__": "(self, first, second)", **ALLOWS},
        "Either": {"__init__": "(self, first, second)", **ALLOWS},
    },
    "halls": {"Hall": {
        "__init__": "(self, frame, claims, *, doubt=None)", "untrue": "(self, levels)", "fits": "(self, levels)",
    }},
    "plans": {"Plan": {"__init__": "(self, size, limits, askings)"}},
    "desk": {"Desk": {
        "__init__": "(self, frame, *, doubt=None)", "__iter__": "(self)", "tell": f"(self, first, second, {BOUNDS})",
        "recount": "(self, first, second, value)", "correct": "(self, number, low=None, high=None)",
        "withdraw": "(self, number)", "set_doubt": "(self, doubt)", "undo": "(self)", "redo": "(self)",
        "standing": "(self)", "numbers": "(self)", "hall": "(self)", "span": "(self, first, second)",
        "verdict": "(self, first, second, low=None, high=None)", "standings": "(self)", "ranks": "(self, holders)",
        "settle": "(self, first, second, high, offers)", "least_lots": "(self)",
        "sheaf": "(self, first, second, high)", "attempt": "(self, deeds, first, second)", "deeds": "(self)",
        "journal": "(self)",
    }},
}


class InterfaceTest(unittest.TestCase):
    def test_functions(self):
        for file, functions in FUNCTIONS.items():
            module = importlib.import_module(f"counthall.{file}")
            for name, signature in functions.items():
                function = getattr(module, name)
                self.assertEqual(function.__module__, module.__name__)
                self.assertEqual(str(inspect.signature(function)), signature, name)

    def test_classes(self):
        for file, classes in CLASSES.items():
            module = importlib.import_module(f"counthall.{file}")
            for name, methods in classes.items():
                found = getattr(module, name)
                self.assertEqual(found.__module__, module.__name__)
                for method, signature in methods.items():
                    self.assertIn(method, vars(found), f"{name}.{method}")
                    self.assertEqual(str(inspect.signature(vars(found)[method])), signature, f"{name}.{method}")


if __name__ == "__main__":
    unittest.main()
