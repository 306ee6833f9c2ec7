"""The names and arguments of the interface, module by module."""

FUNCTIONS = {
    "residues": {
        "inverse": "(number)",
        "dot": "(first, second)",
        "combine": "(coefficients, rows, width)",
        "independent_indexes": "(rows)",
        "independent": "(rows)",
        "relation": "(rows)",
    },
    "lots": {
        "choices": "(count, size)",
        "all_asks": "(count, most)",
        "is_lot": "(lot, count)",
        "apart": "(lot, other)",
        "joined": "(lot, other)",
        "without": "(lot, other)",
        "rank": "(item)",
        "ranked": "(items)",
        "format_item": "(item)",
        "parse_item": "(line)",
        "format_items": "(items)",
        "parse_items": "(text)",
    },
    "schemes": {
        "minors": "(rows, columns)",
        "kept_list": "(scheme, items)",
        "first_fit": "(scheme, items, ask)",
    },
    "dets": {
        "signed_orders": "(count)",
        "det_by_orders": "(rows)",
        "determinant": "(rows)",
        "difference_product": "(numbers)",
    },
    "fills": {
        "fill": "(table, things)",
        "whole_determinant": "(table, things, columns=())",
    },
    "growing": {
        "grow": "(items, thing, worth)",
        "grow_all": "(items, others)",
        "staged_lists": "(table, stages)",
    },
    "kinds": {
        "direct_sum": "(tables)",
    },
    "roots": {
        "exponents": "(size, most)",
        "root_polynomial": "(numbers)",
    },
    "judging": {
        "judge_paper": "(scheme, item, paper)",
        "judge_deeds": "(scheme, deeds)",
    },
    "accounts": {
        "settle": "(scheme, deeds)",
    },
    "clashes": {
        "clash": "(scheme, lot, ask)",
        "judge_clash": "(scheme, lot, ask, numbers)",
    },
    "asking": {
        "profile": "(scheme, items)",
        "answer": "(account, ask)",
        "judge_answer": "(scheme, items, ask, told)",
    },
    "least": {
        "least_list": "(scheme, items)",
        "witnesses": "(scheme, items)",
        "serves": "(scheme, few, items)",
    },
    "pairs": {
        "is_skew": "(scheme, pairs)",
        "skew_matrix": "(scheme, pairs)",
        "all_pairs": "(size, spare)",
        "beyond": "(size, spare)",
    },
    "makers": {
        "web_table": "(places, edges, *, root=0)",
        "is_forest": "(places, edges, chosen)",
        "dearest_forest": "(places, edges, worths)",
        "box_table": "(boxes, columns)",
    },
    "contracting": {
        "contract": "(table, lot)",
        "narrowed_list": "(table, size, items, known)",
        "cut_columns": "(table, columns)",
    },
    "logs": {
        "format_line": "(items)",
        "parse_line": "(line)",
        "whole_part": "(text)",
        "whole_lines": "(text)",
        "recover": "(scheme, text)",
        "compacted": "(scheme, text)",
    },
    "ways": {
        "way_lists": "(web, table, count, *, start=None)",
        "trace": "(web, lists, place, item)",
        "best_way": "(web, table, count, *, end=None)",
    },
    "rounds": {
        "best_round": "(web, table, count)",
    },
    "waybooks": {
        "way_book": "(web, table, count)",
        "judge_way_book": "(web, table, count, book)",
    },
    "packs": {
        "pack_lists": "(table, size, items, count)",
        "best_packing": "(table, size, items, count)",
        "packings": "(table, items, count)",
        "packing_within": "(table, items, count)",
    },
    "meetings": {
        "meets": "(items, things)",
        "minimal_meetings": "(items, most)",
        "cheapest_meeting": "(items, costs, most)",
        "meeting_kernel": "(items, things, size, most)",
    },
    "deskwords": {
        "format_paper": "(paper)",
        "parse_paper": "(text)",
        "answer_lines": "(told)",
        "read_answer": "(lines)",
    },
}

# The methods that stand in the class itself; None for those whose arguments are not compared.
CLASSES = {
    "tables": {
        "Table": {
            "__init__": "(self, rows, columns)",
            "points": None,
            "plain": None,
            "row": "(self, thing)",
            "rows_of": "(self, things)",
            "free": "(self, things)",
            "show": "(self)",
        },
    },
    "schemes": {
        "Scheme": {
            "__init__": "(self, table, size)",
            "check": "(self, lot)",
            "check_ask": "(self, ask)",
            "row": "(self, lot)",
            "corow": "(self, ask)",
            "pairing": "(self, lot, ask)",
            "fits": "(self, lot, ask)",
        },
    },
    "wedges": {
        "Wedge": {
            "__init__": "(self, columns, size, parts)",
            "of_rows": None,
            "__xor__": "(self, other)",
            "__add__": "(self, other)",
            "__sub__": "(self, other)",
            "__neg__": "(self)",
            "__mul__": "(self, other)",
            "__eq__": "(self, other)",
            "__bool__": "(self)",
            "__iter__": "(self)",
            "part": "(self, chosen)",
            "whole": None,
        },
    },
    "kinds": {
        "Kinds": {
            "__init__": "(self, tables, sizes)",
            "check": "(self, lot)",
            "check_ask": "(self, ask)",
            "row": "(self, lot)",
            "corow": "(self, ask)",
            "shares": "(self, things)",
        },
    },
    "roots": {
        "Roots": {
            "__init__": "(self, numbers, size, spare)",
            "row": "(self, lot)",
            "corow": "(self, ask)",
        },
    },
    "spans": {
        "Span": {
            "__init__": "(self, width, rows=())",
            "rows": None,
            "coefficients": "(self, row)",
            "add": "(self, row)",
            "replace": "(self, index, row)",
            "__len__": "(self)",
            "__contains__": None,
        },
    },
    "keeping": {
        "Keeper": {
            "__init__": "(self, scheme, items=())",
            "take": "(self, worth, lot)",
            "take_all": "(self, *items)",
            "__iter__": "(self)",
            "__len__": "(self)",
            "__contains__": None,
            "__or__": "(self, other)",
            "bound": None,
            "room": None,
            "first": "(self, ask)",
            "copy": "(self)",
            "trial": "(self, items)",
        },
    },
    "accounts": {
        "Account": {
            "__init__": "(self, scheme)",
            "take": "(self, worth, lot)",
            "kept": "(self)",
            "known": "(self)",
            "paper": "(self, item)",
            "papers": "(self)",
            "deeds": "(self)",
        },
    },
    "asking": {
        "Asker": {
            "__init__": "(self, scheme, items)",
            "__call__": "(self, ask)",
            "asked": None,
        },
    },
    "boards": {
        "Board": {
            "__init__": "(self, scheme, items=())",
            "take": "(self, worth, lot)",
            "first": "(self, ask)",
            "asks_of": "(self, item)",
            "__iter__": "(self)",
            "__len__": "(self)",
            "__or__": "(self, other)",
        },
    },
    "makers": {
        "Components": {
            "__init__": "(self, places)",
            "connect": "(self, u, v)",
            "component": "(self, place)",
            "__iter__": "(self)",
            "__len__": "(self)",
            "__contains__": None,
        },
    },
    "houses": {
        "Houses": {
            "__init__": "(self, scheme, count)",
            "__len__": "(self)",
            "letters": None,
            "take": "(self, house, worth, lot)",
            "send": "(self, house)",
            "deliver": "(self, house, letter)",
            "settle": "(self, house)",
            "compact": "(self, house)",
            "crash": "(self, house, lost=0)",
            "rise": "(self, house)",
            "exchange": "(self)",
            "kept": "(self, house)",
            "answer": "(self, house, ask)",
            "log": "(self, house)",
            "is_up": "(self, house)",
        },
    },
    "webs": {
        "Web": {
            "__init__": "(self, places, steps)",
            "steps": None,
            "__invert__": "(self)",
            "after": "(self, place)",
            "before": "(self, place)",
            "worth_of": "(self, u, v)",
            "is_way": "(self, way)",
            "way_worth": "(self, way)",
            "all_ways": "(self, count)",
        },
    },
    "desk": {
        "Desk": {
            "__init__": "(self, scheme)",
            "run": "(self, line)",
            "run_text": "(self, text)",
            "journal": None,
            "again": None,
        },
    },
}
