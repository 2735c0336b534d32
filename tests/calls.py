"""Checks that hold for each call of a function of the interface, whatever it does."""

import copy
import inspect

from slow import lists, only_tuples


def outcome(function, places, names):
    """What a call comes to: its value, or its error with the values in the brackets."""
    try:
        return ("value", function(*places, **names))
    except (LookupError, ValueError) as error:
        return ("error", error.__class__, dict(vars(error)))


def check_call(test, function, *args):
    """Calls the function in all the ways in which it may be called, and compares what comes of them."""
    names = list(inspect.signature(function).parameters)
    test.assertEqual(len(names), len(args), function.__name__)
    first = outcome(function, args, {})
    ways = [args]
    for k in range(len(args)):
        if names[k] != "thing":
            ways.append(args[:k] + (lists(args[k]),) + args[k + 1:])
    ways.append(tuple(arg if name == "thing" else lists(arg) for name, arg in zip(names, args)))
    for way in ways:
        kept = copy.deepcopy(way)
        test.assertEqual(outcome(function, way, {}), first, function.__name__)
        test.assertEqual(outcome(function, (), dict(zip(names, way))), first, function.__name__)
        test.assertEqual(way, kept, function.__name__)
    check_result(test, function, args, first)
    return first


# Those of which the document says that they return a list, or several results without naming a tuple.
LISTS = (
    "drawings", "all_orders", "alike_samples", "apart_lots", "seatings", "least_kinds", "moves", "nought_basis",
    "layers_at", "layer_shares", "root_parts", "error_parts", "ways", "verdicts", "desk")


def check_result(test, function, args, first):
    if first[0] == "error":
        return
    out = first[1]
    test.assertEqual(isinstance(out, list), function.__name__ in LISTS, function.__name__)
    if isinstance(out, list):
        again = function(*args)
        test.assertIsNot(again, out)
        test.assertEqual(again, out)
        out.append("more")
        test.assertEqual(function(*args), again)
        out.pop()
        test.assertTrue(all(only_tuples(part) for part in out), function.__name__)
    else:
        test.assertTrue(only_tuples(out), function.__name__)
    if function.__name__.startswith(("is_", "are_")):
        test.assertIn(out, (True, False))
        test.assertIsInstance(out, bool)
