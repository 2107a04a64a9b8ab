"""Checks of examples as the document writes them.

A line that begins with >>> is run; if it gives a value, the line behind it
tells that value, or "raises" and the error with what it keeps.
"""

import ast
import re


def check_examples(case, names, text):
    """Let the test case fail for each example of the text that does not hold."""
    names = dict(names)
    lines = [line.strip() for line in text.split("\n") if line.strip()]
    for k, line in enumerate(lines):
        if line.startswith(">>> "):
            told = lines[k + 1] if k + 1 < len(lines) else ">>>"
            check_example(case, names, line[4:], None if told.startswith(">>>") else told)


def check_example(case, names, source, told):
    with case.subTest(source):
        if told is None:
            exec(source, names)
        elif told.startswith("raises "):
            check_error(case, names, source, told[len("raises "):])
        else:
            value = eval(source, names)
            case.assertEqual(value, ast.literal_eval(told))
            # repr tells True from 1 and a list from a tuple, at any depth.
            case.assertEqual(repr(value), repr(ast.literal_eval(told)))


def check_error(case, names, source, told):
    kind, keeps = re.fullmatch(r"(\w+)\((.*)\)", told).groups()
    kept = dict(part.split("=") for part in keeps.split(", ")) if keeps else {}
    with case.assertRaises(names[kind]) as caught:
        eval(source, names)
    case.assertIs(caught.exception.__class__, names[kind])
    case.assertEqual(vars(caught.exception), {name: int(value) for name, value in kept.items()})
