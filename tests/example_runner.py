"""Runs examples as they are written in the document: a prompt, then the answer or the error it raises."""

import ast
import os
import re

FOLDER = os.path.join(os.path.dirname(os.path.abspath(__file__)), "examples")


def read_examples(name):
    """The pairs (source, answer) of a file; the answer is None behind a statement without one."""
    with open(os.path.join(FOLDER, name), encoding="ascii") as file:
        lines = file.read().splitlines()
    pairs = []
    for line in lines:
        if line.startswith(">>> "):
            pairs.append([line[4:], None])
        elif line:
            if pairs[-1][1] is not None:
                raise AssertionError("two answers behind " + pairs[-1][0])
            pairs[-1][1] = line
    return [tuple(pair) for pair in pairs]


def error_told(answer):
    """The name and the fields of the error that an answer tells of."""
    name, _, fields = re.fullmatch(r"raises (\w+)(\((.*)\))?", answer).groups()
    if fields is None:
        return name, {}
    return name, {field: ast.literal_eval(value) for field, value in re.findall(r"(\w+)=([^,]+)", fields)}


def check_example(case, source, answer, names):
    """Carry out one example in a space of names, and compare what it does with its answer."""
    if answer is None:
        exec(source, names)
        return
    if not answer.startswith("raises "):
        case.assertEqual(repr(eval(source, names)), answer)
        return
    name, fields = error_told(answer)
    with case.assertRaises(ValueError) as caught:
        eval(source, names)
    case.assertEqual(caught.exception.__class__.__name__, name)
    case.assertEqual(vars(caught.exception), fields)


def check_file(case, name):
    """Carry out all examples of a file, and tell how many have an answer."""
    names, answers = {}, 0
    for source, answer in read_examples(name):
        with case.subTest(file=name, source=source):
            check_example(case, source, answer, names)
        answers += answer is not None
    return answers
