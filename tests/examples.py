"""Runs the examples of the document, as they stand there."""

import regroups.errors

ERRORS = {name: value for name, value in vars(regroups.errors).items() if isinstance(value, type)}


def run_examples(case, text, module_names):
    """Run each row behind >>>, and compare what comes with the row below it."""
    names = dict(module_names)
    rows = [row.strip() for row in text.strip().splitlines()]
    done = 0
    for at, row in enumerate(rows):
        if not row.startswith(">>> "):
            continue
        code = row[len(">>> "):]
        told = rows[at + 1] if at + 1 < len(rows) else ">>> "
        if told.startswith(">>> "):
            exec(code, names)
        elif told.startswith("raises "):
            check_raises(case, eval(told[len("raises "):], ERRORS), lambda: eval(code, names))
        else:
            case.assertEqual(repr(eval(code, names)), repr(eval(told)), code)
        done += 1
    case.assertGreater(done, 0)


def check_raises(case, wanted, action):
    """Check that the action raises just this error, with the same values in its attributes."""
    with case.assertRaises(type(wanted)) as caught:
        action()
    case.assertIs(type(caught.exception), type(wanted))
    case.assertEqual(vars(caught.exception), vars(wanted))
