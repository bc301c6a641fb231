"""What several test files use."""

from owedrebuilds.errors import OwedError
from owedrebuilds.stores import Store
from owedrebuilds.ways import Way


def strict(value):
    """A value as text in which True is not 1 and a list is no tuple; the order of dicts is lost."""
    if isinstance(value, dict):
        parts = sorted((strict(name), strict(value[name])) for name in value)
        return "dict(" + ", ".join(name + ": " + part for name, part in parts) + ")"
    if isinstance(value, list):
        return "list(" + ", ".join(strict(part) for part in value) + ")"
    if isinstance(value, tuple):
        return "tuple(" + ", ".join(strict(part) for part in value) + ")"
    return type(value).__name__ + " " + repr(value)


def error_of(action, *given, **named):
    """The class and the fields of the error that a call raises; None if it raises none."""
    try:
        action(*given, **named)
    except OwedError as error:
        return (type(error).__name__,) + tuple(vars(error).values())
    return None


def check_same(case, got, wanted):
    """The two values are the same, with their kinds."""
    case.assertEqual(strict(got), strict(wanted))


def check_error(case, wanted, action, *given, **named):
    """The call raises this error: the name of its class, then its fields."""
    case.assertEqual(strict(error_of(action, *given, **named)), strict(wanted))


def steps_of(way):
    """For each step of a way (back, table, link), read off its words."""
    found = []
    table = way.start
    for word in way.steps:
        if word.startswith("~"):
            owner, link = word[1:].split(".")
            found.append((True, owner, link))
            table = owner
        else:
            found.append((False, table, word))
            table = way.schema.target(table, word)
    return found


def leads(store, step, one, other):
    """Whether a step leads from the row with the key one to the row with the key other."""
    back, table, link = step
    owner, target = (other, one) if back else (one, other)
    return store.cell_of(table, owner, link) == target


def all_trails(way, store):
    """All trails of a way in a store, ascending, by the words of point 10."""
    trails = [(key,) for key in store.row_keys(way.start) if visits(way, store, 0, key)]
    for at, step in enumerate(steps_of(way)):
        trails = [
            trail + (key,)
            for trail in trails
            for key in store.row_keys(way.tables[at + 1])
            if leads(store, step, trail[-1], key) and visits(way, store, at + 1, key)
        ]
    return sorted(trails)


def visits(way, store, at, key):
    """Whether a row has all flags that are asked at a position."""
    return all(store.cell_of(way.tables[at], key, flag) is True for flag in way.asked[at])


def random_store(source, schema, most):
    """A store with up to so many rows in each table, with any cells."""
    keys = {table: source.sample(range(1, 9), source.randint(0, most)) for table in schema.tables}
    rows = []
    for table in schema.tables:
        for key in keys[table]:
            cells = {
                column: random_cell(source, schema, table, column, keys)
                for column in schema.columns(table)
            }
            rows.append((table, key, cells))
    return Store(schema, rows)


def random_cell(source, schema, table, column, keys):
    kind = schema.kind(table, column)
    if kind == "flag":
        return source.random() < 0.7
    if kind == "value":
        return source.randint(-2, 2)
    return source.choice([None] + keys[schema.target(table, column)] * 2)


def random_way(source, schema, most):
    """A way of up to so many steps."""
    table = source.choice(schema.tables)
    words = [table + random_flags(source, schema, table)]
    for _ in range(source.randint(0, most)):
        choices = turns(schema, table)
        if not choices:
            break
        word, _, table = source.choice(choices)
        words.append(word + random_flags(source, schema, table))
    return Way(schema, " ".join(words))


def random_detour(source, way):
    """The way with other flags at one position, and there perhaps a step away and back."""
    words = str(way).split(" ")
    at = source.randrange(len(words))
    table = way.tables[at]
    head = words[at].split("[")[0]
    words[at] = head + random_flags(source, way.schema, table)
    choices = turns(way.schema, table)
    if choices and source.random() < 0.7:
        words[at + 1:at + 1] = source.choice(choices)[:2]
    return Way(way.schema, " ".join(words))


def turns(schema, table):
    """The words of all steps from a table, with that of the step back and the table reached."""
    along = [
        (column, "~" + table + "." + column, schema.target(table, column))
        for column in schema.columns(table) if schema.kind(table, column) == "link"
    ]
    return along + [("~" + owner + "." + link, link, owner) for owner, link in schema.links_to(table)]


def random_flags(source, schema, table):
    flags = [
        column for column in schema.columns(table)
        if schema.kind(table, column) == "flag" and source.random() < 0.3
    ]
    return "[" + ",".join(flags) + "]" if flags else ""
