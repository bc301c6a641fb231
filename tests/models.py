"""Desks, scenes and full books by the words of the document, slowly, to hold the package against."""

import itertools

from owedrebuilds.books import Book
from owedrebuilds.errors import OwedError
from owedrebuilds.hooks import Hook
from owedrebuilds.ways import Way
from helpers import all_trails, steps_of


def joined(way, store, key):
    """The keys of the rows that a way joins with a row, ascending."""
    return sorted({trail[-1] for trail in all_trails(way, store) if trail[0] == key})


def content(document, store, key):
    """The content of a copy by the words of point 14."""
    return tuple(
        tuple(
            (trail, store.cell_of(way.end, trail[-1], column))
            for trail in all_trails(way, store) if trail[0] == key
        )
        for way, column in document.reads
    )


def base_of(book, name):
    return next(document.base for document in book.documents if document.name == name)


class Fault(Exception):
    """An error with its class and fields, in the order of the fields."""

    def __init__(self, *parts):
        super().__init__(*parts)
        self.parts = parts


class Model:
    """A desk by the words of points 16, 17 and 20 to 22."""

    def __init__(self, book, store, most):
        self.book = book
        self.now = store.duplicate()
        self.most = most
        self.copies = {}
        for document in book.documents:
            for key in self.now.row_keys(document.base):
                self.build((document.name, key))

    def build(self, copy):
        name, key = copy
        document = next(one for one in self.book.documents if one.name == name)
        found = content(document, self.now, key)
        if sum(len(entry) for entry in found) > self.most:
            raise Fault("TooLong", name, key, self.most)
        self.copies[copy] = found

    def ordered(self, copies):
        names = [document.name for document in self.book.documents]
        return sorted(copies, key=lambda copy: (names.index(copy[0]), copy[1]))

    def is_there(self, copy):
        return (base_of(self.book, copy[0]), copy[1]) in self.now

    def stale(self):
        return [
            (document.name, key)
            for document in self.book.documents
            for key in self.now.row_keys(document.base)
            if self.copies.get((document.name, key)) != content(document, self.now, key)
        ]

    def do(self, deeds, at_once):
        """(made, owed, built); after a Fault all is as before."""
        before = (self.now.duplicate(), dict(self.copies))
        try:
            return self.transaction(deeds, at_once)
        except Fault:
            self.now, self.copies = before
            raise

    def transaction(self, deeds, at_once):
        made, owed, late, built = [], {}, [], 0
        for at, deed in enumerate(deeds):
            for step in self.steps(at, deed):
                met = [] if deed[0] == "bulk" else self.answered(step)
                made.append(step)
                if deed[0] == "bulk":
                    self.now.happen(step)
                else:
                    late += [(hook, step[2], at) for hook in self.book if hook.answers(step) and hook.look == "late"]
                if step[0] == "remove":
                    for document in self.book.documents:
                        if document.base == step[1]:
                            self.copies.pop((document.name, step[2]), None)
                for copy in met:
                    owed.setdefault(copy, at)
                if at_once:
                    built += self.build_all({copy: at for copy in met})
        met_late = {}
        for hook, key, at in late:
            for end in joined(hook.way, self.now, key):
                met_late.setdefault((hook.document, end), at)
                owed.setdefault((hook.document, end), at)
        built += self.build_all(met_late if at_once else owed)
        return (made, list(owed), built)

    def steps(self, at, deed):
        try:
            steps = self.now.changes(deed)
        except OwedError as why:
            raise Fault("Refused", at, type(why).__name__, *vars(why).values()) from why
        if deed[0] == "bulk" and (deed[1], deed[3]) not in self.book.bulk:
            raise Fault("Refused", at, "NotBulk", deed[1], deed[3])
        return steps

    def answered(self, step):
        """Does the change; the copies that ahead and behind hooks meet."""
        met = []
        for look in ("ahead", "behind"):
            for hook in self.book:
                if hook.look == look and hook.answers(step):
                    met += [(hook.document, key) for key in joined(hook.way, self.now, step[2])]
            if look == "ahead":
                self.now.happen(step)
        return [copy for copy in met if self.is_there(copy)]

    def build_all(self, blame):
        many = 0
        for copy in self.ordered(blame):
            if self.is_there(copy):
                try:
                    self.build(copy)
                except Fault as why:
                    raise Fault("Failed", blame[copy], *why.parts) from why
                many += 1
        return many


def told(error):
    """An error of the package as the parts of a Fault."""
    fields = list(vars(error).values())
    if type(error).__name__ in ("Refused", "Failed"):
        return (type(error).__name__, fields[0], *told(fields[1]))
    return (type(error).__name__, *fields)


def least(way):
    """A dict from keys to (table, cells) of the least store of a way, and its trail (13)."""
    rows = {}

    def make(table):
        empty = {"value": 0, "flag": False, "link": None}
        rows[len(rows) + 1] = (table, {
            column: empty[way.schema.kind(table, column)] for column in way.schema.columns(table)
        })
        return len(rows)

    trail = [make(way.start)]
    for back, table, link in steps_of(way):
        here = trail[-1]
        if back:
            there = make(table)
            rows[there][1][link] = here
        else:
            there = rows[here][1][link]
            if there is None:
                there = make(way.schema.target(table, link))
                rows[here][1][link] = there
        trail.append(there)
    for key, flags in zip(trail, way.asked):
        for flag in flags:
            rows[key][1][flag] = True
    return (rows, trail)


def links(schema, rows):
    """All (key, column, key of the row to which this link leads)."""
    return [
        (key, column, cells[column])
        for key, (table, cells) in rows.items() for column in cells
        if schema.kind(table, column) == "link" and cells[column] is not None
    ]


def folded(schema, rows, keys):
    """The rows if those with these keys are folded into one (24), and the names of all keys."""
    groups = [{key} for key in rows]

    def unite(keys):
        touched = [group for group in groups if group & set(keys)]
        groups[:] = [group for group in groups if group not in touched] + [set().union(*touched)]
        return len(touched) > 1

    unite(keys)
    while any([
        unite([there, other])
        for key, column, there in links(schema, rows) for twin, link, other in links(schema, rows)
        if column == link and any({key, twin} <= group for group in groups)
    ]):
        pass
    names = {key: min(group) for group in groups for key in group}
    out = {}
    for group in groups:
        table, cells = rows[min(group)]
        out[min(group)] = (table, {
            column: united(schema.kind(table, column), [rows[key][1][column] for key in sorted(group)], names)
            for column in cells
        })
    return (out, names)


def united(kind, cells, names):
    if kind == "link":
        return next((names[cell] for cell in cells if cell is not None), None)
    return any(cells) if kind == "flag" else 0


def altered(rows, key, column, cell):
    return {one: (table, {**cells, column: cell} if one == key else cells) for one, (table, cells) in rows.items()}


def without(rows, key):
    return {one: rows[one] for one in rows if one != key}


def powers(keys):
    """All sets P as ascending tuples, in their order."""
    return sorted(group for many in range(len(keys) + 1) for group in itertools.combinations(sorted(keys), many))


def store_rows(schema, rows):
    return [
        (table, key, cells)
        for table in schema.tables for key, (home, cells) in sorted(rows.items()) if home == table
    ]


def is_target(schema, rows, key):
    return key in [there for _, _, there in links(schema, rows)]


def picture(schema, parts, ahead, behind, deed, changed, key):
    """All that is told of a scene."""
    return (*parts, deed, changed, key, store_rows(schema, ahead), store_rows(schema, behind))


def seen(scene):
    """The same of a Scene of the package."""
    parts = (scene.document, scene.number, scene.event, scene.side, scene.folded)
    return (*parts, scene.deed, scene.changed, scene.key, scene.ahead().rows(), scene.behind().rows())


def scenes_by_words(book):
    """The pictures of all scenes of a book (23 to 25)."""
    schema = book.schema
    for document in book.documents:
        cells = least(Way(schema, document.base))[0][1][1]
        yield picture(
            schema, (document.name, -1, ("put", document.base), "new", ()), {}, {1: (document.base, cells)},
            ("put", document.base, 1, cells), (document.base, 1), 1,
        )
        for number, (way, column) in enumerate(document.reads):
            rows, trail = least(way)
            for key in sorted(rows):
                yield from scenes_of_row(schema, (document.name, number), rows, trail, column, key)


def scenes_of_row(schema, head, rows, trail, column, key):
    table, cells = rows[key]
    for name, cell in cells.items():
        kind = schema.kind(table, name)
        is_read = key == trail[-1] and name == column
        event = ("set", table, name)
        if kind == "value" and is_read:
            yield picture(
                schema, (*head, event, "other", ()), rows, altered(rows, key, name, 1),
                ("set", table, key, name, 1), (table, key), trail[0],
            )
        elif kind != "value" and (cell not in (None, False) or is_read):
            yield from scenes_of_cell(schema, (*head, event), rows, trail, key)
    if key != trail[0] and not is_target(schema, rows, key):
        yield picture(
            schema, (*head, ("remove", table), "off", ()), rows, without(rows, key), ("remove", table, key),
            (table, key), trail[0],
        )
        yield picture(
            schema, (*head, ("put", table), "on", ()), without(rows, key), rows, ("put", table, key, cells),
            (table, key), trail[0],
        )


def scenes_of_cell(schema, head, rows, trail, key):
    _, table, name = head[-1]
    flag = schema.kind(table, name) == "flag"
    others = [one for one in rows if one != key and rows[one][0] == table and rows[one][1][name] not in (None, False)]
    for side in ("off", "on"):
        for group in powers(others):
            start = altered(rows, key, name, True) if flag else rows
            full, names = folded(schema, start, (key, *group))
            here = names[key]
            bare = altered(full, here, name, False if flag else None)
            ahead, behind = (full, bare) if side == "off" else (bare, full)
            deed = ("set", table, here, name, behind[here][1][name])
            yield picture(schema, (*head, side, group), ahead, behind, deed, (table, here), names[trail[0]])


def meetings_by_words(hook):
    """The pictures of all meetings of a hook (33)."""
    schema = hook.way.schema
    rows, trail = least(hook.way)
    first, last = trail[0], trail[-1]
    table = hook.event[1]
    head = (hook.document, None, hook.event)
    if hook.event[0] == "put":
        if hook.look != "ahead" and not is_target(schema, rows, first):
            yield picture(
                schema, (*head, "on", ()), without(rows, first), rows, ("put", table, first, rows[first][1]),
                (table, first), last,
            )
    elif hook.event[0] == "remove":
        if hook.look == "ahead" and not is_target(schema, rows, first) and first != last:
            yield picture(
                schema, (*head, "off", ()), rows, without(rows, first), ("remove", table, first), (table, first), last,
            )
    elif schema.kind(table, hook.event[2]) == "value":
        name = hook.event[2]
        yield picture(
            schema, (*head, "other", ()), rows, altered(rows, first, name, 1), ("set", table, first, name, 1),
            (table, first), last,
        )
    else:
        yield from meetings_of_cell(hook, rows, first, last)


def meetings_of_cell(hook, rows, first, last):
    schema = hook.way.schema
    _, table, name = hook.event
    empty = False if schema.kind(table, name) == "flag" else None
    others = [one for one in rows if one != first and rows[one][0] == table and rows[one][1][name] != empty]
    for group in powers(others):
        if group or rows[first][1][name] != empty:
            near, names = folded(schema, rows, (first, *group))
            pairs = [(near, altered(near, names[first], name, empty))]
        else:
            names = {key: key for key in rows}
            whole, cell = rows, True
            if empty is None:
                cell, target = max(rows) + 1, schema.target(table, name)
                whole = {**rows, cell: least(Way(schema, target))[0][1]}
            full = altered(whole, first, name, cell)
            pairs = [(whole, full), (full, whole)]
        for near, far in pairs:
            ahead, behind = (near, far) if hook.look == "ahead" else (far, near)
            here = names[first]
            deed = ("set", table, here, name, behind[here][1][name])
            side = "off" if deed[-1] == empty else "on"
            parts = (hook.document, None, hook.event, side, group)
            yield picture(schema, parts, ahead, behind, deed, (table, here), names[last])


def hook_lines(one):
    return [str(hook) for hook in one]


def full_hooks_by_words(documents):
    """The hooks of the full book by the words of point 31."""
    found = []
    for scene in scenes_by_words(Book(documents, [])):
        name, number, event, side, group, _, changed = scene[:7]
        document = next(document for document in documents if document.name == name)
        if group == ():
            words, flags = [document.base], [[]]
            if number >= 0:
                way = document.reads[number][0]
                at = least(way)[1].index(changed[1])
                heads = [link if back else f"~{table}.{link}" for back, table, link in steps_of(way)[:at]]
                words = [way.tables[at], *heads[::-1]]
                flags = [list(names) for names in way.asked[at::-1]]
                if event[0] == "set" and event[2] in flags[0]:
                    flags[0].remove(event[2])
            texts = [word + ("[" + ",".join(names) + "]" if names else "") for word, names in zip(words, flags)]
            look = "ahead" if side == "off" else "behind"
            hook = Hook(event, look, Way(document.schema, " ".join(texts)), name)
            if not any(is_equal(hook, earlier) for earlier in found):
                found.append(hook)
    return found


def is_equal(hook, other):
    """Whether two hooks are equal, as their ways lie in each other."""
    if (hook.event, hook.look, hook.document) != (other.event, other.look, other.document):
        return False
    return hook.way in other.way and other.way in hook.way
