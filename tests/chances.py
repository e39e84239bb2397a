"""Sequences of deeds by chance, most of them such that they can be done."""

TITLES = ["a", "b", "c", "use"]
NAMES = ["x", "y", "z"]
ROWS = ["x = y", "if x", "x", "", "end", "x + x", "z = x + y"]


def any_row(chance):
    """A row with its names changed alike, so that there are twins."""
    changed = dict(zip(NAMES, chance.sample(NAMES, 3)))
    return "".join(changed.get(sign, sign) for sign in chance.choice(ROWS))


def any_copied(chance, yard):
    """Some rows of a file with their names changed alike, or new ones."""
    titles = [title for title in yard.titles() if yard.rows(title)]
    if not titles or chance.random() < 0.2:
        return [any_row(chance) for row in range(chance.randrange(1, 4))]
    rows = yard.rows(chance.choice(titles))
    first = chance.randrange(len(rows))
    changed = dict(zip(NAMES, chance.sample(NAMES, 3)))
    return ["".join(changed.get(sign, sign) for sign in row) for row in rows[first:first + chance.randrange(1, 4)]]


def any_stretch(chance, rows):
    first = chance.randrange(rows) if rows else 0
    return first, chance.randrange(1, max(rows - first, 1) + 1)


def any_day(chance, yard):
    return yard.day() + chance.choice([0, 0, 1, 1, 3, -1 if chance.random() < 0.1 else 2])


def any_deed(chance, yard, most_rows, names):
    """A deed of one of these names; perhaps refused, mostly not."""
    titles = yard.titles()
    sizes = {title: len(yard.rows(title)) for title in titles}
    name = chance.choice(names)
    if not titles or sum(sizes.values()) < most_rows // 3:
        name = chance.choice(["file", "put"]) if titles else "file"
    if sum(sizes.values()) >= most_rows and name in ("file", "put"):
        name = chance.choice(["cut", "drop"])
    title = chance.choice(titles or TITLES)
    other = chance.choice(titles or TITLES)
    first, many = any_stretch(chance, sizes.get(title, 0))
    place = chance.randrange(sizes.get(title, 0) + 1)
    new = chance.choice(TITLES + ["d", "e"])
    things = {
        "file": (new, any_copied(chance, yard) if chance.random() < 0.9 else []), "drop": (title,),
        "put": (title, place, any_copied(chance, yard)), "cut": (title, first, many),
        "turn": (title, first, any_row(chance)), "divide": (title, place, new), "unite": (title, other),
        "move": (title, first, many, other, chance.randrange(sizes.get(other, 0) + 1)),
        "mend": (title, first, many, first + chance.randrange(many), any_row(chance))}
    if name in ("settle", "waive"):
        debtors = [row[:2] for row in yard.owed()] if chance.random() < 0.9 else []
        return (name, any_day(chance, yard), *(chance.choice(debtors) if debtors else (title, first)))
    return (name, any_day(chance, yard), *things[name])


def any_step(chance, yard, most_rows, names, backs, agains):
    """A deed, or a taking back or doing again, of which so many can be done."""
    roll = chance.random()
    if agains and roll < 0.5:
        return ("again",)
    if backs and roll > 0.85:
        return ("back",)
    return any_deed(chance, yard, most_rows, names)
