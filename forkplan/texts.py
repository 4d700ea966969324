"""Texts: worlds and plans written in rows, and read again."""

from forkplan.errors import NoText
from forkplan.worlds import world_of

LETTERS = "abcdefghijklmnopqrstuvwxyz"
FIGURES = "0123456789"
MOST_LETTERS = 8
MOST_FIGURES_OF_A_SIZE = 1
MOST_FIGURES_OF_A_PRICE = 30
# Python's own int and str refuse more than some thousand figures: so numbers of any figures pass them block by block.
FIGURES_OF_A_BLOCK = 18
BLOCK = 1000000000000000000
YES = ("yes",)
# What is made of expressions (E) and conditions (C): which of the two it is itself, and how it is written.
FORMS = {
    "plus": ("E", ("(", "E", "+", "E", ")")),
    "less": ("E", ("(", "E", "-", "E", ")")),
    "same": ("C", ("E", "=", "E")),
    "under": ("C", ("E", "<", "E")),
    "not": ("C", ("not", "C")),
    "both": ("C", ("(", "C", "and", "C", ")")),
}
LONGEST_FORM = 5
SIGNS = ("(", ")", "+", "-", "=", "<", "not", "and")
# The rows of a world come by rising stage.
STAGES = {"box": 0, "deed": 1, "way": 1, "look": 2, "begin": 3, "goal": 4}


def shown_world(world):
    """The text of a world."""
    rows = [f"box {name} {size}" for name, size in world[0]]
    for name, price, need, ways in world[1]:
        rows.append(f"deed {name} {price}" + shown_need(need))
        rows.extend([shown_way(way) for way in ways])
    for name, price, expression in world[2]:
        rows.append(f"look {name} {price} " + shown_thing(expression))
    rows.append("begin " + shown_thing(world[3]))
    rows.append("goal " + shown_thing(world[4]))
    return "\n".join(rows)


def shown_plan(plan):
    """The text of a plan, or of any list of nodes."""
    return "\n".join([shown_node(node) for node in plan])


def read_world(text):
    """The world that a text writes."""
    rows = text.split("\n")
    refuse_order([kind_of(row) for row in rows])
    boxes = [read_box(row.split(" ")) for row in rows if kind_of(row) == "box"]
    deeds = read_deeds([row for row in rows if kind_of(row) in ("deed", "way")])
    looks = [read_look(row.split(" ")) for row in rows if kind_of(row) == "look"]
    begin = read_thing("C", rows[-2].split(" ")[1:])
    goal = read_thing("C", rows[-1].split(" ")[1:])
    return world_of(boxes, deeds, looks, begin, goal)


def read_plan(text):
    """The list of nodes that a text writes."""
    return [read_node(row.split(" ")) for row in text.split("\n")]


def is_word(text):
    """Whether a text is a word, such as names are."""
    return text != "" and len(text) <= MOST_LETTERS and all([sign in LETTERS for sign in text])


def shown_need(need):
    """What a deed's row tells of its need, which is nothing where it is yes."""
    return "" if need == YES else " if " + shown_thing(need)


def shown_way(way):
    """The row of a way."""
    return "way" + ",".join([f" {name} := " + shown_thing(expression) for name, expression in way])


def shown_node(node):
    """The row of a node."""
    if node[0] == "end":
        return "end"
    if node[0] == "do":
        return " ".join(["do", node[1], shown_number(node[2])])
    forks = [shown_number(worth) + ":" + shown_number(follower) for worth, follower in node[2]]
    return " ".join(["look", node[1]] + forks)


def shown_thing(thing):
    """The text of an expression or a condition."""
    if thing[0] == "number":
        return shown_number(thing[1])
    if thing[0] == "box":
        return thing[1]
    if thing == YES:
        return "yes"
    parts = [shown_thing(part) for part in thing[1:]]
    words = []
    for sign in FORMS[thing[0]][1]:
        words.append(parts.pop(0) if sign in ("E", "C") else sign)
    return " ".join(words)


def shown_number(number):
    """The figures of a whole number, with a sign ahead where it is below 0."""
    sign = "-" if number < 0 else ""
    rest = abs(number)
    blocks = []
    while rest >= BLOCK:
        blocks.append(str(rest % BLOCK).zfill(FIGURES_OF_A_BLOCK))
        rest = rest // BLOCK
    blocks.append(sign + str(rest))
    blocks.reverse()
    return "".join(blocks)


def kind_of(row):
    """The word with which a row begins."""
    return row.split(" ")[0]


def refuse_order(kinds):
    """Refuses rows of a world that are of no kind, or out of their order."""
    for kind in kinds:
        refuse_unless(kind in STAGES, "a row is none of a world's")
    stages = [STAGES[kind] for kind in kinds]
    refuse_unless(stages == sorted(stages), "the rows are out of their order")
    refuse_unless(kinds[-2:] == ["begin", "goal"] and "begin" not in kinds[:-2], "begin and goal are not there once")
    refuse_unless(kinds[stages.count(0)] != "way", "a way has no deed ahead")


def refuse_unless(fits, reason):
    """Refuses a text that does not fit."""
    if not fits:
        raise NoText(reason)


def read_box(words):
    """The box that a row's words write."""
    refuse_unless(len(words) == 3, "a box's row is a name and a size")
    return (read_name(words[1]), read_short_number(words[2], MOST_FIGURES_OF_A_SIZE))


def read_deeds(rows):
    """The deeds that their rows write, each with its ways behind it."""
    deeds = []
    for row in rows:
        if kind_of(row) == "deed":
            deeds.append(read_deed(row.split(" ")))
        else:
            deeds[-1][3].append(read_way(row))
    return deeds


def read_deed(words):
    """The deed, so far without ways, that a row's words write."""
    refuse_unless(len(words) == 3 or words[3:4] == ["if"], "a deed's row is a name, a price and perhaps a need")
    name = read_name(words[1])
    price = read_short_number(words[2], MOST_FIGURES_OF_A_PRICE)
    return (name, price, YES if len(words) == 3 else read_need(words[4:]), [])


def read_need(words):
    """The need that words write; one that is yes is not written."""
    need = read_thing("C", words)
    refuse_unless(need != YES, "a need that is yes is written")
    return need


def read_way(row):
    """The way that a row writes."""
    changes = row[len("way"):]
    return [read_change(change.split(" ")) for change in changes.split(",")] if changes != "" else []


def read_change(words):
    """The change that words write, the first one being what stands ahead of its blank: nothing."""
    refuse_unless(words[0] == "" and words[2:3] == [":="], "a change is a blank, a name, := and an expression")
    return (read_name(words[1]), read_thing("E", words[3:]))


def read_look(words):
    """The look that a row's words write."""
    refuse_unless(len(words) > 3, "a look's row is a name, a price and an expression")
    price = read_short_number(words[2], MOST_FIGURES_OF_A_PRICE)
    return (read_name(words[1]), price, read_thing("E", words[3:]))


def read_node(words):
    """The node that a row's words write."""
    if words == ["end"]:
        return ("end",)
    if words[0] == "do" and len(words) == 3:
        return ("do", read_name(words[1]), read_number(words[2]))
    refuse_unless(words[0] == "look" and len(words) > 1, "a row is none of a plan's")
    return ("look", read_name(words[1]), tuple([read_fork(word.split(":")) for word in words[2:]]))


def read_fork(sides):
    """The fork that a worth and a number write."""
    refuse_unless(len(sides) == 2, "a fork is a worth and a number")
    return (read_worth(sides[0]), read_number(sides[1]))


def read_name(word):
    """The name that a word is."""
    refuse_unless(is_word(word), "a name is no word")
    return word


def read_worth(text):
    """The number that figures write, below 0 where a sign is ahead of them."""
    if not text.startswith("-"):
        return read_number(text)
    number = read_number(text[1:])
    refuse_unless(number > 0, "0 has a sign ahead")
    return -number


def read_short_number(figures, most):
    """The number that so many figures at most write."""
    refuse_unless(len(figures) <= most, "a number has too many figures")
    return read_number(figures)


def read_number(figures):
    """The number from 0 on that figures write."""
    refuse_unless(figures != "" and all([sign in FIGURES for sign in figures]), "a number is no figures")
    refuse_unless(figures == "0" or not figures.startswith("0"), "a number has a 0 ahead")
    first = len(figures) % FIGURES_OF_A_BLOCK
    number = int("0" + figures[:first])
    for start in range(first, len(figures), FIGURES_OF_A_BLOCK):
        number = number * BLOCK + int(figures[start:start + FIGURES_OF_A_BLOCK])
    return number


def read_thing(sign, words):
    """The expression (E) or the condition (C) that words write."""
    row = []
    for word in words:
        row.append(read_leaf(word))
        kind = kind_at_end(row)
        while kind is not None:
            put_together_at_end(row, kind)
            kind = kind_at_end(row)
    refuse_unless(len(row) == 1 and row[0][0] == sign, "an expression or a condition is not written as told")
    return row[0][1]


def read_leaf(word):
    """A word as a tuple (sign, thing): of an expression E, of a condition C, of another sign itself and None."""
    if word == "yes":
        return ("C", YES)
    if word in SIGNS:
        return (word, None)
    if is_word(word):
        return ("E", ("box", word))
    return ("E", ("number", read_short_number(word, 1)))


def kind_at_end(row):
    """The kind of what the last ones of a row write together, or None where they write nothing so far.

    Nothing that is written goes on behind what may be its end: so all can be put together as soon as it is there.
    """
    signs = tuple([sign for sign, thing in row[-LONGEST_FORM:]])
    for kind, form in FORMS.items():
        if signs[-len(form[1]):] == form[1]:
            return kind
    return None


def put_together_at_end(row, kind):
    """Puts the last ones of a row, which write something of that kind, together."""
    things = []
    for sign in FORMS[kind][1]:
        things.append(row.pop()[1])
    things.reverse()
    row.append((FORMS[kind][0], (kind,) + tuple([thing for thing in things if thing is not None])))
