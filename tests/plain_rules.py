"""Rules read and matched straight from the definitions of point 10, and their machines by another way."""

import itertools
import re

from tests.plain import Plain

NOTHING = ("none",)
EMPTY = ("empty",)


def names_of(hall_text):
    return [line.split(" ")[1] for line in hall_text.split("\n") if line.startswith("meet ")]


class Unread(Exception):
    pass


class Reader:
    """Reads a text by the six lines of the grammar, the loosest one first."""

    def __init__(self, names, text):
        self.names = names
        self.parts = re.findall(r"[a-z]+|[^a-z ]", text)
        self.place = 0
        self.named = 0

    def ahead(self):
        return self.parts[self.place] if self.place < len(self.parts) else None

    def take(self, sign):
        if self.ahead() != sign:
            return False
        self.place += 1
        return True

    def whole(self):
        tree = self.choice(0)
        if self.ahead() is not None or self.named > 12:
            raise Unread
        return tree

    def choice(self, depth):
        trees = [self.both(depth)]
        while self.take("|"):
            trees.append(self.both(depth))
        return ("or", *trees) if len(trees) > 1 else trees[0]

    def both(self, depth):
        trees = [self.no(depth)]
        while self.take("&"):
            trees.append(self.no(depth))
        return ("and", *trees) if len(trees) > 1 else trees[0]

    def no(self, depth):
        if self.take("!"):
            return ("not", self.no(depth))
        return self.series(depth)

    def series(self, depth):
        trees = [self.starred(depth)]
        while self.take(","):
            trees.append(self.starred(depth))
        if len(trees) > 1 and any(is_mixed(tree) for tree in trees):
            raise Unread
        return ("row", *trees) if len(trees) > 1 else trees[0]

    def starred(self, depth):
        tree = self.one(depth)
        while self.take("*"):
            if is_mixed(tree):
                raise Unread
            tree = ("star", tree)
        return tree

    def one(self, depth):
        if self.take("-"):
            return EMPTY
        if self.take("("):
            tree = self.choice(depth + 1)
            if depth == 10 or not self.take(")"):
                raise Unread
            return tree
        name = self.ahead()
        if name != "?" and name not in self.names:
            raise Unread
        self.place += 1
        self.named += 1
        return ("kind", None if name == "?" else self.names.index(name))


def is_mixed(tree):
    return tree[0] in ("and", "not") or any(is_mixed(part) for part in tree[1:] if isinstance(part, tuple))


def tree_of(names, text):
    """The tree of a rule's text, of whatever length; None for other texts."""
    try:
        return Reader(names, text).whole()
    except Unread:
        return None


def is_beginning_of_rule(names, text):
    """Whether the text can be led on: by the rest of a name, by `-`, by closing brackets."""
    last = re.search("[a-z]*$", text).group()
    rests = [""] + [name[len(last):] for name in names if last and name.startswith(last)]
    brackets = ")" * (text.count("(") - text.count(")"))
    for rest, more in itertools.product(rests, ("", "-")):
        if tree_of(names, text + rest + more + brackets) is not None:
            return True
    return False


def bad_place(hall_text, text):
    """What BadRule has to tell of a string, None for a rule's text."""
    names = names_of(hall_text)
    for place in range(min(len(text), 200)):
        if not is_beginning_of_rule(names, text[:place + 1]):
            return place
    if len(text) > 200:
        return 200
    return None if tree_of(names, text) is not None else len(text)


def ends_of(tree, row, start, kept):
    """All ends of what the tree, without & and !, lets from start on."""
    key = (tree, start)
    if key in kept:
        return kept[key]
    if tree[0] == "kind":
        ends = {start + 1} if start < len(row) and tree[1] in (None, row[start]) else set()
    elif tree == EMPTY:
        ends = {start}
    elif tree[0] == "or":
        ends = set().union(*[ends_of(part, row, start, kept) for part in tree[1:]])
    elif tree[0] == "row":
        ends = {start}
        for part in tree[1:]:
            ends = set().union(*[ends_of(part, row, place, kept) for place in ends])
    else:
        ends, queue = {start}, [start]
        while queue:
            for place in ends_of(tree[1], row, queue.pop(), kept) - ends:
                ends.add(place)
                queue.append(place)
    kept[key] = ends
    return ends


def lets(tree, row, kept=None):
    """Whether the tree lets the row, straight from the definition."""
    kept = {} if kept is None else kept
    if tree[0] == "and":
        return all(lets(part, row, kept) for part in tree[1:])
    if tree[0] == "not":
        return not lets(tree[1], row, kept)
    if tree[0] == "or":
        return any(lets(part, row, kept) for part in tree[1:])
    return len(row) in ends_of(tree, row, 0, kept)


def can_be_empty(tree):
    return {"none": lambda: False, "empty": lambda: True, "kind": lambda: False,
            "or": lambda: any(can_be_empty(part) for part in tree[1]),
            "and": lambda: all(can_be_empty(part) for part in tree[1]),
            "not": lambda: not can_be_empty(tree[1]), "star": lambda: True,
            "row": lambda: can_be_empty(tree[1]) and can_be_empty(tree[2])}[tree[0]]()


def either(trees):
    parts = set()
    for tree in trees:
        parts |= tree[1] if tree[0] == "or" else {tree}
    parts.discard(NOTHING)
    if len(parts) < 2:
        return parts.pop() if parts else NOTHING
    return ("or", frozenset(parts))


def every(trees):
    parts = set()
    for tree in trees:
        parts |= tree[1] if tree[0] == "and" else {tree}
    if NOTHING in parts:
        return NOTHING
    return parts.pop() if len(parts) == 1 else ("and", frozenset(parts))


def behind(one, other):
    if NOTHING in (one, other):
        return NOTHING
    if one == EMPTY:
        return other
    if one[0] == "row":
        return behind(one[1], behind(one[2], other))
    return one if other == EMPTY else ("row", one, other)


def simple(tree):
    """The tree with the parts of or and and as sets, rows of two parts each."""
    if tree[0] in ("or", "and"):
        return (either if tree[0] == "or" else every)([simple(part) for part in tree[1:]])
    if tree[0] == "row":
        told = EMPTY
        for part in reversed(tree[1:]):
            told = behind(simple(part), told)
        return told
    if tree[0] in ("star", "not"):
        return (tree[0], simple(tree[1]))
    return tree


def left_behind(tree, kind):
    """What has to be let behind this kind."""
    if tree[0] in ("none", "empty"):
        return NOTHING
    if tree[0] == "kind":
        return EMPTY if tree[1] in (None, kind) else NOTHING
    if tree[0] in ("or", "and"):
        return (either if tree[0] == "or" else every)([left_behind(part, kind) for part in tree[1]])
    if tree[0] == "not":
        return ("not", left_behind(tree[1], kind))
    if tree[0] == "star":
        return behind(left_behind(tree[1], kind), tree)
    first = behind(left_behind(tree[1], kind), tree[2])
    return either([first, left_behind(tree[2], kind)]) if can_be_empty(tree[1]) else first


def explored(start, step, kinds):
    """(states, rows): all states that come, nearest first and by the least rows."""
    states, numbers, rows = [start], {start: 0}, []
    for state in states:
        row = []
        for kind in kinds:
            after = step(state, kind)
            if after not in numbers:
                numbers[after] = len(states)
                states.append(after)
            row.append(numbers[after])
        rows.append(tuple(row))
    return states, rows


def least(rows, good):
    """The least machine that lets the same, numbered as the least shortest rows that lead to its states."""
    groups = [state in good for state in range(len(rows))]
    while True:
        told = [(groups[state], *[groups[after] for after in row]) for state, row in enumerate(rows)]
        seen = list(dict.fromkeys(told))
        numbers = {one: number for number, one in enumerate(seen)}
        if len(seen) == len(set(groups)):
            break
        groups = [numbers[one] for one in told]
    member = {group: state for state, group in reversed(list(enumerate(groups)))}
    kinds = range(len(rows[0]))
    states, told = explored(groups[0], lambda group, kind: groups[rows[member[group]][kind]], kinds)
    return tuple(told), tuple(number for number, group in enumerate(states) if member[group] in good)


# Of the hall of TWO: rules whose machines have just forty states, and just one more; the last two are fair.
FORTY = "(y*,(?,?,?,?,x),z*)|(?,?,y,x)*"
FORTY_ONE = "!((?,?,y,y)*,(z,?)*)|(?,?,?,?,?)*"
FAIR_FORTY = "(?,?,?,?,?)*&(?,?,?,?)*&(?*,x,?*)"
FAIR_FORTY_ONE = "((?,?,?,?,?)*&(?,?,?,?)*&(?*,x,?*))|-"
KEPT = {}


def plain_machine(hall_text, text):
    """The least machine of a rule, of however many states."""
    key = (hall_text, text)
    if key not in KEPT:
        names = names_of(hall_text)
        start = simple(tree_of(names, text))
        states, rows = explored(start, left_behind, range(len(names)))
        KEPT[key] = least(rows, [number for number, tree in enumerate(states) if can_be_empty(tree)])
    return KEPT[key]


def run(machine, kinds, state=0):
    for kind in kinds:
        state = machine[0][state][kind]
    return state


def short_rows(many_kinds, longest):
    """All rows of kinds up to a length, as they stand: shorter ones first, then as Python sorts."""
    for many in range(longest + 1):
        yield from itertools.product(range(many_kinds), repeat=many)


def unfair_told(hall_text, text, longest):
    """What fairness has to tell, by all pairs of rows one exchange apart; None if none so short is unfair."""
    plain = Plain(hall_text)
    tree = tree_of(names_of(hall_text), text)
    kinds = len(plain.kinds)
    for many in range(2, longest + 1):
        pairs = []
        for row in itertools.product(range(kinds), repeat=many):
            for place in range(many - 1):
                k, m = row[place:place + 2]
                if k < m and plain.strangers(k, m):
                    other = row[:place] + (m, k) + row[place + 2:]
                    if lets(tree, row) != lets(tree, other):
                        pairs.append((row, other))
        if pairs:
            return ("unfair", *min(pairs))
    return None


def is_fair(hall_text, text):
    plain = Plain(hall_text)
    rows, _ = plain_machine(hall_text, text)
    kinds = range(len(plain.kinds))
    pairs = [(k, m) for k in kinds for m in kinds if plain.strangers(k, m)]
    return all(rows[row[k]][m] == rows[row[m]][k] for row in rows for k, m in pairs)


def odd_blocks(numbers, names, many):
    """The text of some rule of blocks, one behind the other; its machine is often a large one."""
    blocks = []
    left = many
    while left > 0:
        size = min(left, 1 + numbers.below(5))
        left -= size
        block = ",".join(numbers.one_of(["?", "?", numbers.one_of(names)]) for _ in range(size))
        if left and numbers.below(4) == 0:
            left -= 1
            blocks.append("?*," + block)
        else:
            blocks.append(numbers.one_of((f"({block})*", f"({block})*", block, f"({block}|-)")))
    text = blocks[0]
    for block in blocks[1:]:
        text = numbers.one_of((f"{text},{block}", f"({text}|{block})", f"({text}),{block}"))
    return text


def odd_large_rule(numbers, names):
    one, other = odd_blocks(numbers, names, 4 + numbers.below(4)), odd_blocks(numbers, names, 2 + numbers.below(4))
    return numbers.one_of((f"({one})&({other})", f"({one})|({other})", f"({one})&!({other})", f"!({one})|({other})"))


def odd_rule(numbers, names, many=6, depth=3, is_plain=False):
    """The text of some rule with at most so many names and `?`."""
    way = numbers.below(10)
    if many <= 1 or depth == 0 or way < 1:
        return numbers.one_of(list(names) + ["?", "?", "-"]) if many else "-"
    if way < 4:
        return "(" + odd_rule(numbers, names, many, depth - 1, True) + ")*"
    if way < 6 and not is_plain:
        return "!" + bracket(odd_rule(numbers, names, many, depth - 1))
    share = 1 + numbers.below(many - 1)
    signs = ("|", ",", ",", ",") if is_plain else ("|", "|", "&", ",", ",")
    sign = numbers.one_of(signs)
    plain = is_plain or sign == ","
    one = odd_rule(numbers, names, share, depth - 1, plain)
    other = odd_rule(numbers, names, many - share, depth - 1, plain)
    return bracket(one) + blanks(numbers) + sign + blanks(numbers) + bracket(other)


def blanks(numbers):
    return numbers.one_of(("", "", "", " ", "  "))


def bracket(text):
    return text if re.fullmatch(r"[a-z]+|\?|-|\([^()]*\)\*", text) else "(" + text + ")"
