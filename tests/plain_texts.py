"""What is the text of a module, said once more: with patterns of lines, and without building anything."""

import re

NAME = "[a-z][a-z0-9]{0,7}"
NUMBER = "(?:0|[1-9][0-9]{0,2})"
ARITIES = {
    "plus": 2, "minus": 2, "times": 2, "equal": 2, "below": 2, "not": 1, "both": 2, "either": 2, "choose": 3,
}
LEAF = re.compile(f"({NUMBER}|{NAME})(?![a-z0-9(])")
HEAD = re.compile(r"([a-z]+)\(")
STATEMENT = re.compile(
    f"(?:(?P<assign>assign) (?P<to>{NAME}) (?P<a>.+)|(?P<word>if|while|return) (?P<b>.+)|(?P<alone>fail|attempt|else)"
    f"|(?P<call>call) (?P<callout>{NAME}) (?P<c>[^ ]+(?:, [^ ]+)*)(?: into (?P<into>{NAME}))?)"
)


class Wrong(Exception):
    pass


def expression(text):
    """The names, the parts and the depth of an expression with this text."""
    names, parts, depth, end = expression_at(text, 0)
    if end != len(text) or parts > 40 or depth > 6:
        raise Wrong
    return names


def expression_at(text, start):
    leaf = LEAF.match(text, start)
    if leaf:
        return ({leaf.group(1)} if leaf.group(1)[0].isalpha() else set()), 1, 1, leaf.end()
    head = HEAD.match(text, start)
    if not head or head.group(1) not in ARITIES:
        raise Wrong
    names, parts, depth, end = set(), 1, 0, head.end()
    for index in range(ARITIES[head.group(1)]):
        if index:
            if text[end:end + 2] != ", ":
                raise Wrong
            end += 2
        more, further, below, end = expression_at(text, end)
        names, parts, depth = names | more, parts + further, max(depth, below)
    if text[end:end + 1] != ")":
        raise Wrong
    return names, parts, depth + 1, end + 1


def sizes(*words):
    found = [int(word) for word in words if re.fullmatch(NUMBER, word)]
    if len(found) < len(words) or not all(1 <= size <= 40 for size in found):
        raise Wrong
    return found


def different(names):
    if len(set(names)) < len(names) or not all(re.fullmatch(NAME, name) for name in names):
        raise Wrong


def is_text(text):
    """Whether this string is the text of a module."""
    try:
        check(text.split("\n"))
    except Wrong:
        return False
    return True


def check(lines):
    variables, callouts, entries = {}, [], []
    rest = list(lines)
    while rest and rest[0].startswith("variable ") and len(rest[0].split(" ")) == 4:
        _, name, size, first = rest.pop(0).split(" ")
        different([*variables, name])
        variables[name] = sizes(size)[0]
        if not re.fullmatch(NUMBER, first) or int(first) >= variables[name]:
            raise Wrong
    while rest and rest[0].startswith("callout ") and len(rest[0].split(" ")) == 4:
        _, name, arguments, answers = rest.pop(0).split(" ")
        sizes(arguments, answers)
        callouts.append(name)
        different(callouts)
    statements = 0
    while rest:
        if not rest[0].startswith("entry ") or len(rest[0].split(" ")) != 5:
            raise Wrong
        _, name, arguments, results, parameter = rest.pop(0).split(" ")
        entries.append(name)
        different(entries)
        own = {parameter: sizes(arguments, results)[0]}
        while rest and re.fullmatch("  slot [^ ]+ [^ ]+", rest[0]):
            _, slot, size = rest.pop(0).strip().split(" ")
            different([*own, slot])
            own[slot] = sizes(size)[0]
        different([*own, *variables])
        body = []
        while rest and rest[0].startswith("  "):
            body.append(rest.pop(0))
        statements += check_body(body, 1, {*own, *variables}, callouts)
        product = 1
        for size in [*own.values(), *variables.values()]:
            product *= size
        if product > 4000 or len(own) > 4:
            raise Wrong
    if not 1 <= len(entries) <= 5 or len(variables) > 4 or len(callouts) > 5 or statements > 400:
        raise Wrong


def check_body(lines, level, names, callouts):
    """The number of statements in the lines of a body of this level."""
    total, at, before = 0, 0, None
    while at < len(lines):
        if not lines[at].startswith("  " * level) or lines[at][2 * level:2 * level + 1] == " " or level > 8:
            raise Wrong
        made = STATEMENT.fullmatch(lines[at], 2 * level)
        if not made:
            raise Wrong
        found = made.groupdict()
        word = found["assign"] or found["word"] or found["alone"] or found["call"]
        used = set()
        for letter in "abc":
            if found[letter]:
                used |= expression(found[letter])
        used |= {name for name in (found["to"], found["into"]) if name}
        if not used <= names or (found["callout"] and found["callout"] not in callouts):
            raise Wrong
        at += 1
        inside = []
        while at < len(lines) and lines[at].startswith("  " * (level + 1)):
            inside.append(lines[at])
            at += 1
        if word == "else":
            if before not in ("if", "attempt") or not inside:
                raise Wrong
        else:
            total += 1
        if inside and word not in ("if", "while", "attempt", "else"):
            raise Wrong
        total += check_body(inside, level + 1, names, callouts)
        before = word
    return total
