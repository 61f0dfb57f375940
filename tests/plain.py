"""Plain reckonings by the words of the document, to hold the program against. None of them uses the program."""

MOST = 10 ** 60


def is_sign(part):
    return part.startswith("'")


def read(grammar, row):
    """The text, the worth and the spans of a row, by a walk down its tree; None where it is no row."""
    if not grammar:
        return None
    signs = []
    spans = []

    def take(part):
        if is_sign(part):
            signs.append(part[1])
            return True
        place = len(spans)
        if place >= len(row) or not 0 <= row[place] < len(grammar) or grammar[row[place]][0] != part:
            return False
        spans.append(None)
        begin = len(signs)
        for inner in grammar[row[place]][1]:
            if not take(inner):
                return False
        spans[place] = (row[place], begin, len(signs))
        return True

    if not take(grammar[0][0]) or len(spans) != len(row):
        return None
    return "".join(signs), sum(grammar[number][2] for number in row), spans


def rows_of_length(grammar, most, text=None):
    """All rows of at most so many numbers, of this text alone where one is named; sorted as lists."""
    found = []

    def search(row, waiting, signs):
        waiting = list(waiting)
        while waiting and is_sign(waiting[0]):
            signs += waiting.pop(0)[1]
        if text is not None and not text.startswith(signs):
            return
        if text is not None and sum(map(is_sign, waiting)) > len(text) - len(signs):
            return
        if not waiting:
            if text is None or text == signs:
                found.append(list(row))
            return
        if len(row) + sum(not is_sign(part) for part in waiting) > most:
            return
        for number, rule in enumerate(grammar):
            if rule[0] == waiting[0]:
                search(row + [number], list(rule[1]) + waiting[1:], signs)

    if grammar:
        search([], [grammar[0][0]], "")
    return sorted(found)


def by_worth(grammar, rows):
    return sorted(rows, key=lambda row: (read(grammar, row)[1], len(row), row))


def standing(grammar, text):
    """The nodes that stand with their heights, by the steps of point 10, until nothing changes."""
    places = range(len(text) + 1)
    heights = {}
    for place, sign in enumerate(text):
        heights["'" + sign, place, place + 1] = 0
    for number in range(len(grammar)):
        for place in places:
            heights[number, 0, place, place] = 0
    before = None
    while before != heights:
        before = dict(heights)
        for number, (head, parts, worth) in enumerate(grammar):
            for begin in places:
                for end in places[begin:]:
                    for done, part in enumerate(parts, start=1):
                        over = [
                            max(heights[number, done - 1, begin, middle], heights[part, middle, end])
                            for middle in places[begin:end + 1]
                            if (number, done - 1, begin, middle) in heights and (part, middle, end) in heights
                        ]
                        if over:
                            heights[number, done, begin, end] = min(over)
                    whole = heights.get((number, len(parts), begin, end))
                    if whole is not None:
                        known = heights.get((head, begin, end), whole + 1)
                        heights[head, begin, end] = min(known, whole + 1)
    return heights


def ways(grammar, text, nodes, node):
    """The ways of a node by point 11, nodes being those that stand."""
    if len(node) == 3:
        part, begin, end = node
        if is_sign(part):
            return [()]
        wholes = [(number, len(rule[1]), begin, end) for number, rule in enumerate(grammar) if rule[0] == part]
        return [(whole,) for whole in wholes if whole in nodes]
    number, done, begin, end = node
    if done == 0:
        return [()]
    part = grammar[number][1][done - 1]
    pairs = [((number, done - 1, begin, middle), (part, middle, end)) for middle in range(begin, end + 1)]
    return [pair for pair in pairs if pair[0] in nodes and pair[1] in nodes]


def wood(grammar, text):
    """A dict from each node of the wood to its ways."""
    nodes = standing(grammar, text)
    top = (grammar[0][0], 0, len(text)) if grammar else None
    found = {}
    waiting = [top] if top in nodes else []
    while waiting:
        node = waiting.pop()
        if node not in found:
            found[node] = ways(grammar, text, nodes, node)
            for way in found[node]:
                waiting.extend(way)
    return found


def nodes_beneath(found, node):
    """All nodes that one comes to from a node, in one step or more."""
    seen = set()
    waiting = [inner for way in found[node] for inner in way]
    while waiting:
        inner = waiting.pop()
        if inner not in seen:
            seen.add(inner)
            waiting.extend(deeper for way in found[inner] for deeper in way)
    return seen


def ring_nodes(found):
    """The nodes that stand in some ring: those that stand beneath themselves."""
    return {node for node in found if node in nodes_beneath(found, node)}


def settled_nodes(found):
    rings = ring_nodes(found)
    return {node for node in found if node not in rings and not nodes_beneath(found, node) & rings}


def tree_rows(grammar, found, node, most):
    """The rows of at most so many numbers of all trees from a node on, with or without rings, one a tree."""
    known = {inner: [] for inner in found}
    before = None
    while before != known:
        before = {inner: list(rows) for inner, rows in known.items()}
        for inner in found:
            rows = []
            for way in found[inner]:
                if not way:
                    rows.append([inner[0]] if len(inner) == 4 else [])
                elif len(way) == 1:
                    rows.extend(before[way[0]])
                else:
                    rows.extend(one + other for one in before[way[0]] for other in before[way[1]])
            known[inner] = sorted(row for row in rows if len(row) <= most)
    return known[node]


def prices(grammar, found):
    """The least pair of worth and number of rules of each node, until nothing changes."""
    known = {}
    before = None
    while before != known:
        before = dict(known)
        for node in found:
            pairs = []
            for way in found[node]:
                if not way:
                    pairs.append((grammar[node[0]][2], 1) if len(node) == 4 else (0, 0))
                elif all(inner in known for inner in way):
                    pairs.append((sum(known[inner][0] for inner in way), sum(known[inner][1] for inner in way)))
            if pairs:
                known[node] = min(pairs)
    return known


def least(grammar):
    sizes = {}
    before = None
    while before != sizes:
        before = dict(sizes)
        for head, parts, worth in grammar:
            names = [part for part in parts if not is_sign(part)]
            if all(name in sizes for name in names):
                size = 1 + sum(sizes[name] for name in names)
                sizes[head] = min(size, sizes.get(head, size))
    return sizes


def done_deeds(text, deeds):
    """The new text, by a walk through the deeds; None where they are no change of the text."""
    place = 0
    new = ""
    for deed in deeds:
        if deed[0] == "put":
            new += deed[1]
            continue
        if place >= len(text) or text[place] != deed[1]:
            return None
        place += 1
        if deed[0] == "keep":
            new += deed[1]
        elif deed[0] == "swap":
            if deed[1] == deed[2]:
                return None
            new += deed[2]
        elif deed[0] != "cut":
            return None
    return new if place == len(text) else None


def deeds_cost(deeds, costs):
    prices_of = {"put": costs[0], "cut": costs[1], "swap": costs[2], "keep": 0}
    return sum(prices_of[deed[0]] for deed in deeds)


def distance(text, other, costs):
    """The least cost of a change that makes a text into another one."""
    put, cut, swap = costs
    line = [place * put for place in range(len(other) + 1)]
    for sign in text:
        upper = line
        line = [upper[0] + cut]
        for place, wanted in enumerate(other):
            change = 0 if sign == wanted else swap
            line.append(min(upper[place] + change, upper[place + 1] + cut, line[place] + put))
    return line[-1]


def tolls(grammar, text, costs):
    """The tolls by the words of point 23, until nothing changes."""
    put, cut, swap = costs
    places = range(len(text) + 1)
    spans = [(begin, end) for begin in places for end in places[begin:]]
    known = {}
    for begin, end in spans:
        many = end - begin
        for number, (head, parts, worth) in enumerate(grammar):
            known[number, 0, begin, end] = (many * cut, 1)
            for sign in filter(is_sign, parts):
                choices = [many * cut + put]
                if many:
                    choices.append((many - 1) * cut + (0 if sign[1] in text[begin:end] else swap))
                known[sign, begin, end] = (min(choices), 0)
    before = None
    while before != known:
        before = dict(known)
        for begin, end in spans:
            for number, (head, parts, worth) in enumerate(grammar):
                for done, part in enumerate(parts, start=1):
                    pairs = [
                        (known[number, done - 1, begin, middle], known[part, middle, end])
                        for middle in places[begin:end + 1]
                        if (number, done - 1, begin, middle) in known and (part, middle, end) in known
                    ]
                    if pairs:
                        known[number, done, begin, end] = min((a + c, b + d) for (a, b), (c, d) in pairs)
                whole = known.get((number, len(parts), begin, end))
                if whole is not None:
                    known[head, begin, end] = min(whole, known.get((head, begin, end), whole))
    return known
