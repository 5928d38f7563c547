"""What the document promises of journals, texts and traces in its parts 10 and 12, in other words than the program's."""

import by_hand
from draftward.models import is_model
from draftward.tokens import is_vocabulary, to_text
from samples import is_int


def rows_of_request(server, request):
    """Return what stands behind its number in all rows of the request."""
    if by_hand.need(server, request) > server[2]:
        return [("refused",)]
    before, (answer, reason, used, rounds) = by_hand.course(server[0], server[1], request)
    states = [*before, (answer, used)]
    found = []
    for at in range(rounds):
        settled = states[at + 1][0][len(states[at][0]):]
        found.append((settled, reason if at == rounds - 1 else None, states[at + 1][1]))
    return found


def journal(server, arrivals, steps=None):
    """Return the journal after so many steps, or of the whole run."""
    found = []
    for entries in by_hand.run(server, arrivals)[1][:steps]:
        for entry in entries:
            if entry[0] == "refused":
                found.append((entry[1], "refused"))
            elif entry[0] == "round":
                found.append(entry[1:])
    return tuple(found)


def is_right_journal(server, arrivals, thing):
    """Tell whether thing is a beginning of a journal, as the interface says it."""
    if type(thing) is not tuple:
        return False
    left = [rows_of_request(server, request) for _, request in arrivals]
    begun = set()
    for row in thing:
        if type(row) is not tuple or not row or not is_int(row[0]) or not 0 <= row[0] < len(arrivals):
            return False
        if not left[row[0]] or repr(left[row[0]].pop(0)) != repr(row[1:]):
            return False
        begun.add(row[0])
        going = [number for number in begun if left[number]]
        if sum(by_hand.need(server, arrivals[number][1]) for number in going) > server[2]:
            return False
    return True


def gone_on(server, arrivals, rows, step):
    """Return the standing that is made of a right journal [10.2]."""
    active, outcomes = [], []
    for number, (_, request) in enumerate(arrivals):
        mine = [row[1:] for row in rows if row[0] == number]
        if mine == [("refused",)]:
            outcomes.append((number, ("refused",)))
        elif mine:
            answer = sum((settled for settled, _, _ in mine), ())
            if mine[-1][1] is None:
                active.append((number, answer, mine[-1][2], len(mine)))
            else:
                outcomes.append((number, (answer, mine[-1][1])))
    pool = (server[3], (None,) * server[2], tuple((row[0], ()) for row in active))
    return step, pool, tuple(active), tuple(outcomes)


def shown(server, arrivals, rows):
    """Return what is shown of each request after a right journal."""
    found = []
    for number in range(len(arrivals)):
        tokens = sum((row[1] for row in rows if row[0] == number and row[1] != "refused"), ())
        found.append(tokens if server[1] is None else to_text(server[1], tokens))
    return tuple(found)


def trace(server, arrivals):
    """Return the trace of a run [12.2]."""
    return tuple(tuple(entry[:4] for entry in entries) for entries in by_hand.run(server, arrivals)[1])


def trace_certificate(right, thing):
    """Return the certificate for a trace [12.3]."""
    if type(thing) is not tuple or any(type(step) is not tuple for step in thing):
        return ("none",)
    for t in range(min(len(right), len(thing))):
        shorter = min(len(right[t]), len(thing[t]))
        for i in range(shorter):
            if repr(right[t][i]) != repr(thing[t][i]):
                return "wrong", t, i
        if len(right[t]) != len(thing[t]):
            return "wrong", t, shorter
    return ("right",) if len(right) == len(thing) else ("wrong", min(len(right), len(thing)), 0)


def is_number_word(word):
    """Tell whether the word is just what Python writes for some integer."""
    digits = word[1:] if word[:1] == "-" else word
    return set(digits) <= set("0123456789") and digits != "" and str(int(word)) == word


def integers(line, word, many):
    """Return the integers of a line of the word and of so many of them, or None."""
    first, *words = line.split(" ")
    if first != word or len(words) != many or not all(map(is_number_word, words)):
        return None
    return tuple(map(int, words))


def vocabulary_begins(lines):
    """Return whether some text of a vocabulary begins with the lines, and the vocabulary if they are all of one."""
    if not lines:
        return True, None
    words = lines[0].split(" ")
    merges = tuple(integers(line, "merge", 2) for line in lines[1:])
    if len(words) != 2 or words[0] != "letters" or not is_vocabulary(("vocabulary", words[1], merges)):
        return False, None
    return True, ("vocabulary", words[1], merges)


def window_begins(lines, many, k):
    if len(lines) == 1:
        return True, None
    default = integers(lines[1], "default", many)
    entries = []
    for line in lines[2:]:
        at = line.find(":")
        words = line[:at].split(" ")[1:]
        weights = integers(line[at + 1:], "", many)
        if at < 0 or line[:5] != "after" or line[5:6] not in (" ", ":") or not all(map(is_number_word, words)):
            return False, None
        entries.append((tuple(map(int, words)), weights))
    model = ("window", many, k, tuple(entries), default)
    return (True, model) if is_model(model) else (False, None)


def network_begins(lines, many, width):
    """Find for the lines behind the first one the words that some network of them all would have."""
    read = [(line.split(" ")[0], integers(line, line.split(" ")[0], width)) for line in lines[1:]]
    if any(vector is None for _, vector in read):
        return False, None
    if not read or many > len(read):
        return all(word == "embed" for word, _ in read), None
    words = [word for word, _ in read]
    vectors = [vector for _, vector in read]
    places = max(1, words.count("place"))
    layers = max(0, -(-sum(word in ("query", "key", "worth", "mix") for word in words) // (4 * width)))
    layer = [word for word in ("query", "key", "worth", "mix") for _ in range(width)]
    right = ["embed"] * many + ["place"] * places + layer * layers + ["out"] * many
    if right[:len(words)] != words:
        return False, None
    if words != right:
        return True, None
    begin = many + places
    matrices = [tuple(vectors[at:at + width]) for at in range(begin, begin + len(layer) * layers, width)]
    found = tuple(tuple(matrices[at:at + 4]) for at in range(0, len(matrices), 4))
    return True, ("net", many, width, tuple(vectors[:many]), tuple(vectors[many:begin]), found, tuple(vectors[-many:]))


def model_begins(lines):
    """Return whether some text of a model begins with the lines, and the model if they are all of one."""
    if not lines:
        return True, None
    word = lines[0].split(" ")[0]
    given = integers(lines[0], word, 2)
    if word not in ("window", "net") or given is None or given[0] < 2 or given[1] < (0 if word == "window" else 1):
        return False, None
    if word == "net":
        return network_begins(lines, *given)
    return window_begins(lines, *given)


def reading(begins, text):
    """Return ("read", value), or ("bad", at) with the number that BadLine carries."""
    if type(text) is not str:
        return "bad", 0
    lines = text.split("\n")
    for many in range(1, len(lines) + 1):
        if not begins(lines[:many])[0]:
            return "bad", many
    value = begins(lines)[1]
    return ("bad", len(lines) + 1) if value is None else ("read", value)
