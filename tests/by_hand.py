"""What the document promises of its parts 3 to 8, worked out in other words than the program's."""

import functools
import itertools
import math
from fractions import Fraction

from draftward.models import model_weights, rows_of
from draftward.tokens import is_vocabulary, size, to_text
from samples import is_int
from test_models import is_right as is_right_model
from test_models import is_right_row


def are_ints_from(thing, least):
    return type(thing) is tuple and all(is_int(item) and item >= least for item in thing)


def are_right_tokens(thing, many, least=1):
    return are_ints_from(thing, least) and all(item < many for item in thing)


def is_right_step(thing, many):
    if type(thing) is not tuple or not thing or type(thing[0]) is not str:
        return False
    word, *given = thing
    if word == "ban":
        return len(given) == 1 and are_right_tokens(given[0], many, 0) and list(given[0]) == sorted(set(given[0]))
    if not all(map(is_int, given)):
        return False
    if word in ("power", "greatest", "least"):
        return len(given) == 1 and given[0] >= (0 if word == "least" else 1)
    if word == "seen":
        return len(given) == 2 and min(given) >= 1
    return word == "share" and len(given) == 2 and 1 <= given[0] <= given[1]


def are_right_settings(thing, many):
    return type(thing) is tuple and all(is_right_step(step, many) for step in thing)


def is_right_drafting(thing, many):
    if type(thing) is not tuple or len(thing) != 3:
        return False
    draft, settings, plan = thing
    if not is_right_model(draft) or draft[1] != many or not are_right_settings(settings, many):
        return False
    if type(plan) is not tuple or not plan:
        return False
    return all(type(item) is tuple and len(item) == 2 and item[0] in ("row", "several") and is_int(item[1])
               and item[1] >= 1 for item in plan)


def is_right_grammar(thing):
    if type(thing) is not tuple or len(thing) != 5 or thing[0] != "grammar":
        return False
    _, states, start, finals, moves = thing
    if not is_int(states) or states < 1 or not is_int(start) or not 0 <= start < states:
        return False
    if not are_right_tokens(finals, states, 0) or list(finals) != sorted(set(finals)) or type(moves) is not tuple:
        return False
    for move in moves:
        if type(move) is not tuple or len(move) != 3 or not are_right_tokens((move[0], move[2]), states, 0):
            return False
        if type(move[1]) is not str or len(move[1]) != 1 or move[1] not in "abcdefghijklmnopqrstuvwxyz":
            return False
    return list(moves) == sorted(moves) and len({move[:2] for move in moves}) == len(moves)


def is_right_request(model, vocabulary, thing):
    """Tell whether thing is a request that fits [7.6]."""
    if type(thing) is not tuple or len(thing) != 7 or thing[0] != "request":
        return False
    _, prompt, most, settings, drafting, grammar, tape = thing
    if not are_right_tokens(prompt, model[1]) or not prompt or not is_int(most) or not 1 <= most <= 40:
        return False
    if not are_right_settings(settings, model[1]) or not are_ints_from(tape, 0):
        return False
    if drafting is not None and not is_right_drafting(drafting, model[1]):
        return False
    if grammar is None:
        return True
    if vocabulary is None or size(vocabulary) != model[1] or not is_right_grammar(grammar):
        return False
    return (model[1] - 1) ** most <= 200 and ending(plain(model, settings, prompt), vocabulary, grammar, most, ()) > 0


def next_weights(model, settings, tokens, answered):
    """Return the next weights [3.2] as a list."""
    weights = list(model_weights(model, tokens))
    everything = range(len(weights))
    for word, *given in settings:
        before = list(weights)

        def greater(token):
            return [other for other in everything if (-before[other], other) < (-before[token], token)]

        for token in everything:
            if word == "power":
                weights[token] = math.prod(given[0] * [before[token]])
            elif word == "greatest":
                weights[token] *= len(greater(token)) < given[0]
            elif word == "share":
                weights[token] *= sum(before[other] for other in greater(token)) * given[1] < given[0] * sum(before)
            elif word == "ban":
                weights[token] *= token not in given[0]
            elif word == "seen":
                weights[token] *= given[0] if token in tokens else given[1]
            elif word == "least" and token == 0:
                weights[token] *= answered >= given[0]
        if not any(weights):
            weights[0] = 1
    return weights


def plain(model, settings, prompt):
    """Return the function that gives the next weights after an answer."""
    found = {}

    def after(answer):
        if answer not in found:
            found[answer] = next_weights(model, settings, prompt + answer, len(answer))
        return found[answer]

    return after


def answers(many, most):
    """Yield all answers of at most `most` tokens."""
    for length in range(most + 1):
        yield from itertools.product(range(1, many), repeat=length)


def outcomes(many, most):
    """Return all outcomes, in ascending order."""
    return sorted((answer, "most" if len(answer) == most else "end") for answer in answers(many, most))


def chance(after, outcome, begin=0):
    """Return the product of the chances of the draws of the outcome, from that of the token at begin on."""
    answer, reason = outcome
    draws = [*answer, 0] if reason == "end" else answer
    found = Fraction(1)
    for at in range(begin, len(draws)):
        weights = after(answer[:at])
        found *= Fraction(weights[draws[at]], sum(weights))
    return found


def chances(after, many, most):
    """Return the pairs of all outcomes that can come and their chances."""
    found = [(outcome, chance(after, outcome)) for outcome in outcomes(many, most)]
    return tuple((outcome, pair(worth)) for outcome, worth in found if worth)


def pair(worth):
    return (worth.numerator, worth.denominator)


def state_after(grammar, text):
    state = grammar[2]
    for letter in text:
        targets = [target for source, word, target in grammar[4] if (source, word) == (state, letter)]
        if not targets:
            return None
        state, = targets
    return state


def fits(vocabulary, grammar, answer):
    return state_after(grammar, to_text(vocabulary, answer)) in grammar[3]


def ending(after, vocabulary, grammar, most, answer):
    """Return the sum of the chances, from the answer on, of all outcomes that begin with it and fit."""
    if len(answer) == most:
        return Fraction(fits(vocabulary, grammar, answer))
    many = size(vocabulary)
    found = Fraction(0)
    for rest in answers(many, most - len(answer)):
        whole = answer + rest
        if fits(vocabulary, grammar, whole):
            found += chance(after, (whole, "most" if len(whole) == most else "end"), len(answer))
    return found


def bound(after, vocabulary, grammar, most):
    """Return the function that gives the bound weights [7.3] after an answer."""
    found = {}

    def work_out(answer):
        weights = after(answer)
        parts = [Fraction(weights[0] * fits(vocabulary, grammar, answer), sum(weights))]
        for token in range(1, len(weights)):
            more = ending(after, vocabulary, grammar, most, (*answer, token))
            parts.append(Fraction(weights[token], sum(weights)) * more)
        whole = math.lcm(*[part.denominator for part in parts])
        numbers = [int(part * whole) for part in parts]
        return [number // math.gcd(*numbers) for number in numbers]

    def bound_after(answer):
        if answer not in found:
            found[answer] = work_out(answer)
        return found[answer]

    return bound_after


class Draws:
    """The draws from a tape, from a position on."""

    def __init__(self, tape, used=0):
        self.left = list(tape[used:])
        self.used = used

    def below(self, whole):
        self.used += 1
        return (self.left.pop(0) if self.left else 0) % whole

    def token(self, weights):
        number = self.below(sum(weights))
        return min(token for token in range(len(weights)) if sum(weights[:token + 1]) > number)

    def tried(self, token, p, q):
        return self.below(sum(p) * q[token]) < p[token] * sum(q)


def rest(p, q):
    return [max(0, one * sum(q) - other * sum(p)) for one, other in zip(p, q)]


def round_of(p, q, plan, most, answer, draws, number):
    """Return (settled, reason) of a round [6.1], [6.3], [6.4], for functions that give the weights after answers."""
    settled = []
    if plan is None:
        settled.append(draws.token(p(answer)))
    elif plan[number % len(plan)][0] == "several":
        weights = p(answer)
        for _ in range(plan[number % len(plan)][1]):
            token = draws.token(q(answer))
            if draws.tried(token, weights, q(answer)):
                settled.append(token)
                break
            weights = rest(weights, q(answer))
        if not settled:
            settled.append(draws.token(weights))
    else:
        settled = row_of(p, q, plan[number % len(plan)][1], most, answer, draws)
    if settled[-1] == 0:
        return tuple(settled[:-1]), "end"
    return tuple(settled), "most" if len(answer) + len(settled) == most else None


def row_of(p, q, n, most, answer, draws):
    drafted = []
    for _ in range(min(n, most - len(answer))):
        drafted.append(draws.token(q((*answer, *drafted))))
        if drafted[-1] == 0:
            break
    for at, token in enumerate(drafted):
        before = (*answer, *drafted[:at])
        if not draws.tried(token, p(before), q(before)):
            return [*drafted[:at], draws.token(rest(p(before), q(before)))]
    if drafted[-1] != 0 and len(answer) + len(drafted) < most:
        drafted.append(draws.token(p((*answer, *drafted))))
    return drafted


def writers_of(model, vocabulary, request):
    """Return the functions of the weights and of the draft weights, and the plan, of a request."""
    _, prompt, most, settings, drafting, grammar, _ = request
    p = plain(model, settings, prompt)
    if grammar is not None:
        p = bound(p, vocabulary, grammar, most)
    if drafting is None:
        return p, None, None
    return p, plain(drafting[0], drafting[1], prompt), drafting[2]


@functools.lru_cache(maxsize=None)
def course(model, vocabulary, request):
    """Return the list of (answer, used) before each round of the request alone, and (answer, reason, used, rounds)."""
    p, q, plan = writers_of(model, vocabulary, request)
    draws = Draws(request[6])
    before = []
    answer, reason = (), None
    while reason is None:
        before.append((answer, draws.used))
        settled, reason = round_of(p, q, plan, request[2], answer, draws, len(before) - 1)
        answer += settled
    return before, (answer, reason, draws.used, len(before))


def held(pool, numbers):
    """Return the pairs of the pages with these numbers."""
    return tuple(itertools.chain.from_iterable(pool[1][at] for at in numbers))


def is_right_pool(model, thing):
    """Tell whether thing is a pool [4.1]."""
    if type(thing) is not tuple or len(thing) != 3 or not is_int(thing[0]) or thing[0] < 1:
        return False
    places, pages, lists = thing
    if type(pages) is not tuple or type(lists) is not tuple:
        return False
    for page in pages:
        if page is not None:
            if type(page) is not tuple or not 1 <= len(page) <= places:
                return False
            for item in page:
                if type(item) is not tuple or len(item) != 2 or not are_right_tokens(item[:1], model[1], 0):
                    return False
                if not is_right_row(model, item[1]):
                    return False
    return are_right_lists(places, pages, lists)


def are_right_lists(places, pages, lists):
    used = set()
    for item in lists:
        if type(item) is not tuple or len(item) != 2 or not is_int(item[0]) or item[0] < 0:
            return False
        if not are_ints_from(item[1], 0) or len(set(item[1])) < len(item[1]):
            return False
        if any(at >= len(pages) or pages[at] is None for at in item[1]):
            return False
        if any(len(pages[at]) < places for at in item[1][:-1]):
            return False
        used |= set(item[1])
    numbers = [number for number, _ in lists]
    return numbers == sorted(set(numbers)) and used == {at for at, page in enumerate(pages) if page is not None}


def is_true_pool(model, pool):
    for _, numbers in pool[2]:
        pairs = held(pool, numbers)
        if pairs and rows_of(model, tuple(token for token, _ in pairs)) != tuple(row for _, row in pairs):
            return False
    return True


class Pool:
    """A pool whose pages and lists change in place [4.2]."""

    def __init__(self, pool):
        self.places = pool[0]
        self.pages = [None if page is None else list(page) for page in pool[1]]
        self.lists = {number: list(numbers) for number, numbers in pool[2]}

    def value(self):
        self.free()
        pages = tuple(None if page is None else tuple(page) for page in self.pages)
        return self.places, pages, tuple((number, tuple(self.lists[number])) for number in sorted(self.lists))

    def free(self):
        for at in range(len(self.pages)):
            if not any(at in numbers for numbers in self.lists.values()):
                self.pages[at] = None

    def kept(self, number):
        return [pair for at in self.lists[number] for pair in self.pages[at]]

    def join(self, number, tokens):
        best = []
        for other in sorted(self.lists):
            for many in range(len(self.lists[other]) + 1):
                numbers = self.lists[other][:many]
                pairs = [pair for at in numbers for pair in self.pages[at]]
                if len(pairs) == many * self.places < len(tokens) and many > len(best):
                    if [token for token, _ in pairs] == list(tokens[:len(pairs)]):
                        best = numbers
        self.lists[number] = list(best)

    def add(self, number, token, row):
        """Return whether there is a page for the pair."""
        numbers = self.lists[number]
        before = []
        if len(self.kept(number)) % self.places:
            last = numbers[-1]
            if sum(last in others for others in self.lists.values()) == 1:
                self.pages[last].append((token, row))
                return True
            before = self.pages[last]
        self.free()
        if None not in self.pages:
            return False
        if before:
            numbers.pop()
        at = self.pages.index(None)
        self.pages[at] = [*before, (token, row)]
        numbers.append(at)
        return True

    def copy(self, number, new):
        self.lists[new] = list(self.lists[number])

    def clear(self, number):
        del self.lists[number]

    def lose(self, number):
        self.lists[number] = []


def is_right_server(thing):
    if type(thing) is not tuple or len(thing) != 6:
        return False
    model, vocabulary, *numbers, table = thing
    if not is_right_model(model) or not all(is_int(number) and number >= 1 for number in numbers):
        return False
    if vocabulary is not None and (not is_vocabulary(vocabulary) or size(vocabulary) != model[1]):
        return False
    return type(table) is tuple and len(table) > 0 and all(
        type(row) is tuple and len(row) > 0 and set(map(repr, row)) <= {"'go'", "'wait'", "'lose'"} for row in table)


def are_right_arrivals(server, thing):
    if type(thing) is not tuple:
        return False
    last = 0
    for item in thing:
        if type(item) is not tuple or len(item) != 2 or not is_int(item[0]) or item[0] < last:
            return False
        if not is_right_request(server[0], server[1], item[1]):
            return False
        last = item[0]
    return True


def need(server, request):
    return math.ceil(Fraction(len(request[1]) + request[2] - 1, server[3]))


def is_right_standing(server, arrivals, thing):
    """Tell whether thing is a standing: the form of [5.2], and what the interface says of is_standing."""
    if type(thing) is not tuple or len(thing) != 4 or not is_int(thing[0]) or thing[0] < 0:
        return False
    _, pool, active, done = thing
    if type(active) is not tuple or type(done) is not tuple:
        return False
    courses = [course(server[0], server[1], request) for _, request in arrivals]
    seen = []
    for item in active:
        if type(item) is not tuple or len(item) != 4 or not are_right_tokens(item[:1], len(arrivals), 0):
            return False
        number, answer, used, rounds = item
        if not is_int(rounds) or not 0 <= rounds < len(courses[number][0]):
            return False
        if repr(courses[number][0][rounds]) != repr((answer, used)) or need(server, arrivals[number][1]) > server[2]:
            return False
        seen.append(number)
    if sum(need(server, arrivals[number][1]) for number in seen) > server[2]:
        return False
    for item in done:
        if type(item) is not tuple or len(item) != 2 or not are_right_tokens(item[:1], len(arrivals), 0):
            return False
        if repr(item[1]) != repr(outcome_of(server, arrivals[item[0]][1])):
            return False
        seen.append(item[0])
    if len(set(seen)) < len(seen) or [item[0] for item in done] != sorted(item[0] for item in done):
        return False
    return is_right_pool(server[0], pool) and is_pool_of_active(server, arrivals, pool, active)


def is_pool_of_active(server, arrivals, pool, active):
    if pool[0] != server[3] or len(pool[1]) != server[2] or not is_true_pool(server[0], pool):
        return False
    lists = dict(pool[2])
    if set(lists) != {item[0] for item in active}:
        return False
    for number, answer, _, _ in active:
        tokens = arrivals[number][1][1] + answer
        mine = tuple(token for token, _ in held(pool, lists[number]))
        if mine != tokens[:len(mine)]:
            return False
    return True


def outcome_of(server, request):
    """Return the outcome that the request has, whatever else the server does [5.5]."""
    if need(server, request) > server[2]:
        return ("refused",)
    return course(server[0], server[1], request)[1][:2]


def step(server, arrivals, standing, told=None):
    """Return the standing after a step [5.4], worked out with a pool that changes in place.

    What happens is appended to told, as in a trace [12.2], for rounds with what is used then.
    """
    model, vocabulary, many, _, chunk, table = server
    told = [] if told is None else told
    now, pool, active, done = standing
    pool, active, done = Pool(pool), list(active), dict(done)
    for number, (arrived, request) in enumerate(arrivals):
        if arrived <= now and number not in done and number not in [row[0] for row in active]:
            if need(server, request) > many:
                done[number] = ("refused",)
                told.append(("refused", number))
                continue
            if sum(need(server, arrivals[k][1]) for k in [number, *[row[0] for row in active]]) > many:
                break
            active.append((number, (), 0, 0))
            pool.join(number, request[1])
            pool.free()
            told.append(("admitted", number, len(pool.kept(number))))
    words = table[now % len(table)]
    for at, (number, answer, used, rounds) in enumerate(list(active)):
        request = arrivals[number][1]
        word = "go" if at == 0 else words[at % len(words)]
        tokens = request[1] + answer
        begin = len(pool.kept(number))
        if word == "lose":
            pool.lose(number)
            told.append(("loses", number))
        elif word == "wait":
            told.append(("waits", number))
        elif begin < len(tokens):
            for k in range(begin, min(begin + chunk, len(tokens))):
                assert pool.add(number, tokens[k], rows_of(model, tokens[:k + 1])[-1])
            told.append(("works", number, tokens[begin:begin + chunk]))
        else:
            draws = Draws(request[6], used)
            settled, reason = round_of(*writers_of(model, vocabulary, request), request[2], answer, draws, rounds)
            active[at] = (number, answer + settled, draws.used, rounds + 1)
            told.append(("round", number, settled, reason, draws.used))
            if reason is not None:
                done[number] = (answer + settled, reason)
                active[at] = None
                pool.clear(number)
        pool.free()
    active = tuple(row for row in active if row is not None)
    return now + 1, pool.value(), active, tuple(sorted(done.items()))


def begun(server):
    return 0, (server[3], (None,) * server[2], ()), (), ()


def run(server, arrivals, standing=None):
    """Return the last standing, and what happened in each step, until all arrivals have outcomes."""
    standing = standing or begun(server)
    steps = []
    while len(standing[3]) < len(arrivals):
        steps.append([])
        standing = step(server, arrivals, standing, steps[-1])
    return standing, steps


def most_steps_of(server, request):
    """Return the bound of a request [8.1]; 0 if it is refused."""
    if need(server, request) > server[2]:
        return 0
    return math.ceil(Fraction(len(request[1]) + request[2], server[4])) + 2 * request[2]


def most_steps(server, arrivals, standing=None):
    """Return after how many steps from the standing, or the beginning, all outcomes are there at the latest."""
    now, _, _, done = standing or begun(server)
    last = max([at for at, _ in arrivals], default=0)
    lacking = [request for number, (_, request) in enumerate(arrivals) if number not in dict(done)]
    return max(0, last - now) + sum(most_steps_of(server, request) for request in lacking) + 1
