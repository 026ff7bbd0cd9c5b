"""Programs: their text, the sends of their hosts, and what is left when they are reduced."""

from fullhands.errors import BadProgram, NoSuch, TooGreat

MOST_HOSTS = 3
MOST_DEPTH = 3
MOST_SENDS = 6
MOST_COUNT = 10 ** 30
MOST_KIND = 5
MOST_DIGITS = 31


class HostWords:
    """The words of a line, which are taken one after another."""

    def __init__(self, line, words):
        self._line = line
        self._words = words
        self._at = 0

    def is_at(self, word):
        return self._words[self._at:self._at + 1] == [word]

    def is_over(self):
        return self._at == len(self._words)

    def take(self, word):
        """Go on behind this word. Raises BadProgram if another one, or none, comes next."""
        if not self.is_at(word):
            raise BadProgram(self._line, self._at)
        self._at += 1

    def take_number(self, least, most, other=None):
        """Go on behind a number in this range that is not the other one. Raises BadProgram if none comes next."""
        number = None if self.is_over() else number_of(self._words[self._at])
        if number is None or not least <= number <= most or number == other:
            raise BadProgram(self._line, self._at)
        self._at += 1
        return number


def program_text(program):
    """The text of the program, a line for each host."""
    return "\n".join(["host " + row_text(host) for host in program])


def read_program(text):
    """The program of a text. Raises BadProgram, TooGreat."""
    rows = [line.split(" ") for line in text.split("\n")]
    program = tuple([read_host(HostWords(index + 1, words)) for index, words in enumerate(rows)])
    if len(rows) > MOST_HOSTS:
        raise TooGreat("hosts")
    if any([depth_of(words) > MOST_DEPTH for words in rows]):
        raise TooGreat("depth")
    if sum([words.count("send") for words in rows]) > MOST_SENDS:
        raise TooGreat("sends")
    return program


def sends(program, host):
    """The sends of the host in the order in which they are written. Raises NoSuch."""
    need_host(program, host)
    return sends_within(program[host])


def reduced(program):
    """The program without agains and without the sends that others cover."""
    return tuple([uncovered(sends_within(host)) for host in program])


def need_host(program, host):
    if not 0 <= host < len(program):
        raise NoSuch("host")


def row_text(statements):
    return " ; ".join([statement_text(statement) for statement in statements])


def statement_text(statement):
    if statement[0] == "again":
        _, rounds, body = statement
        return f"again {rounds} ( {row_text(body)} )"
    _, flows, window = statement
    told = " and ".join([f"{many} of {kind}" for many, kind in flows])
    if window is None:
        return f"send {told}"
    return f"send {told} window {window}"


def read_host(words):
    """The statements of a host line. Raises BadProgram."""
    words.take("host")
    # The rows of statements that are not ended yet, the outermost first, and the rounds of the agains around them.
    rows = [[]]
    rounds = []
    while True:
        while words.is_at("again"):
            rounds.append(read_again(words))
            rows.append([])
        rows[-1].append(read_send(words))
        while rounds and words.is_at(")"):
            words.take(")")
            body = tuple(rows.pop())
            rows[-1].append(("again", rounds.pop(), body))
        if words.is_over() and not rounds:
            return tuple(rows[0])
        words.take(";")


def read_again(words):
    """The rounds of an again, up to the beginning of its body. Raises BadProgram."""
    words.take("again")
    rounds = words.take_number(1, MOST_COUNT)
    words.take("(")
    return rounds


def read_send(words):
    """A whole send. Raises BadProgram."""
    words.take("send")
    flows = [read_flow(words, None)]
    if words.is_at("and"):
        words.take("and")
        flows.append(read_flow(words, flows[0][1]))
    window = None
    if words.is_at("window"):
        words.take("window")
        window = words.take_number(1, MOST_COUNT)
    return ("send", tuple(flows), window)


def read_flow(words, other):
    """A count and a kind that is not the other one. Raises BadProgram."""
    many = words.take_number(1, MOST_COUNT)
    words.take("of")
    return (many, words.take_number(0, MOST_KIND, other))


def number_of(word):
    """The number that the word writes, or None if it writes none, or one with too many digits for any range."""
    if not (word.isascii() and word.isdigit()) or len(word) > MOST_DIGITS:
        return None
    if word[0] == "0" and word != "0":
        return None
    return int(word)


def depth_of(words):
    """How deep the agains of a right line stand in each other."""
    depth = 0
    deepest = 0
    for word in words:
        if word == "(":
            depth += 1
        if word == ")":
            depth -= 1
        deepest = max(deepest, depth)
    return deepest


def sends_within(statements):
    """The sends among these statements and within their agains."""
    found = []
    for statement in statements:
        if statement[0] == "again":
            found.extend(sends_within(statement[2]))
        else:
            _, flows, window = statement
            found.append(("send", tuple([tuple(flow) for flow in flows]), window))
    return found


def uncovered(row):
    """Those of these sends that are left when the program is reduced."""
    kept = []
    for at, send in enumerate(row):
        above = [other for other in row[:at] if covers(other, send)]
        below = [other for other in row[at + 1:] if covers(other, send) and not covers(send, other)]
        if not above and not below:
            kept.append(send)
    return tuple(kept)


def covers(one, other):
    """True if the reach of the first send is at least as great for every set of kinds."""
    kinds = [kind for _, kind in other[1]]
    # For a kind that the other one does not send, only the reach of the first one could be greater.
    sets = [kinds] + [[kind] for kind in kinds]
    return all([reach(one, some) >= reach(other, some) for some in sets])


def reach(send, kinds):
    """How many dishes of these kinds can be on the way at once, as far as the send goes."""
    _, flows, window = send
    together = sum([many for many, kind in flows if kind in kinds])
    return together if window is None else min(window, together)
