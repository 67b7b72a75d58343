"""The document told a second time, as plainly as all of Python allows, to hold the program against."""

import re
from fractions import Fraction
from math import isqrt

FRACTION = re.compile(r"(-?)([0-9]{1,100})(?:/([0-9]{1,100}))?\Z")
PLAIN = "true false nil bind ret pair fst snd cons add sub mul div root floor rest less same".split()
SMALL = "get free fn call fold skip unless part".split()
ARITHMETIC = ("add", "sub", "mul", "div", "floor", "rest")


class Wrong(Exception):
    pass


def fraction(text):
    found = FRACTION.match(text)
    if not found or (found.group(3) is not None and int(found.group(3)) == 0):
        raise Wrong()
    value = Fraction(int(found.group(2)), int(found.group(3) or "1"))
    return -value if found.group(1) else value


def small(token, least, most):
    if not re.match(r"[0-9]{1,3}\Z", token) or not least <= int(token) <= most:
        raise Wrong()
    return int(token)


def read(text):
    """(0, blocks) or (1, place)."""
    if len(text) > 6000:
        return 1, len(text)
    tokens = [(found.group(), found.start()) for found in re.finditer(r"[^ ]+", text)]
    blocks = []
    need = ["block"]
    for token, place in tokens:
        try:
            if not need or need == ["block"]:
                if token == "block":
                    if len(blocks) == 60:
                        raise Wrong()
                    blocks.append([None, None, []])
                    need = ["K", "S"]
                    continue
                if need or len(blocks[-1][2]) == 300:
                    raise Wrong()
                if token not in PLAIN + SMALL + ["num", "pow"]:
                    raise Wrong()
                blocks[-1][2].append([token])
                need = {"num": ["q", "w"], "pow": ["p"]}.get(token, ["i"] if token in SMALL else [])
                continue
            wanted = need[0]
            need = need[1:]
            if wanted == "K":
                blocks[-1][0] = small(token, 0, 60)
            elif wanted == "S":
                blocks[-1][1] = small(token, 0, 0 if len(blocks) == 1 else 1)
            elif wanted == "q":
                blocks[-1][2][-1].append(fraction(token))
            elif wanted == "w":
                blocks[-1][2][-1].append(small(token, 1, 200))
            elif wanted == "p":
                if not re.match(r"-?[0-9]\Z", token):
                    raise Wrong()
                blocks[-1][2][-1].append(int(token))
            else:
                blocks[-1][2][-1].append(small(token, 0, 999))
        except Wrong:
            return 1, place
    return (1, len(text)) if need else (0, blocks)


def takes(instruction, blocks):
    word = instruction[0]
    if word == "fn":
        return blocks[instruction[1]][0]
    for count, words in ((1, "bind unless part fst snd pow root ret"), (3, "fold"),
                         (2, "pair cons add sub mul div floor rest less same call")):
        if word in words.split():
            return count
    return 0


def go_through(blocks, number):
    """(fault, place) of a block or None, and the ways in which each instruction is reached."""
    made_with, itself, instructions = blocks[number]
    beginning = made_with + (itself + 1 if number else 0)
    ways = [set() for _ in range(len(instructions) + 1)]
    ways[0].add((0, beginning))
    for at, instruction in enumerate(instructions):
        word = instruction[0]
        n = instruction[1] if len(instruction) == 2 else None
        if not ways[at]:
            return (7, at), ways
        if len(ways[at]) > 1:
            return (6, at), ways
        (height, count), = ways[at]
        if word == "fn" and (n == 0 or n >= len(blocks)):
            return (2, at), ways
        if word == "get" and n >= count or word == "free" and count - n < beginning:
            return (3, at), ways
        if height < takes(instruction, blocks):
            return (4, at), ways
        jumps = word in ("skip", "unless", "part")
        if jumps and at + 1 + n >= len(instructions):
            return (5, at), ways
        if word == "ret" and height != 1:
            return (8, at), ways
        height -= takes(instruction, blocks)
        height += word not in ("bind", "free", "skip", "unless", "part", "ret")
        if jumps:
            ways[at + 1 + n].add((height, count))
        if word == "bind":
            count += 1
        elif word == "free":
            count -= n
        elif word == "part":
            count += 2
        if word not in ("ret", "skip"):
            ways[at + 1].add((height, count))
    return ((9, len(instructions)) if ways[-1] else None), ways


def shown(value):
    """A value as text; a number with its weight behind a colon."""
    sort = value[0]
    if sort == "number":
        return str(value[1]) + ":" + str(value[2])
    if sort == "truth":
        return "true" if value[1] else "false"
    if sort == "function":
        return "fn" + str(value[1]) + "{" + ", ".join([shown(one) for one in value[2]]) + "}"
    inside = ", ".join([shown(one) for one in value[1]])
    return "[" + inside + "]" if sort == "list" else "(" + inside + ")"


def plain(value):
    """A value as it's shown."""
    sort = value[0]
    if sort == "number":
        return str(value[1])
    if sort == "function":
        return "fn"
    if sort == "truth":
        return str(value[1]).lower()
    inside = ", ".join(map(plain, value[1]))
    return "[" + inside + "]" if sort == "list" else "(" + inside + ")"


def numbers_in(value):
    """The fractions among a value's parts."""
    if value[0] == "number":
        return [value[1]]
    return sum(map(numbers_in, value[1]), []) if value[0] in ("list", "pair") else []


def parts(value):
    return 1 + sum(map(parts, value[1])) if value[0] in ("list", "pair") else 1


def told_or_not(values, shown):
    """[-6] or 0 and the text."""
    large = [q for value in values for q in numbers_in(value) if max(abs(q.numerator), q.denominator) >= 10 ** 1000]
    if sum(map(parts, values)) > 2000 or large or len(shown()) > 8000:
        return [-6]
    return [0] + list(shown().encode())


def value_text(text, at, depth):
    """A value and the place behind it; blanks before both are passed over."""
    def over(place):
        while place < len(text) and text[place] == " ":
            place += 1
        return place
    at = over(at)
    sign = text[at:at + 1]
    if sign in ("[", "("):
        if depth == 40:
            raise Wrong()
        inside = []
        at = over(at + 1)
        end = "]" if sign == "[" else ")"
        if sign == "[" and text[at:at + 1] == "]":
            return ("list", []), over(at + 1)
        while True:
            value, at = value_text(text, at, depth + 1)
            inside.append(value)
            mark = text[at:at + 1]
            if mark not in (",", end):
                raise Wrong()
            at = over(at + 1)
            if mark == end:
                break
        if sign == "(" and len(inside) != 2:
            raise Wrong()
        return ("list" if sign == "[" else "pair", inside), at
    word = re.match(r"[^ ,\[\]()]*", text[at:]).group()
    behind = over(at + len(word))
    if word in ("true", "false"):
        return ("truth", word == "true"), behind
    return ("number", fraction(word), 1), behind


def inputs_text(text):
    if len(text) > 4000:
        raise Wrong()
    if text.strip(" ") == "":
        return []
    values = []
    at = 0
    while True:
        value, at = value_text(text, at, 0)
        values.append(value)
        if at == len(text):
            return values
        if text[at] != ",":
            raise Wrong()
        at += 1


class Stop(Exception):
    pass


class Run:
    """Frames are dicts that are changed; a step that is refused is done on a copy."""

    def __init__(self, blocks, budget, values):
        self.blocks = blocks
        self.left = budget
        self.frames = [{"block": 0, "next": 0, "locals": list(values), "row": [], "depth": 0}]
        self.outcome = [0]
        self.value = None
        self.done = 0

    def step(self):
        self.done += 1
        kept = [dict(frame, **{name: list(frame[name]) for name in ("locals", "row", "coming", "hand") if name in frame})
                for frame in self.frames[-2:]]
        left = self.left
        below = self.frames[:-2]
        try:
            frame = self.frames[-1]
            if "f" in frame:
                self.fold_step(frame)
            else:
                self.block_step(frame)
        except Stop as stop:
            self.outcome = [2, stop.args[0]]
            self.frames = below + kept
            self.left = left

    def give(self, value):
        self.frames.pop()
        if not self.frames:
            self.outcome = [1]
            self.value = value
        elif "f" not in self.frames[-1]:
            self.frames[-1]["row"].append(value)
        elif self.frames[-1]["state"] == 1:
            self.frames[-1]["state"] = 2
            self.frames[-1]["hand"].insert(0, value)
        else:
            self.frames[-1]["state"] = 0
            self.frames[-1]["hand"] = [value]

    def call(self, f, a, level, depth):
        if f[0] != "function":
            raise Stop(6)
        if depth + level > 160:
            raise Stop(5)
        if self.left == 0:
            raise Stop(4)
        self.left -= 1
        own = list(f[2]) + ([f] if self.blocks[f[1]][1] else []) + [a]
        self.frames.append({"block": f[1], "next": 0, "locals": own, "row": [], "depth": depth + level})

    def fold_step(self, frame):
        if frame["state"] == 2:
            self.call(frame["hand"][0], frame["hand"][1], frame["level"], frame["depth"])
            frame["state"], frame["hand"] = 3, []
        elif frame["coming"]:
            self.call(frame["f"], frame["hand"][0], frame["level"], frame["depth"])
            frame["state"], frame["hand"] = 1, [frame["coming"].pop(0)]
        else:
            self.give(frame["hand"][0])

    def block_step(self, frame):
        instructions = self.blocks[frame["block"]][2]
        own, row = frame["locals"], frame["row"]
        if frame["next"] >= len(instructions):
            raise Stop(7)
        instruction = instructions[frame["next"]]
        word = instruction[0]
        n = instruction[1] if len(instruction) > 1 else None
        if word == "get" and n >= len(own) or word == "free" and n > len(own) or word == "fn" and n >= len(self.blocks):
            raise Stop(7)
        count = takes(instruction, self.blocks)
        if len(row) < count:
            raise Stop(7)
        taken = row[len(row) - count:]
        wanted = {"unless": ["truth"], "part": ["list"], "fst": ["pair"], "snd": ["pair"], "cons": ["", "list"],
                  "pow": ["number"], "root": ["number"], "call": ["function", ""], "fold": ["", "", "list"]}
        sorts = ["number"] * 2 if word in ARITHMETIC + ("less", "same") else wanted.get(word, [])
        if any(sort and value[0] != sort for sort, value in zip(sorts, taken)):
            raise Stop(6)
        del row[len(row) - count:]
        frame["next"] += 1
        self.do(frame, word, n, instruction, taken)

    def do(self, frame, word, n, instruction, taken):
        own, row = frame["locals"], frame["row"]
        if word == "num":
            row.append(("number", n, instruction[2]))
        elif word in ("true", "false"):
            row.append(("truth", word == "true"))
        elif word == "nil":
            row.append(("list", []))
        elif word == "get":
            row.append(own[n])
        elif word == "bind":
            own.append(taken[0])
        elif word == "free":
            del own[len(own) - n:]
        elif word == "fn":
            row.append(("function", n, taken))
        elif word == "skip" or word == "unless" and not taken[0][1] or word == "part" and not taken[0][1]:
            frame["next"] += n
        elif word == "part":
            own.extend([taken[0][1][0], ("list", taken[0][1][1:])])
        elif word == "pair":
            row.append(("pair", taken))
        elif word in ("fst", "snd"):
            row.append(taken[0][1][word == "snd"])
        elif word == "cons":
            row.append(("list", [taken[0]] + taken[1][1]))
        elif word == "call":
            self.call(taken[0], taken[1], n, frame["depth"])
        elif word == "fold":
            self.frames.append({"f": taken[0], "coming": list(taken[2][1]), "level": n, "depth": frame["depth"],
                                "state": 0, "hand": [taken[1]]})
        elif word == "ret":
            self.give(taken[0])
        elif word != "unless":
            row.append(numbers(word, n, taken))

    def told(self):
        """All there is of the frames, as a text."""
        lines = [str(self.left), str(self.outcome)]
        for frame in self.frames:
            if "f" in frame:
                lines.append(" ".join(["fold", shown(frame["f"]), shown(("list", frame["coming"])), str(frame["state"]),
                                       shown(("list", frame["hand"])), str(frame["level"]), str(frame["depth"])]))
            else:
                lines.append(" ".join(["block", str(frame["block"]), str(frame["next"]), shown(("list", frame["row"])),
                                       shown(("list", frame["locals"])), str(frame["depth"])]))
        if self.value is not None:
            lines.append(shown(self.value))
        return lines


def numbers(word, n, taken):
    """What an instruction on numbers gives."""
    a = taken[0][1]
    if word == "less" or word == "same":
        return ("truth", a < taken[1][1] if word == "less" else a == taken[1][1])
    if word == "root":
        if a < 0 or isqrt(a.numerator) ** 2 != a.numerator or isqrt(a.denominator) ** 2 != a.denominator:
            raise Stop(2)
        return ("number", Fraction(isqrt(a.numerator), isqrt(a.denominator)), taken[0][2])
    if word == "pow":
        if n < 0 and a == 0:
            raise Stop(1)
        weight = max(1, taken[0][2] * abs(n))
    else:
        b = taken[1][1]
        if word in ("div", "floor", "rest") and b == 0:
            raise Stop(1)
        weight = taken[0][2] + taken[1][2]
    if weight > 200:
        raise Stop(3)
    if word == "pow":
        return ("number", Fraction(a ** n), weight)
    if word in ("floor", "rest"):
        whole = a // b
        return ("number", Fraction(whole if word == "floor" else a - b * whole), weight)
    return ("number", {"add": a.__add__, "sub": a.__sub__, "mul": a.__mul__, "div": a.__truediv__}[word](b), weight)


class Object:
    """One object and its calls."""

    def __init__(self):
        self.blocks = None
        self.checked = False
        self.run = None

    def load(self, checked, text, keep=True):
        if checked not in (0, 1):
            return [-1]
        sort, found = read(text)
        if sort == 1:
            return [1, found]
        for number in range(len(found)):
            fault = go_through(found, number)[0]
            if checked and fault:
                return [2, number, fault[1], fault[0]]
        if keep:
            self.blocks, self.checked, self.run = found, checked == 1, None
        return [0]

    def check(self, text):
        return self.load(1, text, False)

    def show(self):
        if self.blocks is None:
            return [-4]
        words = []
        for made_with, itself, instructions in self.blocks:
            words += ["block", made_with, itself]
            for instruction in instructions:
                words += instruction
        return [0] + list(" ".join([str(word) for word in words]).encode())

    def heights(self, block):
        if self.blocks is None or not self.checked:
            return [-4]
        if not 0 <= block < len(self.blocks):
            return [-2]
        return [0] + [number for way in go_through(self.blocks, block)[1][:-1] for number in list(way)[0]]

    def begin(self, budget, text):
        if self.blocks is None:
            return [-4]
        if not 0 <= budget <= 1000:
            return [-1]
        try:
            values = inputs_text(text)
        except Wrong:
            return [-7]
        if len(values) != self.blocks[0][0]:
            return [-8]
        self.anew = lambda: Run(self.blocks, budget, values)
        self.run = self.anew()
        return [0]

    def step(self, n):
        if self.run is None:
            return [-3]
        if not 0 <= n <= 100000:
            return [-1]
        done = 0
        while done < n and self.run.outcome == [0]:
            self.run.step()
            done += 1
        return self.run.outcome[:1] + [done] + self.run.outcome[1:]

    def go(self):
        """run."""
        if self.run is None:
            return [-3]
        while self.run.outcome == [0]:
            self.run.step()
        return self.run.outcome[:1] + [self.run.done] + self.run.outcome[1:]

    def back(self, n):
        """A new run is stepped as far as the old one was n steps ago."""
        if self.run is None:
            return [-3]
        if n < 0:
            return [-1]
        if n > self.run.done:
            return [-5]
        wanted = self.run.done - n
        self.run = self.anew()
        while self.run.done < wanted:
            self.run.step()
        return [wanted]

    def answer(self):
        if self.run is None:
            return [-3]
        if self.run.outcome != [1]:
            return [-9]
        return told_or_not([self.run.value], lambda: plain(self.run.value))

    def frames(self):
        if self.run is None:
            return [-3]
        rows = [len(self.run.frames)]
        for frame in self.run.frames:
            if "f" in frame:
                rows += [1, len(frame["coming"]), frame["state"], frame["level"], frame["depth"], 0]
            else:
                rows += [0, frame["block"], frame["next"], len(frame["row"]), len(frame["locals"]), frame["depth"]]
        return rows

    def look(self, number):
        if self.run is None:
            return [-3]
        if number not in range(len(self.run.frames)) or "f" in self.run.frames[number]:
            return [-2]
        row, own = self.run.frames[number]["row"], self.run.frames[number]["locals"]
        return told_or_not(row + own, lambda: ", ".join(map(plain, row)) + "|" + ", ".join(map(plain, own)))

    def count(self):
        if self.run is None:
            return [-3]
        return [self.run.done, self.run.left]
