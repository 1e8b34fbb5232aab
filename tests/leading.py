"""A plain second way to lead an evening, minute by minute, and deeds by chance."""

import copy

from tests.trying import some_moment


class Wrong(Exception):
    """What a deed raises: the name of the error of the document, and what it tells."""

    def __init__(self, word, told):
        super().__init__(word, told)
        self.word, self.told = word, told


class Plain:
    """An evening that goes minute by minute and keeps a copy of itself ahead of each deed."""

    def __init__(self, meal, rows):
        self.bounds, self.wishes, self.stations = meal.dishes(), meal.wishes(), meal.stations()
        self.rows = dict(rows)
        self.minute, self.starts, self.dones, self.past = 0, {}, {}, []
        self.start_all()

    def wanted(self, name):
        hook, wait = self.rows[name]
        behind = 0 if hook == "clock" else self.dones.get(hook)
        return None if behind is None else behind + wait

    def start_all(self):
        """Start what is to start just at this minute."""
        names = [name for name in sorted(self.rows) if name not in self.starts and self.wanted(name) == self.minute]
        for name in names:
            self.starts[name] = self.minute
        return names

    def state(self, name):
        if name in self.dones:
            return ("done", self.starts[name], self.dones[name])
        return ("runs", self.starts[name]) if name in self.starts else ("waits",)

    def do(self, word, *arguments):
        """Do a deed, all of it or nothing; return what it tells."""
        before = copy.deepcopy(self.__dict__)
        try:
            told = getattr(self, "do_" + word)(*arguments)
        except Wrong:
            self.__dict__ = before
            raise
        if word not in ("undo", "several") or word == "several" and arguments[0]:
            self.past = before["past"] + [before]
        return told

    def do_undo(self):
        if not self.past:
            raise Wrong("NothingBack", ())
        self.__dict__ = self.past[-1]

    def do_several(self, deeds):
        for index, deed in enumerate(deeds):
            try:
                self.do(*deed)
            except Wrong as error:
                raise Wrong("Refused", (index, error.word, error.told)) from None

    def do_go(self, minutes):
        if type(minutes) is not int or minutes < 1:
            raise Wrong("BadMinutes", (minutes,))
        started = []
        for _ in range(minutes):
            self.minute += 1
            started += [(self.minute, name) for name in self.start_all()]
        late = [name for name in self.starts if name not in self.dones
                and self.minute - self.starts[name] > self.bounds[name][1]]
        if late:
            raise Wrong("Overdue", (min(late),))
        return started

    def do_call(self, name):
        if name not in self.rows:
            raise Wrong("NoDish", (name,))
        if self.state(name)[0] != "runs":
            raise Wrong("NotRunning", (name,))
        if self.minute - self.starts[name] < self.bounds[name][0]:
            raise Wrong("TooSoon", (name,))
        self.dones[name] = self.minute
        return self.start_all()

    def do_put(self, name, least, most, other, wait):
        if name in self.rows or name == "clock" or not 1 <= least <= most:
            raise Wrong("BadDish", (name,))
        if other != "clock" and other not in self.rows or wait < 0:
            raise Wrong("BadRow", (name,))
        self.rows[name] = (other, wait)
        self.bounds[name] = (least, most)
        return self.hung(name)

    def do_change(self, name, other, wait):
        if name not in self.rows:
            raise Wrong("NoDish", (name,))
        if name in self.starts:
            raise Wrong("Started", (name,))
        if other != "clock" and other not in self.rows or wait < 0:
            raise Wrong("BadRow", (name,))
        self.rows[name] = (other, wait)
        around = [other]
        while around[-1] != "clock" and around[-1] != name:
            around.append(self.rows[around[-1]][0])
        if around[-1] == name:
            at = around.index(min(around))
            raise Wrong("Round", (around[at:] + around[:at],))
        return self.hung(name)

    def hung(self, name):
        at = self.wanted(name)
        if at is not None and at < self.minute:
            raise Wrong("TooEarly", (name,))
        self.start_all()
        return name in self.starts

    def do_wish(self, wish):
        if any(moment != "clock" and moment[1] not in self.rows for moment in wish[:2]):
            raise Wrong("BadWish", (len(self.wishes),))
        self.wishes = self.wishes + [wish]


def some_deed(rng, plain, spare):
    """Return a deed by chance, most often one that can be done."""
    names = sorted(plain.rows)
    running = [name for name in names if plain.state(name)[0] == "runs"]
    waiting = [name for name in names if plain.state(name)[0] == "waits"]
    likely = rng.random() < 0.9
    word = rng.choice(["go", "go", "go", "call", "call", "call", "put", "change", "wish"])
    if word == "go":
        return ("go", rng.choice([1, 1, 1, 2, 3, 0]))
    if word == "call":
        return ("call", rng.choice(running or names or spare) if likely else rng.choice(names + spare))
    if word == "wish":
        return ("wish", (some_moment(rng, names + spare[:1]), some_moment(rng, names), rng.randint(-4, 9)))
    other = rng.choice(["clock", *names])
    wait = max(-1, (plain.minute if other == "clock" else 0) + rng.randint(-2, 3))
    if word == "put":
        least = rng.randint(0, 3)
        return ("put", rng.choice(spare if likely else names + spare), least, rng.randint(1, 4), other, wait)
    return ("change", rng.choice(waiting or names or spare) if likely else rng.choice(names + spare), other, wait)
