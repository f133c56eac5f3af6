"""Runs of many deeds, and the comparison of a world with the plain model of it."""

import random

from laterline.world import World
from tests.model import Model, model_does, program_does

RULES = [("written",)] + [(word, k) for word in ("held", "applied") for k in (1, 2, 3, 7)]
KEYS = ("a", "b", "c")


def any_row(dice):
    key = dice.choice(KEYS)
    return ("cut", key) if dice.random() < 0.3 else ("set", key, dice.randrange(-5, 6))


def any_letter(dice, model):
    """Mostly one of the last letters, sometimes one of long ago or none."""
    many = len(model.letters)
    if many and dice.random() < 0.7:
        return dice.randrange(max(0, many - 6), many)
    return dice.randrange(-1, many + 2)


def any_token(dice, model):
    if dice.random() < 0.3:
        return None
    return (dice.choice(model.begun)[0], dice.randrange(0, 12 + max(len(one.rows) for one in model.houses)))


def takeover_of(dice, model, house):
    many = len(model.houses)
    asked = dice.sample(range(many), dice.randrange(many + 1))
    if dice.random() < 0.1:
        asked += [dice.randrange(-1, many + 1)]
    return ("takeover", house, tuple(asked), dice.random() < 0.4)


def any_deed(dice, model):
    """Some deed or question, such as may well be granted, or refused."""
    many = len(model.houses)
    house = dice.randrange(many) if dice.random() < 0.98 else dice.choice((-1, many))
    other = dice.randrange(many)
    end = len(model.houses[other].rows)
    leaders = [one.number for one in model.houses if one.leads] or [0]
    followers = [one.number for one in model.houses if one.whom is not None] or [0]
    deeds = [
        (26, lambda: ("write", dice.choice(leaders), any_row(dice))),
        (2, lambda: ("write", house, any_row(dice))),
        (9, lambda: ("follow", house, other)),
        (22, lambda: ("ask", dice.choice(followers))),
        (44, lambda: ("give", any_letter(dice, model))),
        (3, lambda: ("lose", any_letter(dice, model))),
        (10, lambda: ("apply", house, dice.choice((None, None, 0, 1, 3, -1)))),
        (6, lambda: ("done", dice.choice(leaders))),
        (4, lambda: takeover_of(dice, model, house)),
        (7, lambda: ("rejoin", house, other)),
        (4, lambda: ("renew", house, other)),
        (4, lambda: ("trim", house)),
        (2, lambda: ("free", house, other)),
        (1, lambda: ("forget", house, dice.randrange(-1, end + 2))),
        (8, lambda: ("read", house, dice.choice(KEYS), dice.choice((None, dice.randrange(0, end + 2))),
                     any_token(dice, model))),
    ]
    weights = [weight for weight, _ in deeds]
    return dice.choices([make for _, make in deeds], weights)[0]()


def exchange_of(model, house):
    """The deeds by which a house asks, is answered, applies what came, and says so."""
    number = len(model.letters)
    return [("ask", house), ("give", number), ("give", number + 1), ("apply", house, None), ("ask", house),
            ("give", number + 2)]


def careful_deeds(dice, model):
    """Deeds of houses that mostly do well: they catch up, say what they have, and take over without force."""
    many = len(model.houses)
    house, other = dice.randrange(many), dice.randrange(many)
    one = model.houses[house]
    leaders = [one.number for one in model.houses if one.leads]
    newest = max(model.houses, key=lambda one: one.line).number
    kind = dice.random()
    if kind < 0.25 and leaders:
        return [("write", dice.choice(leaders), any_row(dice))]
    if kind < 0.6 and one.whom is not None:
        return exchange_of(model, house)
    if kind < 0.7:
        return [("done", leader) for leader in leaders]
    if kind < 0.78 and not one.leads:
        asked = tuple(dice.sample(range(many), dice.randrange(many // 2, many + 1)))
        return (exchange_of(model, house) if one.whom is not None else []) + [("takeover", house, asked, False)]
    if kind < 0.95 and one.whom is None:
        return [("rejoin", house, newest)]
    return [dice.choice((("follow", house, other), ("rejoin", house, other), ("renew", house, other), ("trim", house),
                         ("give", any_letter(dice, model))))]


def any_shape(dice):
    """How many houses, the rule and the room of some world."""
    return (dice.randrange(1, 9), dice.choice(RULES), dice.choice((1, 2, 5, 10, 40, 400)))


def careful_shape(dice):
    """The same of a world in which much is called done, and takeovers within the rule are likely."""
    many = dice.randrange(2, 6)
    return (many, (dice.choice(("held", "applied")), dice.randrange(1, many)), dice.choice((5, 40)))


def seen_of_world(world):
    """All that a world tells."""
    houses = [(world.history(house), world.log_rows(house), world.table(house), world.marks(house),
               world.slots(house), world.said(house)) for house in range(world.many())]
    letters = {number: world.letter(number) for number in world.lying()}
    return (houses, world.lines(), world.trail(), world.lying(), letters, world.many(), len(world))


def seen_of_model(model):
    """The same of the model."""
    houses = [(model.histories[one.line], one.told(0), tuple(sorted(one.table(one.applied).items())),
               model.marks(one), tuple(sorted(one.slots.items())), model.said(one)) for one in model.houses]
    letters = {number: letter for number, letter in enumerate(model.letters) if number not in model.lost}
    written = sum(deed[0] == "write" for deed in model.deeds)
    return (houses, model.begun, model.deeds, tuple(letters), letters, len(model.houses), written)


def run_of(seed, steps, case, look=lambda world, model: None, *, careful=False):
    """Do a run in a world and in the model, and hold the one against the other behind each deed."""
    dice = random.Random(seed)
    many, rule, room = careful_shape(dice) if careful else any_shape(dice)
    world, model = World(many, rule=rule, room=room), Model(many, rule, room)
    told = {}
    for step in range(steps):
        for deed in careful_deeds(dice, model) if careful else [any_deed(dice, model)]:
            ours, theirs = program_does(world, deed), model_does(model, deed)
            case.assertEqual(repr(ours), repr(theirs), (seed, step, deed))
            told[deed[0], ours[0]] = told.get((deed[0], ours[0]), 0) + 1
            if ours[0] == "told" and deed[0] in ("takeover", "rejoin", "renew", "trim"):
                case.assertEqual(repr(seen_of_world(world)), repr(seen_of_model(model)), (seed, step, deed))
        if step % 10 == 0:
            case.assertEqual(repr(seen_of_world(world)), repr(seen_of_model(model)), (seed, step))
            look(world, model)
    case.assertEqual(repr(seen_of_world(world)), repr(seen_of_model(model)), seed)
    look(world, model)
    return world, model, told
