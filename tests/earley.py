"""The grammar of texts as rows of rules, and a slow recognizer that follows it to the letter."""
import re

RESERVED = (
    "module input output wire reg mem states link use tie claim set if else case at write go give to take for in "
    "out own when reset is word bits join wide sign any all odd pick"
).split()

# Each rule: a left side and a right side; what is no left side is a token, NAME or NUMBER.
RULES = """
D -> M | M M | M M M | M M M M | M M M M M | M M M M M M | M M M M M M M | M M M M M M M M
M -> module NAME PARAMS { ITEMS }
PARAMS -> | ( NAMES )
NAMES -> NAME | NAMES , NAME
ITEMS -> | ITEMS ITEM
ITEM -> STATEMENT | input PLACE : CONST ; | output PLACE : CONST ; | wire PLACE : CONST ;
ITEM -> reg PLACE : CONST = CONST WHEN RESET ; | mem PLACE : CONST [ CONST ] ; | states PLACE { NAMES }
ITEM -> link in PLACE : CONST ; | link out PLACE : CONST ; | link own PLACE : CONST ;
ITEM -> use PLACE = NAME GIVEN { BINDS } | claim PLACE = E ;
ITEM -> give PLACE = E WHEN ; | take PLACE WHEN ; | for NAME in CONST .. CONST { ITEMS }
WHEN -> | when E
RESET -> | reset E
GIVEN -> | ( CONSTS )
CONSTS -> CONST | CONSTS , CONST
BINDS -> | BINDS BIND
BIND -> PLACE = E ; | tie PLACE = PLACE ;
STATEMENTS -> | STATEMENTS INNER
INNER -> STATEMENT | for NAME in CONST .. CONST { STATEMENTS }
STATEMENT -> set PLACE = E ; | if E { STATEMENTS } ELSE | case E { ARMS ELSE }
STATEMENT -> write PLACE [ E ] = E ; | go PLACE to NAME ;
ELSE -> | else { STATEMENTS }
ARMS -> | ARMS at CONSTS { STATEMENTS }
PLACE -> NAME | NAME @ ATOM
ATOM -> NUMBER | NAME | ( CONST )
CONST -> PRODUCT | CONST + PRODUCT | CONST - PRODUCT
PRODUCT -> ATOM | PRODUCT * ATOM
E -> XOR | E BAR XOR
XOR -> AND | XOR ^ AND
AND -> COMPARED | AND & COMPARED
COMPARED -> SHIFTED | SHIFTED == SHIFTED | SHIFTED != SHIFTED | SHIFTED < SHIFTED | SHIFTED <= SHIFTED
SHIFTED -> SUM | SHIFTED << SUM | SHIFTED >> SUM
SUM -> TERM | SUM + TERM | SUM - TERM
TERM -> SIGNED | TERM * SIGNED
SIGNED -> BOTTOM | ~ SIGNED | - SIGNED
BOTTOM -> ( E ) | word ( CONST , CONST ) | bits ( E , CONST , CONST ) | join ( E , E ) | wide ( E , CONST )
BOTTOM -> sign ( E , CONST ) | any ( E ) | all ( E ) | odd ( E ) | pick ( E , E , E )
BOTTOM -> PLACE | PLACE . PLACE | PLACE [ E ] | PLACE is NAME
"""


def rules():
    table = {}
    for line in RULES.strip().split("\n"):
        left, right = line.split(" ->", 1)
        for side in right.split("|"):
            table.setdefault(left.strip(), []).append(tuple(side.replace("BAR", "|").split()))
    return table


TABLE = rules()
EMPTY = {left for left, sides in TABLE.items() if () in sides}


def kind_of(token):
    if token in RESERVED:
        return token
    if re.fullmatch(r"[a-z][a-z0-9]{0,7}", token):
        return "NAME"
    if re.fullmatch(r"0|[1-9][0-9]{0,2}", token) and int(token) <= 255:
        return "NUMBER"
    return token


def closed(sets, at):
    """Predicts and completes until nothing is new."""
    todo = list(sets[at])
    while todo:
        left, side, dot, start = todo.pop()
        new = []
        if dot == len(side):
            for other in list(sets[start]):
                if other[2] < len(other[1]) and other[1][other[2]] == left:
                    new.append((other[0], other[1], other[2] + 1, other[3]))
        elif side[dot] in TABLE:
            new.extend((side[dot], right, 0, at) for right in TABLE[side[dot]])
            if side[dot] in EMPTY:
                new.append((left, side, dot + 1, start))
        for row in new:
            if row not in sets[at]:
                sets[at].add(row)
                todo.append(row)


def bad_token(tokens):
    """The number of the first bad token, None for a text of the grammar."""
    sets = [{("D", side, 0, 0) for side in TABLE["D"]}]
    closed(sets, 0)
    for at, token in enumerate(tokens):
        kind = kind_of(token)
        moved = {(left, side, dot + 1, start) for left, side, dot, start in sets[at]
                 if dot < len(side) and side[dot] == kind}
        if not moved:
            return at
        sets.append(moved)
        closed(sets, at + 1)
    if any(left == "D" and dot == len(side) and start == 0 for left, side, dot, start in sets[-1]):
        return None
    return len(tokens)


def shortest_depths():
    """For each left side how deep its least derivation is."""
    depths = {}
    while len(depths) < len(TABLE):
        for left, sides in TABLE.items():
            known = [max([depths[part] for part in side if part in TABLE], default=0) for side in sides
                     if all(part in depths or part not in TABLE for part in side)]
            if known and left not in depths:
                depths[left] = 1 + min(known)
    return depths


DEPTHS = shortest_depths()


def derived(source, left, depth):
    """Random tokens of a left side, soon at an end when the depth is used up."""
    if left not in TABLE:
        if left == "NAME":
            return [source.choice(("a", "b", "x1", "data", "abcdefgh"))]
        return [source.choice(("0", "1", "7", "255"))] if left == "NUMBER" else [left]
    sides = TABLE[left]
    if depth <= 0:
        least = min(max([DEPTHS[part] for part in side if part in TABLE], default=0) for side in sides)
        sides = [side for side in sides if max([DEPTHS[part] for part in side if part in TABLE], default=0) == least]
    tokens = []
    for part in source.choice(sides):
        tokens.extend(derived(source, part, depth - 1))
    return tokens
