"""What instructions read and write."""


def expression_of(instruction):
    """Return the expression of an instruction, or None if it has none."""
    word = instruction[0]
    if word == "set":
        return instruction[2]
    if word in ("print", "test", "begin"):
        return instruction[1]
    return None


def written_names(instruction):
    """Return a tuple of the variables that an instruction writes."""
    word = instruction[0]
    if word == "set":
        return instruction[1:2]
    if word == "swap":
        return instruction[1:]
    return ()


def expression_names(expression):
    """Return the list of the variables that an expression reads."""
    if expression[0] == "read":
        return []
    sums = [expression] if expression[0] == "sum" else expression[1:]
    return [name for value in sums for _, name in value[2]]
