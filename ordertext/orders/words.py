"""The words of orders, and what stands behind each of them."""

LETTERS = "abcdefghijklmnopqrstuvwxyz"
NAME_LENGTH = 8

# For each word what it begins, and the parts that follow it.
WORDS = {
    "like": ("order", ()),
    "up": ("order", ("field",)),
    "down": ("order", ("field",)),
    "then": ("order", ("order", "order")),
    "turn": ("order", ("order",)),
    "pick": ("order", ("case", "order", "order")),
    "same": ("case", ("field",)),
    "both": ("case", ("mark",)),
    "either": ("case", ("mark",)),
    "not": ("case", ("case",)),
    "and": ("case", ("case", "case")),
    "or": ("case", ("case", "case")),
    "under": ("mark", ("field", "number")),
    "is": ("mark", ("field", "number")),
}


def is_name(text):
    if text == "" or len(text) > NAME_LENGTH or text in WORDS:
        return False
    return all([sign in LETTERS for sign in text])
