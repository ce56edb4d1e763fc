"""Stocks that are hard for the program, found by a search that changed stocks little by little."""

# Their least text with two readings is long.
LONG_TEXTS = [
    ["abbbbaa", "bbaaaab", "bbbbaabb", "abbbb", "bbaabbbb", "bbbaabbb", "baabbbba", "aabbbaab"],
    ["ccb", "bbcccccb", "bcccbbcc", "ccbcbcb", "cbbcccbb", "cbcbbbcc", "cccbbccc", "bbccbbc"],
    ["bb", "ababbbab", "abbbabb", "bababab", "baaaaaba", "aaaaba", "bbbbaa", "bbaaaaa"],
    ["aaaaaaa", "aaaaaaaa"],
]
# They have many rests.
MANY_RESTS = [
    ["abbaaabb", "aabbaaa", "aaabbbab", "bbaaabba", "aaabbaba", "aabbaaab", "aaabbbbb", "baaabbaa"],
    ["abaaaaba", "aaaaaaab", "aaaabbab", "a", "abbaaaaa", "aaabbbaa", "baaaabbb", "aaaaaabb"],
]
# They need many cuts.
MANY_CUTS = [
    ["bbababaa", "aabababb", "bbbbbbba", "b", "abbbabbb", "abbbaaba", "babbabaa", "baababbb"],
    ["baaaaabb", "baaabbba", "aabababb", "abaababb", "bbbaaaaa", "a", "aaaaaaab", "bbbaaaba"],
]
# Two texts that begin unlike agree for long, but not for ever.
LONG_AGREEMENT = [
    ["bbabbabb", "aababbab", "abbaa", "baaba", "babbabba", "aabbabba", "baabaab", "abbabbb"],
    ["bbababa", "aabbbba", "aabbb", "aaaab", "ababaa", "abaab", "babab", "abaaaabb"],
]
# They are read in one way, and rows that go together for ever have long rings.
LONG_RINGS = [
    ["abaaaabb", "bbabaaab", "baaaabbb", "babbabba", "aaaaabb", "bbaaaaab", "bbbababb", "a"],
    ["a", "aaaaaaab", "baaaaabb", "bbaaabbb", "bbbaaaba", "abab", "bbbbb", "abbabaa"],
]
HARD = LONG_TEXTS + MANY_RESTS + MANY_CUTS + LONG_AGREEMENT + LONG_RINGS

# Pairs of stocks that are read in one way, whose least common text is long.
LONG_FIRSTS = [
    (
        ["bbbbbba", "aa", "abababa", "bababaa", "bbbbaa", "abbaaaba", "baabaaab"],
        ["aabaabb", "ababaaaa", "aaaabbbb", "baabab", "babaaaab", "abaaba", "bbaababa", "bbabbab"],
    ),
    (
        ["bbbabbaa", "aaaa", "abbabb", "aabbaba", "baab", "bbababab", "abbababa"],
        ["babba", "bbabbbbb", "abbaaaa", "aaaaaabb", "abaabba", "aabbabbb", "aaababb", "bababa"],
    ),
    (
        ["cccacca", "aabacaa", "aabcbba", "aa", "caccacc", "accac", "cbcacac", "bca"],
        ["accacca", "ccaccacc", "abbcb", "ccb"],
    ),
]
# Their base has finitely many words, some of them long.
LONGEST_WORDS = [
    (
        ["bba", "babbab", "bbbbaaba", "bbbbabb", "aaaaaaaa", "abbabbaa", "bbabbb", "ababbbab"],
        ["aaaaaaa", "bbabbba", "babbabb", "baab", "bbbbbb", "bbbaa", "bbabbab", "abbba"],
    ),
    (
        ["bbbaaaa", "bbbbbbbb", "abaaabaa", "bbaabaaa", "baabaaab", "baaba", "aabab", "abbb"],
        ["b", "bbaaba", "ababba", "abaaabbb", "aabaa", "aaaabbbb", "babbaab", "baaaabba"],
    ),
    (
        ["cab", "cccccccc", "b", "accabbb", "bbaaabbb", "abbbaaab", "aabb", "ccabbbaa"],
        ["ccccccc", "aabbbaa", "cabbb", "bbbbbbac", "abbbb", "a", "baaab", "cbba"],
    ),
]
# Their base has no end, and the loop found has a long ring or a long part behind it.
LONG_LOOPS = [
    (
        ["bbbbbaba", "ab", "aababbaa", "ababaabb", "baaab", "aabbaaa", "babbbbbb", "baabbbba"],
        ["bbbababa", "aaabab", "bbaaabb", "bb", "abaabbaa", "baabaab", "abb", "bbbaabb"],
    ),
    (
        ["baababaa", "aaaabb", "aabbbbaa", "bbabbb", "aaabbba", "baaa", "aba", "abba"],
        ["ab", "aabba", "baabbaab", "abaaaabb", "bbbaaaaa", "bbaaaaab", "aaba", "aabbbb"],
    ),
]
# Two rows of their words can go together in many states.
MANY_STATES = [
    (
        ["aabaaabb", "b", "abaaaaab", "aabaaaaa", "aaaaaaba", "babaabaa", "abaaabbb", "abaaabab"],
        ["ba", "bbbbbbbb", "abbbbbba", "abbbbbaa", "abbbbbab", "abbbbaaa", "a", "abbbbaab"],
    ),
    (
        ["bbbbbabb", "bbbabbaa", "bbbbbbab", "a", "babbaaaa", "bbabbbbb", "bbbbbbba", "bbbbabbb"],
        ["b", "baaaaabb", "baaaaaaa", "bbbbabba", "aaaaabab", "baaabbba", "abbaaaab", "abbbbbb"],
    ),
]
HARD_PAIRS = LONG_FIRSTS + LONGEST_WORDS + LONG_LOOPS + MANY_STATES
