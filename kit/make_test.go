package kit_test

import (
	"strings"
	"testing"
)

// P1501: not, and, or, less.
func TestJoins(t *testing.T) {
	k := begun(t, "syms x y", "expr p x", "expr q x|y")
	all(t, k,
		ask{"not m p", "ok 3 6"}, ask{"takes m", "yes"}, ask{"takes m x", "no"}, ask{"takes m y", "yes"}, ask{"takes m x x", "yes"},
		ask{"and m p q", "ok 6 1"}, ask{"takes m x", "yes"}, ask{"takes m y", "no"},
		ask{"or m p q", "ok 5 3"}, ask{"takes m x", "yes"}, ask{"takes m y", "yes"}, ask{"takes m", "no"},
		ask{"less m q p", "ok 9 6"}, ask{"takes m x", "no"}, ask{"takes m y", "yes"},
		ask{"less m p q", "ok 8 4"}, ask{"takes m x", "no"}, ask{"takes m y", "no"}, ask{"word m", "none"},
		// what is made may have the name of what it is made of
		ask{"not p p", "ok 3 6"}, ask{"takes p x", "no"}, ask{"takes p y", "yes"}, ask{"and p p q", "ok 9 6"}, ask{"takes p x", "no"}, ask{"takes p y", "yes"}, ask{"or q p q", "ok 12 8"}, ask{"takes q x", "yes"}, ask{"less q q q", "ok 48 32"}, ask{"word q", "none"},
		ask{"names", "ok m p q"})
}

// xs is an expression of n times x, of n + 1 states.
func xs(n int) string {
	if n == 0 {
		return "1"
	}
	return strings.TrimSpace(strings.Repeat("x ", n))
}

// P1501: how many states there may be. Of n times x not has n + 2: one behind each, and one behind more.
func TestMost(t *testing.T) {
	k := begun(t, "syms x", "expr one 1", "expr two x", "expr four "+xs(3), "expr seven "+xs(6), "expr twenty "+xs(19), "expr fifty "+xs(49), "expr sixty "+xs(59),
		"expr a "+xs(57), "expr b "+xs(58), "expr c "+xs(28), "expr d "+xs(27), "expr e "+xs(29))
	all(t, k,
		ask{"not m a", "ok 59 59"}, ask{"not m b", "ok 60 60"}, ask{"not n sixty", "budget"},
		ask{"and m four fifty", "ok 200 147"}, ask{"and n seven c", "budget"}, ask{"and n sixty four", "budget"}, ask{"and m one sixty", "ok 60 0"},
		ask{"or m sixty sixty", "ok 120 118"}, ask{"or m m sixty", "ok 180 177"}, ask{"or n m twenty", "ok 200 196"}, ask{"or o m seven", "ok 187 183"}, ask{"or o n one", "budget"}, ask{"takes o" + strings.Repeat(" x", 6), "yes"},
		ask{"less m two c", "ok 60 30"}, ask{"less m two d", "ok 58 29"}, ask{"less o two e", "budget"}, ask{"less m one b", "ok 60 0"}, ask{"less o one sixty", "budget"}, ask{"less o sixty one", "budget"},
		ask{"within two c", "no 1"}, ask{"within two e", "budget"}, ask{"within one b", "no 0"}, ask{"within one sixty", "budget"}, ask{"within c two", "budget"}, ask{"within twenty two", "no 19"}, ask{"within two twenty", "no 1"},
		ask{"same two d", "budget"}, ask{"same d two", "budget"}, ask{"same two twenty", "no 1"}, ask{"same twenty two", "no 1"}, ask{"same one twenty", "no 0"}, ask{"same two e", "budget"},
		// behind an error the name is none, or what it was
		ask{"takes o" + strings.Repeat(" x", 6), "yes"}, ask{"takes o x x", "no"}, ask{"names", "ok a b c d e fifty four m n o one seven sixty twenty two"})
	// too many rules, though not too many states
	k = begun(t, "syms <a> </a> <b> </b> <c> </c> <d> </d> <e> </e> x y", "expr p (x|y)* x (x|y) (x|y) (x|y) (x|y)", "not n p", "or o n n")
	all(t, k, ask{"or m o n", "ok 102 87924"}, ask{"or m o o", "budget"}, ask{"or m m n", "budget"}, ask{"names", "ok m n o p"})
}

// P1501: trim.
func TestTrim(t *testing.T) {
	k := begun(t, setLetters, "expr p x", "expr q x|y", "and r p q")
	all(t, k,
		ask{"trim m r", "ok 2 1"}, ask{"takes m x", "yes"}, ask{"takes m y", "no"}, ask{"trim r r", "ok 2 1"}, ask{"takes r x", "yes"}, ask{"trim p q", "ok 3 2"}, ask{"takes p y", "yes"}, ask{"expr z 0", "ok 1 0"}, ask{"trim z z", "ok 1 0"},
		ask{"expr z </b>", "ok 2 2"}, ask{"trim m z", "ok 2 1"}, ask{"takes m </b>", "yes"}, ask{"names", "ok m p q r z"})
}

// P1501: drop, names.
func TestDropNames(t *testing.T) {
	k := begun(t, "syms x", "expr b x", "expr aa x", "expr a x", "expr abcdefgh x", "expr z x", "expr ab x", "expr abcdefg 1")
	all(t, k,
		ask{"names", "ok a aa ab abcdefg abcdefgh b z"}, ask{"drop aaa", "none"}, ask{"drop abcdef", "none"}, ask{"drop ab", "ok"}, ask{"drop ab", "none"}, ask{"names", "ok a aa abcdefg abcdefgh b z"}, ask{"word ab", "none"},
		ask{"word abcdefg", "ok 0"}, ask{"word abcdefgh", "ok 1"}, ask{"drop abcdefgh", "ok"}, ask{"word abcdefg", "ok 0"}, ask{"word abcdefgh", "none"}, ask{"drop a", "ok"}, ask{"drop aa", "ok"}, ask{"drop b", "ok"}, ask{"names", "ok abcdefg z"}, ask{"drop z", "ok"}, ask{"drop abcdefg", "ok"},
		ask{"names", "ok"}, ask{"drop z", "none"}, ask{"expr z x x", "ok 3 2"}, ask{"names", "ok z"}, ask{"word z", "ok 2"})
}
