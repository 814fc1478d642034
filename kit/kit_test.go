package kit_test

import (
	"strings"
	"testing"

	"canopy/kit"
)

// The example; and what a kit without symbols answers.
func TestNew(t *testing.T) {
	all(t, kit.New(), ask{"names", "ok"})
	all(t, &kit.Kit{}, ask{"expr p x", "long"}, ask{"drop p", "none"}, ask{"syms x", "ok 1"}, ask{"expr p x", "ok 2 1"}, ask{"names", "ok p"})
	all(t, kit.New(),
		ask{"expr p x", "long"}, ask{"expr p", "long"}, ask{"expr p 0", "long"}, ask{"expr p ?", "long"}, ask{"expr p " + strings.Repeat("x", 2001), "long"},
		ask{"expr", "text"}, ask{"expr P x", "text"}, ask{"names", "ok"},
		ask{"not p p", "none"}, ask{"and p p p", "none"}, ask{"or p p p", "none"}, ask{"less p p p", "none"}, ask{"trim p p", "none"},
		ask{"takes p x", "none"}, ask{"word p", "none"}, ask{"within p p", "none"}, ask{"same p p", "none"}, ask{"feed p 0 x", "none"}, ask{"drop p", "none"},
		ask{"names", "ok"},
		// a schema brings its own
		ask{"dtd p root p;element p=empty;", "ok 3 2"}, ask{"expr q text", "ok 2 1"}, ask{"names", "ok p q"})
}

// Parts of which lines are made: a command, and of what stands behind it whether it is a name, a number or the rest.
var lines = []struct {
	command string
	parts   string // n: a name of what is made; a: one of a machine; d: a number; r: the rest
}{
	{"syms", "r"}, {"expr", "nr"}, {"dtd", "nr"}, {"not", "na"}, {"and", "naa"}, {"or", "naa"}, {"less", "naa"}, {"trim", "na"},
	{"takes", "ar"}, {"word", "a"}, {"within", "aa"}, {"same", "aa"}, {"feed", "adr"}, {"drop", "a"}, {"names", ""},
}

// P1501: lines that are none.
func TestNoLine(t *testing.T) {
	odd := map[rune][]string{
		'n': {"", "P", "abcdefghi", "a1", "0", "-", "a-b", "<a>", "a\t", "\ta", "a\n", "a\r", "\x00", "\xff", "é", "a*", "`", "{", "a.b", "aA", "abcdefghabcdefgh"},
		'd': {"", "00", "01", "007", "1000", "0999", "-1", "-0", "+1", "+0", "1.0", "1e2", "0x1", "x", "1x", "x1", "1_0", "\t1", "1\t", "99999999999999999999", "-99999999999999999999", "9999", "٣"},
	}
	odd['a'] = odd['n']
	good := map[rune]string{'n': "m", 'a': "p", 'd': "5", 'r': "x"}
	k := begun(t, setLetters, "expr p x", "expr q y")
	is := func(line string) {
		t.Helper()
		all(t, k, ask{line, "text"}, ask{"names", "ok p q"}, ask{"takes p x", "yes"}, ask{"takes q y", "yes"})
	}
	for _, c := range lines {
		words := []string{c.command}
		for i, part := range c.parts {
			if part != 'r' {
				is(strings.Join(words, " "))       // one lacks
				is(strings.Join(words, " ") + " ") // it has no bytes
			}
			for _, bad := range odd[part] {
				behind := ""
				for _, p := range c.parts[i+1:] {
					behind += " " + good[p]
				}
				is(strings.Join(append(words, bad), " ") + behind)
			}
			words = append(words, good[part])
		}
		line := strings.Join(words, " ")
		if !strings.HasSuffix(c.parts, "r") {
			is(line + " ")
			is(line + " p")
			is(line + " p p")
		}
		for _, bad := range []string{" " + line, "\t" + line, "\n" + line, strings.ToUpper(line[:1]) + line[1:], line[1:], c.command + "s" + line[len(c.command):], c.command + "\t" + line[len(c.command):], c.command + "\n", c.command + "\r", c.command + "\x00", strings.Replace(line, " ", "\t", 1) + "\t"} {
			is(bad)
		}
		if c.parts != "" && c.parts != "r" {
			is(strings.Replace(line, " ", "  ", 1))
		}
	}
	for _, bad := range []string{"", " ", "  ", "\n", "x", "0", "help", "\xff", "\x00", "names\x00", "takes\xa0p x", "class p", "fold p", "small p", "p", "syms,", "symsx", "names ok"} {
		is(bad)
	}
	is(strings.Repeat(" ", 1<<16))
	is(strings.Repeat("names", 1<<16))
}

// P1501: text comes ahead of none, none ahead of what layers tell; machines are asked for in order, all of them.
func TestErrorsInOrder(t *testing.T) {
	k := begun(t, setLetters, "expr p x", "dtd p root p;element p=any;", "expr q 1")
	all(t, k,
		ask{"feed z 01 x", "text"}, ask{"feed Z 1 x", "text"}, ask{"and m z Z", "text"}, ask{"and m Z z", "text"}, ask{"and M z z", "text"}, ask{"word z z", "text"}, ask{"drop z ", "text"},
		ask{"not M z", "text"}, ask{"within z Z", "text"}, ask{"takes Z ?", "text"},
		ask{"takes z ?", "none"}, ask{"takes z " + strings.Repeat("x", 2001), "none"}, ask{"feed z 0 ?", "none"}, ask{"feed z 0", "none"},
		ask{"and m z p", "none"}, ask{"and m p z", "none"}, ask{"or m z p", "none"}, ask{"or m p z", "none"}, ask{"less m z p", "none"}, ask{"less m p z", "none"},
		ask{"within z p", "none"}, ask{"within p z", "none"}, ask{"same z p", "none"}, ask{"same p z", "none"}, ask{"same z z", "none"},
		ask{"not p z", "none"}, ask{"trim p z", "none"}, ask{"names", "ok p q"})
}

// P1501: syms.
func TestSyms(t *testing.T) {
	many := func(n int) string { return strings.Join(strings.Split("abcdefghijklmnopqrstuvwxyz"[:n], ""), " ") }
	for _, a := range []ask{
		{"x", "ok 1"}, {"<x>", "ok 1"}, {"</x>", "ok 1"}, {"x <x> </x>", "ok 3"}, {"abcdefgh <abcdefgh> </abcdefgh>", "ok 3"}, {"azazazaz", "ok 1"},
		{many(19), "ok 19"}, {many(20), "ok 20"}, {many(21), "long"}, {many(26), "long"},
		{"", "long"}, {strings.Repeat("x ", 20), "long"}, {strings.Repeat("x ", 20) + "x", "long"}, {strings.Repeat("x ", 19) + "x", "twice"},
		{"x x", "twice"}, {"<x> <x>", "twice"}, {"</x> </x>", "twice"}, {"x <x> y </x> <x>", "twice"}, {"x y z x", "twice"},
		{" ", "text"}, {"  ", "text"}, {" x", "text"}, {"x ", "text"}, {"x  y", "text"}, {"x\ty", "text"}, {"x\n", "text"}, {"x\n y", "text"}, {"x,y", "text"}, {"<x></x>", "text"}, {"x<x>", "text"},
		{"<", "text"}, {">", "text"}, {"</", "text"}, {"<>", "text"}, {"</>", "text"}, {"/", "text"}, {"<x", "text"}, {"</x", "text"}, {"x>", "text"}, {"/x", "text"}, {"/x>", "text"}, {"<x/>", "text"}, {"<//x>", "text"}, {"<<x>", "text"}, {"<x>>", "text"}, {"<x>x", "text"},
		{"X", "text"}, {"<X>", "text"}, {"</X>", "text"}, {"x1", "text"}, {"abcdefghi", "text"}, {"<abcdefghi>", "text"}, {"</abcdefghi>", "text"}, {"`", "text"}, {"{", "text"}, {"\xff", "text"}, {"é", "text"}, {"x \x00", "text"},
		{"x y ?", "text"}, {"? x y", "text"}, {"x ? y", "text"},
		// what the first one of the list has that has one; that they are too many comes ahead of all
		{"x x ?", "twice"}, {"? x x", "text"}, {"x ? x", "text"}, {"x x  x", "twice"}, {"x <a <a", "text"},
		{many(20) + " ?", "long"}, {"? " + many(20), "long"}, {"? " + many(19), "text"}, {many(19) + " ?", "text"}, {many(20) + " ", "long"}, {strings.Repeat(" ", 20), "long"}, {strings.Repeat(" ", 19), "text"}, {strings.Repeat("? ", 1<<16), "long"},
	} {
		k := begun(t, setLetters, "expr p <a[ y ]b>")
		all(t, k, ask{"syms " + a.line, a.want})
		if strings.HasPrefix(a.want, "ok") {
			all(t, k, ask{"names", "ok"}, ask{"word p", "none"})
		} else {
			all(t, k, ask{"names", "ok p"}, ask{"takes p <a> y </b>", "yes"}, ask{"expr q x </a> <a> y <b> </b>", "ok 7 8"})
		}
	}
	all(t, begun(t, setLetters, "expr p x"), ask{"syms", "long"}, ask{"names", "ok p"})
	// they are the symbols, in their order
	k := begun(t, "syms text <p> </p> q")
	all(t, k, ask{"expr m text|<p[q]p>|</p>", "ok 6 6"}, ask{"takes m <p> q </p>", "yes"}, ask{"takes m text", "yes"}, ask{"takes m </p>", "yes"}, ask{"takes m p", "none 0"}, ask{"takes m <q>", "none 0"},
		ask{"syms p q", "ok 2"}, ask{"expr m p", "ok 2 1"}, ask{"takes m p", "yes"}, ask{"takes m <p>", "none 0"})
}

// P1501: each byte, alone, behind a letter and within what opens and closes.
func TestSymsEachByte(t *testing.T) {
	k := kit.New()
	for b := range 256 {
		c := string([]byte{byte(b)})
		want := "text"
		if b >= 'a' && b <= 'z' {
			want = "ok 1"
		}
		all(t, k, ask{"syms " + c, want}, ask{"syms q" + c, want}, ask{"syms <" + c + ">", want}, ask{"syms </q" + c + ">", want})
		if b >= 'a' && b <= 'z' {
			want = "ok 2 1"
		}
		all(t, k, ask{"syms x", "ok 1"}, ask{"expr " + c + " x", want})
		if c != " " {
			all(t, k, ask{"expr q" + c + " x", want})
		}
	}
}

// P1501: expr.
func TestExpr(t *testing.T) {
	k := begun(t, setLetters)
	all(t, k,
		ask{"expr p x", "ok 2 1"}, ask{"expr p 0", "ok 1 0"}, ask{"expr p 1", "ok 1 0"}, ask{"expr p x* <a[ y ]b>", "ok 5 6"}, ask{"expr p   x  y ", "ok 3 2"},
		ask{"names", "ok p"}, ask{"expr abcdefgh x", "ok 2 1"}, ask{"expr names x|y", "ok 3 2"}, ask{"names", "ok abcdefgh names p"},
		ask{"takes p x y", "yes"}, ask{"takes names y", "yes"},
		ask{"expr p", "text 0"}, ask{"expr p ", "text 0"}, ask{"expr p  ", "text 1"}, ask{"expr p x?", "text 1"}, ask{"expr p x y\n", "text 3"}, ask{"expr p (x", "text 2"}, ask{"expr p \xff", "text 0"}, ask{"expr p x |", "text 3"},
		ask{"expr p z", "none 0"}, ask{"expr p x z", "none 2"}, ask{"expr p <x[ y ]b>", "none 0"}, ask{"expr p <a[ y ]x>", "none 6"},
		ask{"expr p <a[ <a> ]a>", "loose 0"}, ask{"expr p x <a[ </a> ]a>", "loose 0"},
		ask{"expr p " + strings.Repeat("(", 41) + "x" + strings.Repeat(")", 41), "ok 2 1"}, ask{"expr p x y", "ok 3 2"}, ask{"expr p " + strings.Repeat("(", 42) + "x" + strings.Repeat(")", 42), "deep 41"},
		ask{"expr p x" + strings.Repeat("*", 19), "ok 2 2"}, ask{"expr p x y", "ok 3 2"}, ask{"expr p x" + strings.Repeat("*", 20), "deep 0"},
		ask{"expr p " + strings.Repeat(" ", 1999) + "x", "ok 2 1"}, ask{"expr p x y", "ok 3 2"}, ask{"expr p " + strings.Repeat(" ", 2000) + "x", "long 0"}, ask{"expr p " + strings.Repeat("x ", 200), "long 0"},
		ask{"expr p " + strings.Repeat("x ", 199), "budget"}, ask{"expr p " + strings.Repeat("x ", 60), "budget"},
		// nothing was changed
		ask{"takes p x y", "yes"}, ask{"takes p x", "no"}, ask{"names", "ok abcdefgh names p"}, ask{"expr q z", "none 0"}, ask{"names", "ok abcdefgh names p"},
		ask{"expr p " + strings.Repeat("x ", 59), "ok 60 59"}, ask{"takes p" + strings.Repeat(" x", 59), "yes"}, ask{"takes p x y", "no"})
}

// P1501: dtd.
func TestDtd(t *testing.T) {
	const good = "root a; element a = a?, text;"
	k := begun(t, setLetters, "expr p x", "expr q y")
	all(t, k,
		ask{"dtd p", "text 0"}, ask{"dtd p ", "text 0"}, ask{"dtd p root a;", "none 0"}, ask{"dtd p root a; element a = ;", "text 20"}, ask{"dtd p root a; element a = b;", "none 0"}, ask{"dtd p root a; element a = empty; element a = empty;", "twice 35"},
		ask{"dtd p root a;" + strings.Repeat(" ", 1993), "none 0"}, ask{"dtd p root a;" + strings.Repeat(" ", 1994), "long 0"}, ask{"dtd p x", "text 0"},
		ask{"dtd p root a; element a = " + strings.Repeat("(", 20) + "a" + strings.Repeat(")", 20) + ";", "ok 4 4"})
	k = begun(t, setLetters, "expr p x", "expr q y")
	all(t, k,
		ask{"dtd p root a; element a = " + strings.Repeat("(", 21) + "a" + strings.Repeat(")", 21) + ";", "deep 40"},
		ask{"dtd p root a; element a = " + strings.Repeat("a,", 57) + "a;", "budget"}, ask{"dtd q root a; element a = " + strings.Repeat("a,", 300) + "a;", "budget"},
		// nothing was changed
		ask{"names", "ok p q"}, ask{"takes p x", "yes"}, ask{"takes q y", "yes"}, ask{"expr r x </a> <a> y <b> </b>", "ok 7 8"},
		// all but this one are no more; the symbols are its own
		ask{"dtd q " + good, "ok 5 6"}, ask{"names", "ok q"}, ask{"takes q <a> <a> text </a> text </a>", "yes"}, ask{"takes q <a> </a>", "no"}, ask{"takes q x", "none 0"}, ask{"takes q a", "none 0"}, ask{"takes p text", "none"},
		ask{"expr p <a[ text ]a>", "ok 4 3"}, ask{"names", "ok p q"}, ask{"expr r x", "none 0"},
		ask{"dtd r root b; element b = text*; element c = b;", "ok 6 8"}, ask{"names", "ok r"}, ask{"expr p <a>", "none 0"}, ask{"expr p <c> </b> </c> <b> text", "ok 6 7"},
		ask{"dtd r root a;\nelement a =\n\nempty\n;\n", "ok 3 2"}, ask{"names", "ok r"}, ask{"takes r <a> </a>", "yes"},
		ask{"dtd r root a; element a = " + strings.Repeat("a,", 56) + "a;", "ok 60 116"}, ask{"names", "ok r"}, ask{"word r", "none"},
		ask{"syms x", "ok 1"}, ask{"names", "ok"}, ask{"expr p text", "none 0"})
}
