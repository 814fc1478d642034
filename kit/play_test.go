package kit_test

import (
	"math/rand"
	"slices"
	"strings"
	"sync"
	"testing"

	"canopy/kit"
	"canopy/word"
)

// anyLine is a line that may be well, of few names.
func anyLine(r *rand.Rand, k *plain) string {
	name := func() string { return []string{"p", "q", "r", "pp", "abcdefgh"}[r.Intn(5)] }
	anyWord := func() []int {
		var w []int
		for range r.Intn(6) {
			w = append(w, r.Intn(max(len(k.l), 1)))
		}
		return w
	}
	switch r.Intn(16) {
	case 0:
		if r.Intn(4) == 0 {
			return []string{setLetters, "syms x y", "syms <a> </a> x", "syms x x", "syms"}[r.Intn(5)]
		}
		return "names"
	case 1:
		if r.Intn(4) == 0 {
			return "dtd " + name() + " " + anySchema(r)
		}
		return "drop " + name()
	case 2, 3, 4, 5:
		return "expr " + name() + " " + anyExpr(r, r.Intn(3), false)
	case 6:
		return "not " + name() + " " + name()
	case 7, 8:
		return []string{"and", "or", "less"}[r.Intn(3)] + " " + name() + " " + name() + " " + name()
	case 9:
		return "trim " + name() + " " + name()
	case 10, 11:
		return "takes " + name() + " " + word.Text(k.l, anyWord())
	case 12:
		return "word " + name()
	case 13:
		return "within " + name() + " " + name()
	case 14:
		return "same " + name() + " " + name()
	}
	return "feed " + name() + " " + []string{"0", "1", "2", "9", "10", "999"}[r.Intn(6)] + " " + stream(r, k.l, anyWord())
}

// spoilt is s with a byte changed, put in or left out.
func spoilt(r *rand.Rand, s string) string {
	const odd = "  <>/[]()|*;,=abcpqxyzAZ019?\t\n\r\x00\xff"
	b := []byte(s)
	c, i := odd[r.Intn(len(odd))], r.Intn(len(b)+1)
	switch {
	case i == len(b) || r.Intn(3) == 0:
		b = slices.Insert(b, i, c)
	case r.Intn(2) == 0:
		b = slices.Delete(b, i, i+1)
	default:
		b[i] = c
	}
	return string(b)
}

// anyLines goes through any lines, some of them spoilt, one behind the other, each with what is to be answered.
func anyLines(r *rand.Rand, n int, tell func(line, want string)) {
	p := newPlain()
	line := setLetters
	for range n {
		tell(line, p.do(line))
		if line = anyLine(r, p); r.Intn(8) == 0 {
			line = spoilt(r, line)
		}
	}
}

// P1501: any lines; those of each kind come often enough.
func TestAnyLines(t *testing.T) {
	r := rand.New(rand.NewSource(15))
	seen := map[string]int{}
	for range 250 {
		k := kit.New()
		anyLines(r, 60, func(line, want string) {
			if got := k.Do(line); got != want {
				t.Fatalf("P1501: %q: %q, not %q", line, got, want)
			}
			seen[strings.SplitN(line, " ", 2)[0]+" "+strings.TrimRight(want, " 0123456789")]++
		})
	}
	for _, s := range []string{"expr ok", "dtd ok", "not ok", "and ok", "or ok", "less ok", "less budget", "trim ok", "takes yes", "takes no", "takes none", "word ok", "word none", "within yes", "within no", "within budget", "same yes", "same no", "feed yes", "feed no", "feed token", "feed depth", "drop ok", "drop none", "syms ok", "syms twice", "syms long"} {
		if seen[s] < 5 {
			t.Errorf("too few: %s: %d", s, seen[s])
		}
	}
}

// P1502, P3: any scripts, twice each.
func TestAnyScripts(t *testing.T) {
	r := rand.New(rand.NewSource(14))
	for range 60 {
		script := ""
		anyLines(r, 40, func(line, _ string) { script += line + strings.Repeat("\n", 1+r.Intn(2)) })
		p, want := newPlain(), ""
		for _, line := range strings.Split(script, "\n") {
			if line != "" {
				want += p.do(line) + "\n"
			}
		}
		for range 2 {
			if got := kit.Run(script); got != want {
				t.Fatalf("P1502: %q: %q, not %q", script, got, want)
			}
		}
	}
}

// P1502: lines, by which bytes they end, and what is left out.
func TestRun(t *testing.T) {
	for _, c := range []struct{ script, want string }{
		{"", ""}, {"\n", ""}, {"\n\n\n", ""}, {"names", "ok\n"}, {"names\n", "ok\n"}, {"\nnames", "ok\n"}, {"\n\nnames\n\n\nnames\n", "ok\nok\n"},
		{" ", "text\n"}, {" \n", "text\n"}, {"\n ", "text\n"}, {"names\r\n", "text\n"}, {"\r\n", "text\n"}, {"names\x00\nnames", "text\nok\n"}, {"names\vnames\n", "text\n"}, {"names\u2028names", "text\n"}, {"names\u0085", "text\n"},
		{"syms x\nexpr p x\nnames\ntakes p x\nfeed p 0 x?\nword p\ndrop p\nnames", "ok 1\nok 2 1\nok p\nyes\ntoken 1\nok 1\nok\nok\n"},
		{"syms x\nsyms\nexpr p x\nexpr p\ntakes p\n", "ok 1\nlong\nok 2 1\ntext 0\nno\n"},
		{"expr p x\n?\nsyms x\n", "long\ntext\nok 1\n"},
		{"dtd p root a;\nelement a = empty;", "none 0\ntext\n"},
		{strings.Repeat("\n", 1<<16) + "names" + strings.Repeat("\n", 1<<16), "ok\n"},
		{strings.Repeat("names\n", 1000), strings.Repeat("ok\n", 1000)},
	} {
		for range 2 { // each is of a new kit
			if got := kit.Run(c.script); got != c.want {
				t.Errorf("P1502: %s: %q, not %q", short(c.script), got, c.want)
			}
		}
	}
}

// P7: kits side by side do not touch one another, even at once.
func TestSideBySide(t *testing.T) {
	one, two := begun(t, "syms x", "expr p x"), begun(t, "syms x y", "expr p y x")
	all(t, one, ask{"takes p x", "yes"}, ask{"syms y", "ok 1"}, ask{"names", "ok"})
	all(t, two, ask{"names", "ok p"}, ask{"takes p y x", "yes"}, ask{"drop p", "ok"})
	all(t, one, ask{"expr p y", "ok 2 1"}, ask{"names", "ok p"})
	all(t, two, ask{"names", "ok"})
	script := "syms x y <a> </a>\nexpr p x*|<a[ y ]a>\nexpr q (x|y)*\nwithin p q\nsame p q\nnot r p\nword r\nfeed p 1 <a>y</a>\n"
	want := kit.Run(script)
	var group sync.WaitGroup
	for range 8 {
		group.Go(func() {
			for range 20 {
				if got := kit.Run(script); got != want {
					t.Errorf("P3, P7: %q, not %q", got, want)
				}
			}
		})
	}
	group.Wait()
}

// P1, P4: any bytes.
func TestAnyBytes(t *testing.T) {
	r := rand.New(rand.NewSource(16))
	k, p := kit.New(), newPlain()
	for range 20000 {
		b := make([]byte, r.Intn(12))
		for i := range b {
			b[i] = byte(r.Intn(256))
		}
		line := []string{"", "syms ", "expr p ", "dtd p ", "takes p ", "feed p 9 ", "not ", "and p p ", "names", "drop "}[r.Intn(10)] + string(b)
		if got, want := k.Do(line), p.do(line); got != want {
			t.Fatalf("P1501: %q: %q, not %q", line, got, want)
		}
		if len(p.have) == 0 {
			k.Do(setLetters + " p")
			p.do(setLetters + " p")
			k.Do("expr p p")
			p.do("expr p p")
		}
	}
}
