package schema_test

import (
	"fmt"
	"math/rand"
	"slices"
	"strings"
	"testing"

	"canopy/api"
	"canopy/schema"
)

// P801: what texts tell.
func TestParse(t *testing.T) {
	for text, want := range map[string]string{
		"root a;element a=empty;":                                     "{a [{a {1  []}}]}",
		"root a;element a=any;":                                       "{a [{a {2  []}}]}",
		"root a;element a=text;":                                      "{a [{a {3  []}}]}",
		"root a;element a=a;":                                         "{a [{a {4 a []}}]}",
		"root a;element a=a*;":                                        "{a [{a {7  [{4 a []}]}}]}",
		"root a;element a=text+;":                                     "{a [{a {8  [{3  []}]}}]}",
		"root a;element a=any?;":                                      "{a [{a {9  [{2  []}]}}]}",
		"root a;element a=empty*;":                                    "{a [{a {7  [{1  []}]}}]}",
		"root a;element a=a,text;":                                    "{a [{a {5  [{4 a []} {3  []}]}}]}",
		"root a;element a=a|text|any;":                                "{a [{a {6  [{4 a []} {3  []} {2  []}]}}]}",
		"root a;element a=a,text|any,empty;":                          "{a [{a {6  [{5  [{4 a []} {3  []}]} {5  [{2  []} {1  []}]}]}}]}",
		"root a;element a=a*,text+|any?;":                             "{a [{a {6  [{5  [{7  [{4 a []}]} {8  [{3  []}]}]} {9  [{2  []}]}]}}]}",
		"root a;element a=(a);":                                       "{a [{a {4 a []}}]}",
		"root a;element a=((a,text));":                                "{a [{a {5  [{4 a []} {3  []}]}}]}",
		"root a;element a=(a,text)|(any);":                            "{a [{a {6  [{5  [{4 a []} {3  []}]} {2  []}]}}]}",
		"root a;element a=(a|text)|any;":                              "{a [{a {6  [{6  [{4 a []} {3  []}]} {2  []}]}}]}",
		"root a;element a=any|(a|text);":                              "{a [{a {6  [{2  []} {6  [{4 a []} {3  []}]}]}}]}",
		"root a;element a=any,(a,text);":                              "{a [{a {5  [{2  []} {5  [{4 a []} {3  []}]}]}}]}",
		"root a;element a=(a|text),any;":                              "{a [{a {5  [{6  [{4 a []} {3  []}]} {2  []}]}}]}",
		"root a;element a=(a|text)?;":                                 "{a [{a {9  [{6  [{4 a []} {3  []}]}]}}]}",
		"root a;element a=((a)*)+;":                                   "{a [{a {8  [{7  [{4 a []}]}]}}]}",
		"root a;element a=(a)*;":                                      "{a [{a {7  [{4 a []}]}}]}",
		"root a;element a=(a*);":                                      "{a [{a {7  [{4 a []}]}}]}",
		"root b;element a=b;element b=a;":                             "{b [{a {4 b []}} {b {4 a []}}]}",
		"root b;element c=any;element b=any;":                         "{b [{c {2  []}} {b {2  []}}]}",
		"root abcdefgh;element abcdefgh=abcdefgh;":                    "{abcdefgh [{abcdefgh {4 abcdefgh []}}]}",
		"root zz;element zz=empty;":                                   "{zz [{zz {1  []}}]}",
		"\n root \n a ; element\na=( a | a , a ) * ;\n\n":             "{a [{a {7  [{6  [{4 a []} {5  [{4 a []} {4 a []}]}]}]}}]}",
		" root\na;element a =text ;":                                  "{a [{a {3  []}}]}",
		"root roo;element roo=rootx|texts|elemen|emptyy|aany;" + near: "{roo [{roo {6  [{4 rootx []} {4 texts []} {4 elemen []} {4 emptyy []} {4 aany []}]}} {rootx {1  []}} {texts {1  []}} {elemen {1  []}} {emptyy {1  []}} {aany {1  []}}]}",
	} {
		s, at, err := schema.Parse(text)
		if got := fmt.Sprint(s); got != want || at != 0 || err != api.OK {
			t.Errorf("P801: Parse of %q: %s, %d, %v, not %s", text, got, at, err, want)
		}
	}
}

// near are elements whose names are near words that are none.
const near = "element rootx=empty;element texts=empty;element elemen=empty;element emptyy=empty;element aany=empty;"

// refused tells whether Parse of text answers that error there, and nothing beside it (P4).
func refused(t *testing.T, text string, at int, err api.Errno) {
	t.Helper()
	s, place, got := schema.Parse(text)
	if place != at || got != err || !same(s, api.Schema{}) {
		t.Errorf("P801: Parse of %q: %v, %d, %v, not %d, %v", text, s, place, got, at, err)
	}
}

// P801: BadText is at the first byte of what may not stand there, be it the end. The place is marked by ^.
func TestBadText(t *testing.T) {
	for _, marked := range []string{
		"^", "  ^", "\n \n^", "^a", "^;", "^roota;", "^rootroot a;", "^roo t a;", "^Root a;", "^element a=a;", "^empty", "^(root a;)",
		"root^", "root ^", "root   ^", "root ^;", "root ^root;", "root ^element;", "root ^empty;", "root ^any;", "root ^text;", "root ^abcdefghi;", "root ^1;", "root ^A;", "root ^(a);", "root\n\n ^*",
		"root a^", "root a  ^", "root a ^b;", "root a^,b;", "root a ^element", "root a^1;", "root a^A;", "root a^-b;", "root a^\t;", "root a^=",
		"root a;^;", "root a; ^a", "root a;^root a;", "root a; ^Element a=a;", "root a;^elementa=a;", "root a;^elements a=a;", "root a;^elemen t a=a;", "root a;^any", "root a;^(", "root a;^=",
		"root a;element^", "root a;element ^=a;", "root a;element ^element=a;", "root a;element ^root=a;", "root a;element ^text=a;", "root a;element ^any=a;", "root a;element ^empty=a;", "root a;element ^abcdefghi=a;", "root a;element ^;", "root a;element ^(a)=a;",
		"root a;element a^", "root a;element a^;", "root a;element a ^a;", "root a;element a ^text;", "root a;element a^:=a;", "root a;element a^(", "root a;element a^*",
		"root a;element a=^", "root a;element a=^;", "root a;element a= ^=a;", "root a;element a=^*;", "root a;element a=^+;", "root a;element a=^?;", "root a;element a=^,a;", "root a;element a=^|a;", "root a;element a=^);", "root a;element a=^root;", "root a;element a=^element;", "root a;element a=^abcdefghi;", "root a;element a=^1;", "root a;element a=^\x00", "root a;element a=^\xff",
		"root a;element a=a^", "root a;element a=a ^a;", "root a;element a=a ^text;", "root a;element a=a ^root;", "root a;element a=a ^element b=b;", "root a;element a=a ^empty;", "root a;element a=a^(a);", "root a;element a=(a)^(a);", "root a;element a=(a)^a;", "root a;element a=a^);", "root a;element a=(a)^);", "root a;element a=a^=a;", "root a;element a=a*^a;", "root a;element a=a*^(a);", "root a;element a=text ^any;", "root a;element a=a^#", "root a;element a=a^é;", "root a;element a=a^B;", "root a;element a=a^\r;",
		"root a;element a=a*^*;", "root a;element a=a*^+;", "root a;element a=a*^?;", "root a;element a=a+^*;", "root a;element a=a+^+;", "root a;element a=a+^?;", "root a;element a=a?^*;", "root a;element a=a?^+;", "root a;element a=a?  ^?;", "root a;element a=(a)*^*;",
		"root a;element a=a,^", "root a;element a=a,^;", "root a;element a=a,^,a;", "root a;element a=a,^|a;", "root a;element a=a,^*;", "root a;element a=a,^);", "root a;element a=a,^root;",
		"root a;element a=a|^", "root a;element a=a|^;", "root a;element a=a|^|a;", "root a;element a=a|^,a;", "root a;element a=a|^?;", "root a;element a=a|^);", "root a;element a=a|^element;",
		"root a;element a=(^", "root a;element a=(^);", "root a;element a=(^;", "root a;element a=(^*a);", "root a;element a=(^|a);", "root a;element a=(^,a);", "root a;element a=((^);",
		"root a;element a=(a^", "root a;element a=(a^;", "root a;element a=((a)^;", "root a;element a=(a|^);", "root a;element a=(a,^);", "root a;element a=(a ^a);", "root a;element a=(a^(", "root a;element a=(a* ^a);",
		"root a;element a=a;^a", "root a;element a=a;^;", "root a;element a=a;  ^root a;", "root a;element a=a;^elementb=b;", "root a;element a=a;^)", "root a;element a=a;\n^\x00", "root a;element a=a;^*", "root a;element a=a;element ^=a;", "root a;element a=a;element b=^;",
		"root b;element a=c;^x", "root b;element a=c;element^", "root b;element a=a,c^",
	} {
		at := strings.Index(marked, "^")
		refused(t, marked[:at]+marked[at+1:], at, api.BadText)
	}
}

// P801: a byte of its own, at places of each kind.
func TestBytes(t *testing.T) {
	for i := range 256 {
		c := string([]byte{byte(i)})
		letter, blank := 'a' <= i && i <= 'z', c == " " || c == "\n"
		for _, at := range []struct{ ahead, behind, fits string }{
			{"", "root a;element a=a;", ""},
			{"root", " a;element a=a;", ""},
			{"root a", ";element a=a;", ""},
			{"root a;", "element a=a;", ""},
			{"root a;element a=", "text;", "("},
			{"root a;element a=text ", ";", "*+?|,"},
			{"root a;element a=a;", "", ""},
		} {
			s, place, err := schema.Parse(at.ahead + c + at.behind)
			switch {
			case blank:
				if err != api.OK || place != 0 || len(s.L) != 1 {
					t.Errorf("P801: %q behind %q: %d, %v", c, at.ahead, place, err)
				}
			case letter || at.fits != "" && strings.Contains(at.fits, c):
			case err != api.BadText || place != len(at.ahead) && !(c == ";" && place == len(at.ahead)+1):
				t.Errorf("P801: %q behind %q: %d, %v", c, at.ahead, place, err)
			}
		}
	}
}

// P801: one blank, or more, between all signs matters not; between two words, none is another text.
func TestBlanks(t *testing.T) {
	signs := strings.Split("root a ; element a = ( text | b * , any ) + | ( empty ) ? ; element b = b , a ;", " ")
	want := parsed(t, strings.Join(signs, " "))
	for _, between := range []string{" ", "\n", "  ", "\n\n", " \n ", strings.Repeat(" \n", 20)} {
		if s, at, err := schema.Parse(between + strings.Join(signs, between) + between); !same(s, want) || at != 0 || err != api.OK {
			t.Errorf("P801: %q between: %v, %d, %v", between, s, at, err)
		}
	}
	word := func(s string) bool { return 'a' <= s[0] && s[0] <= 'z' }
	for i := 1; i < len(signs); i++ {
		ahead := strings.Join(signs[:i], " ")
		s, at, err := schema.Parse(ahead + strings.Join(signs[i:], " "))
		if !word(signs[i-1]) || !word(signs[i]) {
			if !same(s, want) || at != 0 || err != api.OK {
				t.Errorf("P801: no blank behind %q: %v, %d, %v", ahead, s, at, err)
			}
		} else if at != len(ahead)-len(signs[i-1]) || err != api.BadText {
			t.Errorf("P801: no blank behind %q: %d, %v", ahead, at, err)
		}
	}
}

// P801: the other errors, and which goes ahead. The place is marked by ^, but where it is 0.
func TestErrors(t *testing.T) {
	rows := func(n int) string {
		out := "root a;"
		for i := range n {
			out += "element " + string(rune('a'+i)) + "=empty;"
		}
		return out
	}
	for _, c := range []struct {
		marked string
		err    api.Errno
	}{
		{"root a;element a=a;element ^a=a;", api.Twice},
		{"root a;element b=a;element a=a;element ^b=a;", api.Twice},
		{"root a;element a=a;element ^a", api.Twice},
		{"root a;element a=a;element \n^a a a", api.Twice},
		{"root a;element a=a;element aa=a;element ^aa=;", api.Twice},
		{"root a;element a=b;element ^a=c;", api.Twice},
		{rows(8) + "element ^i=empty;", api.TooLong},
		{rows(8) + "element ^i", api.TooLong},
		{rows(8) + "element ^z (", api.TooLong},
		{rows(8) + "element ^a=empty;", api.Twice},
		{rows(8) + "element ^h=empty;", api.Twice},
		{rows(8) + "element ^abcdefghi=empty;", api.BadText},
		{rows(8) + "element ^text=empty;", api.BadText},
		{rows(8) + "element ^", api.BadText},
		{rows(8) + "^i", api.BadText},
		{"root a;element a=" + strings.Repeat("(", 20) + "^(", api.TooDeep},
		{"root a;element a=" + strings.Repeat("(", 20) + "^(a", api.TooDeep},
		{"root a;element a=" + strings.Repeat("(", 20) + "^*", api.BadText},
		{"root a;element a=" + strings.Repeat("(", 20) + "a^(", api.BadText},
		{"root a;element a=" + strings.Repeat("(", 20) + "a|\n^(a)" + strings.Repeat(")", 20) + ";", api.TooDeep},
		{"root a;element a=" + strings.Repeat("(", 20) + "a)),((a,^(a", api.TooDeep},
		{"root a;element a=" + strings.Repeat("((a)|", 19) + "(a,^", api.BadText},
		{"root a;element a=" + strings.Repeat("((a)|", 19) + "(^(a", api.TooDeep},
		{"root a;element a=a;element b=" + strings.Repeat("(", 20) + "^(a", api.TooDeep},
		{"root b;element a=" + strings.Repeat("(", 20) + "^(c", api.TooDeep},
		{"root b;element a=" + parens(20, "c") + ";element ^a", api.Twice},
		{"root a;", api.NoName},
		{"root b;element a=a;", api.NoName},
		{"root a;element a=b;", api.NoName},
		{"root a;element a=a,b;", api.NoName},
		{"root a;element a=a|(text,(b*)?)+;", api.NoName},
		{"root a;element a=a;element b=aa;", api.NoName},
		{"root a;element aa=text;", api.NoName},
		{"root b;element a=c;", api.NoName},
		{"root b;element a=c;^=", api.BadText},
		{"root b;element a=c;element b=^", api.BadText},
	} {
		refused(t, strings.Replace(c.marked, "^", "", 1), max(strings.Index(c.marked, "^"), 0), c.err)
	}
	for _, text := range []string{rows(8), "root a;element a=" + parens(20, "a") + ";element b=" + parens(20, parens(0, "a")+"|a") + ";", "root a;element a=" + many(100, parens(3, "a"), ",") + ";"} {
		if s, at, err := schema.Parse(text); err != api.OK || at != 0 || len(s.L) == 0 {
			t.Errorf("P801: Parse of %q: %d, %v", text, at, err)
		}
	}
}

// P801: 2000 bytes are read, 2001 none, whatever they are.
func TestLong(t *testing.T) {
	const some = "root a;element a="
	for _, text := range []string{some + "a;", some + many(900, "a", ",") + ";", some + many(900, "a", "|") + ";", some + parens(20, "a*") + ";"} {
		full := text + strings.Repeat(" ", api.MaxText-len(text))
		if s, at, err := schema.Parse(full); err != api.OK || at != 0 || !same(s, parsed(t, text)) {
			t.Errorf("P801: Parse of 2000 bytes: %d, %v", at, err)
		}
		refused(t, full+" ", 0, api.TooLong)
		refused(t, "\n"+full, 0, api.TooLong)
	}
	full := some + many((api.MaxText-len(some))/2, "a", ",") + ";"
	if s := parsed(t, full); len(full) != api.MaxText && len(full) != api.MaxText-1 || len(s.L[0].M.L) != (api.MaxText-len(some))/2 {
		t.Errorf("P801: %d bytes, %d parts", len(full), len(s.L[0].M.L))
	}
	refused(t, strings.Repeat(" ", api.MaxText), api.MaxText, api.BadText)
	refused(t, strings.Repeat("\xff", api.MaxText), 0, api.BadText)
	refused(t, strings.Repeat("root a;", 300), 0, api.TooLong)
	refused(t, strings.Repeat("a", 1<<20), 0, api.TooLong)
	refused(t, "root "+strings.Repeat("a", api.MaxText-5), 5, api.BadText)
	refused(t, some+strings.Repeat("(", api.MaxText-len(some)), len(some)+20, api.TooDeep)
}

// P801: texts of any signs, held against a reader of another kind.
func TestAnyTexts(t *testing.T) {
	met := map[api.Errno]int{}
	hold := func(text string) {
		s, at, err := schema.Parse(text)
		want, place, wrong := plainRead(text)
		if err != wrong || at != place || !same(s, want) {
			t.Fatalf("P801: Parse of %q: %v, %d, %v, not %v, %d, %v", text, s, at, err, want, place, wrong)
		}
		if again, to, as := schema.Parse(text); !same(again, s) || to != at || as != err {
			t.Fatalf("P3: Parse of %q: %v, %d, %v, then %v, %d, %v", text, s, at, err, again, to, as)
		}
		met[err]++
	}
	signs := []string{"root", "element", "empty", "any", "text", "a", "b", "roots", "abcdefghi", ";", "=", "|", ",", "*", "+", "?", "(", ")", " ", "\n", "é", "\t", "A"}
	some(1, 4000, func(r *rand.Rand, s api.Schema) {
		text := loose(r, s)
		hold(text)
		hold(text[:r.Intn(len(text)+1)])
		for range 3 {
			from := r.Intn(len(text) + 1)
			to := min(len(text), from+r.Intn(3)*r.Intn(4))
			hold(text[:from] + signs[r.Intn(len(signs))] + text[to:])
		}
		if cut := strings.LastIndex(text, "element"); cut > 0 {
			hold(text[:cut])
			hold(text + text[cut:])
			hold(text + "element new=a;")
		}
	})
	r := rand.New(rand.NewSource(2))
	for range 20000 {
		text := "root a;element a=" + strings.Repeat("(", r.Intn(3)*r.Intn(11))
		for range r.Intn(30) {
			text += signs[5+r.Intn(len(signs)-8)]
		}
		hold(text)
	}
	for _, err := range []api.Errno{api.OK, api.BadText, api.TooLong, api.TooDeep, api.Twice, api.NoName} {
		if met[err] < 10 {
			t.Error(err, met[err])
		}
	}
}

// P801: all texts of up to five signs behind the beginning of a model.
func TestShortTexts(t *testing.T) {
	signs := []string{"a", "(", ")", "*", "|", ",", ";", "text "}
	row := []string{"root a;element a="}
	for range 5 {
		var longer []string
		for _, ahead := range row {
			for _, sign := range signs {
				text := ahead + sign
				s, at, err := schema.Parse(text)
				if want, place, wrong := plainRead(text); err != wrong || at != place || !same(s, want) {
					t.Fatalf("P801: Parse of %q: %v, %d, %v, not %v, %d, %v", text, s, at, err, want, place, wrong)
				}
				longer = append(longer, text)
			}
		}
		row = longer
	}
}

// P2: what is answered is new, its spare room too, and no two lists share any.
func TestParseAnswers(t *testing.T) {
	some(3, 1000, func(r *rand.Rand, s api.Schema) {
		text := loose(r, s)
		got, spoilt := parsed(t, text), parsed(t, text)
		spoil(spoilt)
		if !same(got, s) || !same(parsed(t, text), s) {
			t.Fatalf("P2: Parse of %q: %v, once an answer is written over", text, got)
		}
		places := lists(got)
		slices.SortFunc(places, func(m, n *api.Model) int { return strings.Compare(fmt.Sprintf("%p", m), fmt.Sprintf("%p", n)) })
		if len(slices.Compact(places)) != len(lists(got)) {
			t.Fatalf("P2: two lists of %v share room", got)
		}
	})
}
