package kit_test

import (
	"strings"
	"testing"
)

// P1501: takes.
func TestTakes(t *testing.T) {
	k := begun(t, setLetters, "expr p x* <a[ y ]b>", "expr e 1", "expr n 0", "expr w (x|y|<a>|</a>)*")
	all(t, k,
		ask{"takes p <a> y </b>", "yes"}, ask{"takes p   x x  <a>  y </b>  ", "yes"}, ask{"takes p <a> y </a>", "no"}, ask{"takes p x", "no"}, ask{"takes p", "no"}, ask{"takes p ", "no"}, ask{"takes p  ", "no"},
		ask{"takes e", "yes"}, ask{"takes e ", "yes"}, ask{"takes e   ", "yes"}, ask{"takes e x", "no"}, ask{"takes n", "no"}, ask{"takes n x", "no"},
		ask{"takes w </a> <a> x <a> y </a> </a> </a>", "yes"}, ask{"takes w" + strings.Repeat(" <a>", 500), "yes"}, ask{"takes w </b>", "no"},
		ask{"takes p z", "none 0"}, ask{"takes p x z", "none 2"}, ask{"takes p x <x>", "none 2"}, ask{"takes p  z", "none 1"},
		ask{"takes p ?", "text 0"}, ask{"takes p x<a>", "text 0"}, ask{"takes p x  <", "text 3"}, ask{"takes p x\n", "text 0"}, ask{"takes p x \t", "text 2"}, ask{"takes p abcdefghi", "text 0"}, ask{"takes p \xff", "text 0"},
		ask{"takes w " + strings.Repeat("x ", 1000), "yes"}, ask{"takes w " + strings.Repeat("x ", 1000) + " ", "long 0"})
}

// P1501: word.
func TestWord(t *testing.T) {
	k := begun(t, setLetters, "expr p x y | x x x", "expr e 1|x", "expr n 0 x", "expr w <a> </b> <b[ 1 ]b>", "expr v x <a>")
	all(t, k, ask{"word p", "ok 2"}, ask{"word e", "ok 0"}, ask{"word n", "none"}, ask{"word w", "ok 4"}, ask{"word v", "ok 2"},
		ask{"dtd d root a;element a=b,b,b,b,b,b,b;element b=c,c,c,c,c,c,c;element c=d,d,d,d,d,d,d;element d=e,e,e,e,e,e,e;element e=f,f,f,f,f,f,f;element f=g,g,g,g,g,g,g;element g=h,h,h,h,h,h,h;element h=empty;", "ok 59 100"}, ask{"word d", "ok 1921600"},
		ask{"dtd d root a;element a=a;", "ok 4 4"}, ask{"word d", "none"})
}

// P1501: within, same.
func TestWithinSame(t *testing.T) {
	k := begun(t, setLetters, "expr p x", "expr q x|y", "expr r x|y|x x y", "expr o y|x", "expr e 1", "expr n 0", "expr m <a[ 1 ]b>", "expr l <a[ <b[ 1 ]b>* ]b>")
	all(t, k,
		ask{"within p p", "yes"}, ask{"within p q", "yes"}, ask{"within q p", "no 1"}, ask{"within r q", "no 3"}, ask{"within q r", "yes"}, ask{"within n p", "yes"}, ask{"within e p", "no 0"}, ask{"within p e", "no 1"}, ask{"within n n", "yes"}, ask{"within e n", "no 0"}, ask{"within m l", "yes"}, ask{"within l m", "no 4"},
		ask{"same p p", "yes"}, ask{"same q o", "yes"}, ask{"same o q", "yes"}, ask{"same p q", "no 1"}, ask{"same q p", "no 1"}, ask{"same q r", "no 3"}, ask{"same r q", "no 3"}, ask{"same e p", "no 0"}, ask{"same p e", "no 0"}, ask{"same n n", "yes"}, ask{"same n m", "no 2"}, ask{"same l m", "no 4"},
		ask{"names", "ok e l m n o p q r"})
}

// P1501: feed.
func TestFeed(t *testing.T) {
	k := begun(t, setLetters, "expr p x* <a[ y ]b>", "expr e 1", "expr w (x|y|<a>|</a>)*")
	all(t, k,
		ask{"feed p 5 xx<a>y</b>", "token 0"}, ask{"feed p 5 x x<a>y</b>", "yes"}, ask{"feed p 5 x<a>y</b>", "yes"}, ask{"feed p 5 x\n\t<a>\ny </b>\n", "yes"}, ask{"feed p 5 x", "no"}, ask{"feed p 5", "no"}, ask{"feed p 5 ", "no"}, ask{"feed p 5   ", "no"}, ask{"feed e 5", "yes"}, ask{"feed e 5 ", "yes"}, ask{"feed e 0  ", "yes"}, ask{"feed e 0 x", "no"},
		ask{"feed p 5  x?", "token 2"}, ask{"feed p 5 ?", "token 0"}, ask{"feed p 5 x <a", "token 2"}, ask{"feed p 5 <a>y</b", "token 4"}, ask{"feed p 5 z", "token 0"}, ask{"feed p 5 x z", "token 2"}, ask{"feed p 5 x\r", "token 1"}, ask{"feed p 5 x\xff", "token 1"}, ask{"feed p 5 <a>y<a>?", "token 7"},
		ask{"feed p 1 <a>y</b>", "yes"}, ask{"feed p 0 <a>y</b>", "depth 0"}, ask{"feed p 0 x x <a>y</b>", "depth 4"}, ask{"feed w 2 <a><a>x<a>", "depth 7"}, ask{"feed w 3 <a><a>x<a>", "yes"}, ask{"feed w 2 <a><a>x<a>?", "depth 7"}, ask{"feed w 2 <a><a>?<a>", "token 6"},
		ask{"feed w 9 " + strings.Repeat("<a>", 9), "yes"}, ask{"feed w 9 " + strings.Repeat("<a>", 10), "depth 27"}, ask{"feed w 10 " + strings.Repeat("<a>", 10), "yes"}, ask{"feed w 99 " + strings.Repeat("<a>", 100), "depth 297"}, ask{"feed w 100 " + strings.Repeat("<a>", 100), "yes"},
		ask{"feed w 998 " + strings.Repeat("<a>", 999), "depth 2994"}, ask{"feed w 999 " + strings.Repeat("<a>", 999), "yes"}, ask{"feed w 999 " + strings.Repeat("<a>", 1000), "depth 2997"}, ask{"feed w 999 " + strings.Repeat("</a>x", 1<<16), "yes"},
		ask{"names", "ok e p w"})
}
