package class

import (
	"math"
	"strconv"
	"strings"
	"testing"
)

// The chapter's words, as it writes them.
const (
	chapterLetters = "41 to 5A; 5F; 61 to 7A; AA; B5; BA; C0 to D6; D8 to F6; F8 to 2C1; 370 to 373; 376 to 377; 37B to 37D; 386; 388 to 38A; 38C; 38E to 3A1; 3A3 to 3F5; 400 to 481; 48A to 52F; 531 to 556; 561 to 587; 5D0 to 5EA; 620 to 64A; 904 to 939; E01 to E30; 10A0 to 10C5; 1E00 to 1F15; 3041 to 3096; 30A1 to 30FA; 4E00 to 9FFF; AC00 to D7A3; 10400 to 1044F; 20000 to 2A6DF"
	chapterDigits  = "30 to 39; 660 to 669; 966 to 96F; E50 to E59; FF10 to FF19"
	chapterBlanks  = "9; A; D; 20"
	chapterWords   = "break case chan const continue default defer else fallthrough for func go goto if import interface map package range return select struct switch type var"
)

// beyond are numbers that are no character at all, or far outside.
func beyond() []rune {
	return []rune{math.MinInt32, math.MinInt32 + 0x41, -0x10000, -0x61, -0x41, -1, 0x110041, 0x200030, 0x1000041, math.MaxInt32}
}

// chapterSet makes a set of the ranges of one of the texts above.
func chapterSet(t *testing.T, text string) map[rune]bool {
	t.Helper()
	set := map[rune]bool{}
	for part := range strings.SplitSeq(text, "; ") {
		from, to, many := strings.Cut(part, " to ")
		if !many {
			to = from
		}
		a, err1 := strconv.ParseInt(from, 16, 32)
		b, err2 := strconv.ParseInt(to, 16, 32)
		if err1 != nil || err2 != nil {
			t.Fatal(part)
		}
		for r := rune(a); r <= rune(b); r++ {
			set[r] = true
		}
	}
	return set
}

func TestSortsOfEveryNumber(t *testing.T) {
	for _, c := range []struct {
		name, text string
		call       func(rune) bool
	}{{"Letter", chapterLetters, Letter}, {"Digit", chapterDigits, Digit}, {"Blank", chapterBlanks, Blank}} {
		set := chapterSet(t, c.text)
		for r := rune(-0x300); r <= 0x110300; r++ {
			if got := c.call(r); got != set[r] {
				t.Fatalf("P2.1: %s(%x) = %v", c.name, r, got)
			}
		}
		for _, r := range beyond() {
			if c.call(r) {
				t.Errorf("P2.1: %s(%x)", c.name, r)
			}
		}
	}
}

func TestNoCharacterIsOfTwoSorts(t *testing.T) {
	for r := rune(0); r <= 0x10FFFF; r++ {
		n := 0
		for _, is := range []bool{Letter(r), Digit(r), Blank(r)} {
			if is {
				n++
			}
		}
		if n > 1 {
			t.Fatalf("P2.3: %x is of %d sorts", r, n)
		}
	}
}

func TestBase(t *testing.T) {
	want := func(r rune) int {
		if r < 0 || r > 0x7F {
			return -1
		}
		return strings.IndexByte("0123456789abcdef", strings.ToLower(string(r))[0])
	}
	for r := rune(-0x300); r <= 0x110300; r++ {
		if got := Base(r); got != want(r) {
			t.Fatalf("P2.1: Base(%x) = %d, want %d", r, got, want(r))
		}
	}
	for _, r := range beyond() {
		if got := Base(r); got != -1 {
			t.Errorf("P2.1: Base(%x) = %d", r, got)
		}
	}
}

func TestWord(t *testing.T) {
	words := strings.Fields(chapterWords)
	if len(words) != 25 {
		t.Fatal(len(words))
	}
	is := map[string]bool{}
	for _, w := range words {
		is[w] = true
	}
	for _, w := range words {
		if !Word(w) || Name(w) {
			t.Errorf("P2.2: %q: Word %v, Name %v", w, Word(w), Name(w))
		}
		near := []string{strings.ToUpper(w), strings.ToUpper(w[:1]) + w[1:], w + "s", w + "_", w + "1", "_" + w, w + w, w[:len(w)-1], w[1:]}
		for _, s := range near {
			if Word(s) != is[s] || Name(s) == is[s] {
				t.Errorf("P2.2: %q: Word %v, Name %v", s, Word(s), Name(s))
			}
		}
		for _, s := range []string{w + " ", " " + w, w + "\n", w + "\x00", w + "\xff", w + "-"} {
			if Word(s) || Name(s) {
				t.Errorf("P2.2: %q: Word %v, Name %v", s, Word(s), Name(s))
			}
		}
	}
	for _, s := range []string{"", "nil", "true", "int", "any", "make", "while", "find", "rule", chapterWords} {
		if Word(s) {
			t.Errorf("P2.2: Word(%q)", s)
		}
	}
}

func TestName(t *testing.T) {
	long := strings.Repeat("a\u03b1_7\u0669\U00010400", 20000)
	for _, s := range []string{"_", "__", "a", "Z", "x1", "x_1", "\u03b1\u03b2", "\u00e9", "a\u0669", "_0", "\U0002a6df", "\u4e00\uff19", "nil", "int", "goTo", "ranges", long} {
		if !Name(s) {
			t.Errorf("P2.2: %.20q should be a name", s)
		}
	}
	for _, s := range []string{"", " ", "1", "1x", "\u0669", "\u0669a", "\uff10_", "a-b", "a b", "a ", " a", "a\n", "a.b", "a\u00d7", "\u00d7a", "\u2c2a", "a\x00", "\x00", "range", "a\"", "'a'", "\u02c2", long + "-", "-" + long, long + " " + long} {
		if Name(s) {
			t.Errorf("P2.2: %.20q should be no name", s)
		}
	}
}

func TestNameOfTextsThatAreBad(t *testing.T) {
	for _, bad := range []string{"\xff", "\x80", "\xc3", "\xc0\x80", "\xc1\x81", "\xe0\x81\x81", "\xed\xa0\x80", "\xf4\x90\x80\x80", "\xf0\x80\x81\x81", "\xe4\xb8", "\xef\xbf\xbd"} {
		for _, s := range []string{bad, "a" + bad, bad + "a", "a" + bad + "b", "a" + strings.Repeat("b", 300) + bad} {
			if Name(s) || Word(s) {
				t.Errorf("P2.2: %.20q: Name %v, Word %v", s, Name(s), Word(s))
			}
		}
	}
}

// One character alone is a name just if it is a letter; behind a letter, just
// if it is a letter or a digit.
func TestNameCharacterByCharacter(t *testing.T) {
	letters, digits := chapterSet(t, chapterLetters), chapterSet(t, chapterDigits)
	for r := rune(0); r <= 0x10FFFF; r++ {
		if 0xD800 <= r && r <= 0xDFFF {
			continue
		}
		s := string(r)
		if Name(s) != letters[r] {
			t.Fatalf("P2.2: Name(%q) = %v", s, Name(s))
		}
		if rest := letters[r] || digits[r]; Name("q"+s) != rest || Name("q"+s+"q") != rest {
			t.Fatalf("P2.2: Name of q and %x = %v", r, Name("q"+s))
		}
	}
}

// A name with a letter or a digit more is a name, or a word of the language.
func TestNamesGrow(t *testing.T) {
	names := []string{"_", "a", "\u03b1", "x1"}
	for _, w := range strings.Fields(chapterWords) {
		for i := 1; i < len(w); i++ {
			names = append(names, w[:i])
		}
	}
	for _, n := range names {
		if Word(n) {
			continue
		}
		for r := rune('0'); r <= 'z'; r++ {
			more := n + string(r)
			if grows := Letter(r) || Digit(r); grows != (Name(more) || Word(more)) {
				t.Errorf("P2.3: %q: Name %v, Word %v", more, Name(more), Word(more))
			}
			if Name(more) && Word(more) {
				t.Errorf("P2.3: %q is a name and a word", more)
			}
		}
	}
}

func TestChapterExamples(t *testing.T) {
	for r, want := range map[rune]bool{0x41: true, 0x3B1: true, 0x5F: true, 0xD7: false, 0x30: false} {
		if Letter(r) != want {
			t.Errorf("P2.1: Letter(%x)", r)
		}
	}
	if !Digit(0x669) || Base('f') != 15 || Base('g') != -1 || !Word("range") || Name("range") {
		t.Error("P2.1, P2.2: the chapter's examples")
	}
}
