package term_test

import (
	"slices"
	"strconv"
	"strings"
	"testing"

	"emend/api"
	"emend/term"
)

// table are the chapter's kinds: the number, how many kids (any; more: one or
// more), the words between bars; a - stands for none.
const table = `
0 0 -; 1 3 -; 2 any -; 3 1 import const var type; 4 any import const var type
5 2 - .; 6 3 -; 7 3 - =; 8 5 -; 9 2 -; 10 more -; 11 any -; 12 any -; 13 any -
14 any -; 15 2 - ...; 16 more -; 17 2 -; 18 more -; 19 1 -; 20 any -; 21 3 -
22 2 -; 23 any -; 24 2 -; 25 any -; 26 0 name; 27 0 lit; 28 1 -; 29 2 -; 30 2 -
31 4 -; 32 2 -; 33 1 -; 34 2 - ...; 35 1 -; 36 1 + minus ! ^ & <-
37 2 || && == != < <= > >= + minus | ^ * / % << >> & &^
38 2 -; 39 2 -; 40 2 -; 41 2 -; 42 1 -; 43 1 -; 44 2 -; 45 1 chan chan<- <-chan
46 1 -; 47 1 -; 48 1 -; 49 0 -; 50 1 -; 51 2 -; 52 1 ++ --
53 2 = := += -= *= /= %= &= |= ^= <<= >>= &^=; 54 1 -; 55 1 -; 56 1 -
57 1 break continue goto fallthrough; 58 1 -; 59 4 -; 60 3 -; 61 4 -; 62 2 -
63 1 -; 64 2 -; 65 4 -; 66 3 - = :=; 67 2 -; 68 1 -
`

var (
	someNames = []string{
		"a", "_", "x1", "\u03b1\u03b2", "importt", "nil", "go_", "Chan", "a\u0669",
		"Import", "VAR", "minus", "none", "name", "lit", "any",
	}
	someLits = []string{
		"0", "12", "0x_Ff", "017", "1.", ".5", "1e9", "0x1p-2", "08.5", "08i", "1.5i",
		"'a'", "'\\n'", "'\\''", "\"\"", "\"a b\"", "\"\\u20ac\"", "\"'\"", "``", "`a\nb`", "`\\`", "'\u20ac'",
	}
	noWords = []string{
		" ", "a b", "1a", "a-b", "\xff", "a\xff", "\u0669", "if", "func", "map", "range", "08", "1__0", "0x", "1_", "+1", "1 ", " 1",
		"'ab'", "''", "'", "\"", "\"a", "a\"", "\"a\nb\"", "`", "`a", "'a", "'a'b", "'a' ", " 'a'", "\"\\uD800\"", "\"a\"\"b\"",
		",", ";", ":", "..", "....", "(", "===", "&^ ", " +", "+ ", "<->", "chan <-", "chan<-chan", "- ", "~", "|=|", "=:", "<<<", ">>>", "?", "@",
		"break ", "import const", "\x00", "\n", "+\n",
	}
)

// row is what the table says of a kind.
type row struct {
	kids  string
	words []string
}

// rows are the table's.
func rows(t *testing.T) map[int]row {
	t.Helper()
	all := map[int]row{}
	for _, line := range strings.Split(strings.ReplaceAll(strings.TrimSpace(table), "\n", ";"), ";") {
		l := strings.Fields(line)
		kind, err := strconv.Atoi(l[0])
		if err != nil {
			t.Fatal(err)
		}
		r := row{kids: l[1]}
		for _, word := range l[2:] {
			switch word {
			case "-":
				r.words = append(r.words, "")
			case "minus":
				r.words = append(r.words, "-")
			case "name":
				r.words = append(r.words, someNames...)
			case "lit":
				r.words = append(r.words, someLits...)
			default:
				r.words = append(r.words, word)
			}
		}
		all[kind] = r
	}
	if len(all) != 69 {
		t.Fatalf("%d rows", len(all))
	}
	return all
}

// may tells whether a row lets a part have so many kids.
func (r row) may(kids int) bool {
	switch r.kids {
	case "any":
		return true
	case "more":
		return kids > 0
	}
	return strconv.Itoa(kids) == r.kids
}

func TestCheckOfAllKinds(t *testing.T) {
	all := rows(t)
	words := slices.Concat(someNames, someLits, noWords)
	for _, r := range all {
		words = append(words, r.words...)
	}
	slices.Sort(words)
	words = slices.Compact(words)
	for kind := range 256 {
		r, known := all[kind]
		for kids := range 8 {
			for _, word := range words {
				want := api.ErrTree
				if known && r.may(kids) && slices.Contains(r.words, word) {
					want = api.OK
				}
				l := []api.Part{{Kind: uint8(kind), Kids: kids, Word: word}}
				for range kids {
					l = append(l, api.Part{Kind: api.KEmpty})
				}
				if got := term.Check(l); got != want {
					t.Fatalf("P11.1: Check of kind %d, %d kids, word %q = %d", kind, kids, word, got)
				}
			}
		}
	}
}

func TestCheckAsksEachPart(t *testing.T) {
	l, err := term.Read(`(13 (50 (37 "+" (26 "a") (28 (27 "1")))) (59 (0) (26 "c") (13 (49)) (0)) (57 "goto" (26 "l")))`)
	if err != api.OK || term.Check(l) != api.OK {
		t.Fatalf("P11.1: %d %d", err, term.Check(l))
	}
	for i := range l {
		for _, p := range []api.Part{{Kind: 69, Kids: l[i].Kids}, {Kind: 255, Kids: l[i].Kids}, {Kind: l[i].Kind, Kids: l[i].Kids, Word: "="}, {Kind: l[i].Kind, Kids: l[i].Kids, Word: " "}} {
			wrong := slices.Clone(l)
			wrong[i] = p
			if got := term.Check(wrong); got != api.ErrTree || !term.Well(wrong) {
				t.Errorf("P11.1: with %v as part %d: %d", p, i, got)
			}
		}
	}
	many := []api.Part{{Kind: api.KDecls, Kids: 1000}}
	for range 1000 {
		many = append(many, api.Part{Kind: api.KNone})
	}
	if got := term.Check(many); got != api.OK {
		t.Errorf("P11.1: any number of kids: %d", got)
	}
	if term.Check(nil) != api.ErrTree || term.Check([]api.Part{}) != api.ErrTree || term.Well(nil) {
		t.Error("P11.1: no part at all")
	}
}
