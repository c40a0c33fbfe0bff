package term_test

import (
	"maps"
	"slices"
	"strconv"
	"strings"
	"testing"

	"emend/api"
	"emend/quoted"
	"emend/term"
)

// text is a tree as a text, by the chapter's words.
func (g *grown) text() string {
	s := "(" + strconv.Itoa(int(g.kind))
	if g.word != "" {
		s += " " + quoted.Quote(g.word)
	}
	for _, kid := range g.kids {
		s += " " + kid.text()
	}
	return s + ")"
}

// checkText holds Show and Read to one another.
func checkText(t *testing.T, l []api.Part) {
	t.Helper()
	g, end := grow(l, 0)
	got, err := term.Show(l)
	if g == nil || end != len(l) {
		if got != "" || err != api.ErrTree {
			t.Fatalf("P11.3: Show(%v) = %q %d", l, got, err)
		}
		return
	}
	if want := g.text(); got != want || err != api.OK {
		t.Fatalf("P11.3: Show(%v) = %q %d, not %q", l, got, err, want)
	}
	if m, err := term.Read(got); !slices.Equal(m, l) || err != api.OK {
		t.Fatalf("P11.5: Read(%q) = %v %d, not %v", got, m, err, l)
	}
}

func TestShowOfAllSmallLists(t *testing.T) {
	lists(5, -1, 4, func(l []api.Part) { checkText(t, l) })
	lists(4, 0, 3, func(l []api.Part) {
		for i := range l {
			for _, word := range []string{"", " ", "\"", "\\", "\n", "\x00", "\xff", "(", ")", "(1)", "\u00e9", "`", "'"} {
				m := slices.Clone(l)
				m[i].Word = word
				checkText(t, m)
			}
		}
	})
}

func TestAllKindsAndBytes(t *testing.T) {
	for n := range 256 {
		checkText(t, []api.Part{{Kind: uint8(n)}})
		checkText(t, []api.Part{{Kind: uint8(n), Kids: 1, Word: string([]byte{byte(n)})}, {Kind: uint8(255 - n), Word: "a" + string([]byte{byte(n), '"'})}})
	}
	for n := -1; n <= 1300; n++ {
		digits := strconv.Itoa(n)
		for _, s := range []string{digits, "0" + digits, "+" + digits, digits + "_", "00" + digits, " " + digits, "0x" + digits} {
			want, wantErr := []api.Part{{Kind: uint8(n)}}, api.OK
			if s != digits || n < 0 || n > 255 {
				want, wantErr = nil, api.ErrForm
			}
			if l, err := term.Read("(" + s + ")"); !slices.Equal(l, want) || err != wantErr {
				t.Fatalf("P11.3: Read of kind %s: %v %d", s, l, err)
			}
		}
	}
}

// texts hands all texts of up to n letters of an alphabet to do.
func texts(alphabet []string, n int, do func(s string)) {
	var grow func(s string, left int)
	grow = func(s string, left int) {
		do(s)
		if left == 0 {
			return
		}
		for _, x := range alphabet {
			grow(s+x, left-1)
		}
	}
	grow("", n)
}

// said are the lists, by their texts, whose texts have up to n bytes, of these
// kinds and words.
func said(kinds []uint8, words []string, n int) map[string][]api.Part {
	all := map[string][]api.Part{}
	var put func(l []api.Part, open, size int)
	put = func(l []api.Part, open, size int) {
		if open == 0 {
			g, _ := grow(l, 0)
			all[g.text()] = l
			return
		}
		for _, kind := range kinds {
			for _, word := range words {
				p := api.Part{Kind: kind, Word: word}
				more := len((&grown{kind: kind, word: word}).text())
				for ; size+more+4*(open-1+p.Kids) <= n; p.Kids++ { // a kid has 4 bytes or more, with its blank
					put(append(slices.Clip(l), p), open-1+p.Kids, size+more+1)
				}
			}
		}
	}
	put(nil, 1, 0)
	return all
}

func TestReadOfAllShortTexts(t *testing.T) {
	words := []string{"", "1", "2", "\\", "\"", " ", "(", ")", "11", "12", "21", "22", "1)", "((", " 1"}
	all := said([]uint8{1, 2, 11, 12, 21, 22, 111, 112, 121, 122, 211, 212, 221, 222}, words, 9)
	if len(all) < 200 {
		t.Fatalf("%d texts", len(all))
	}
	check := func(s string) {
		want, ok := all[s]
		l, err := term.Read(s)
		if ok && (err != api.OK || !slices.Equal(l, want)) || !ok && (err != api.ErrForm || len(l) != 0) {
			t.Fatalf("P11.3: Read(%q) = %v %d, not %v", s, l, err, want)
		}
	}
	for s := range maps.Keys(all) {
		check(s)
	}
	texts(strings.Split(`()1" \`, ""), 7, check)
	texts(strings.Split(`()1 `, ""), 9, func(s string) {
		if len(s) > 7 {
			check(s)
		}
	})
	texts([]string{"(", ")", " ", "(1", "(2", `"1"`, `"\"`, `"\\"`}, 5, func(s string) {
		if len(s) <= 9 {
			check(s)
		}
	})
}

func TestReadWrongForms(t *testing.T) {
	for _, s := range []string{
		"", " ", "(", ")", "()", "( 13)", " (13)", "(13) ", "(13)\n", "\n(13)", "(13)(13)", "(13) (13)", "(13", "13", "13)",
		"(13(49))", "(13  (49))", "(13 (49) )", "(13 (49)", "(13 (49)))", "(13 (49)(49))", "(13\t(49))", "(13 (49),(49))",
		"(-1)", "(+1)", "(1.0)", "(1_0)", "(0x1)", "(00)", "(256)", "(999)", "(18446744073709551616)", "(a)", "(\u0661)",
		`(26 "")`, `(26  "a")`, `(26"a")`, `(26 "a" )`, `(26 "a""b")`, `(26 "a" "b")`, `(26 a)`, `(26 'a')`, "(26 `a`)", `(26 "a)`, `(26 ")`, `(26 "a"`,
		`(26 "\x61")`, `(26 "\141")`, `(26 "\u0061")`, `(26 "\xFF")`, `(26 "\t")`, `(26 "\x0a")`, `(26 "\a")`, `(26 "\'")`, "(26 \"\u00e9\")", "(26 \"\t\")", "(26 \"\xff\")", "(26 \"\n\")", `(26 "\q")`,
		`("a" 26)`, `("a")`, `(13 (49) "a")`, `(13 "a" (49)`, `(13 "a"(49))`,
		"[13]", "(13]", "(13 [49])", "(13, (49))",
	} {
		if l, err := term.Read(s); len(l) != 0 || err != api.ErrForm {
			t.Errorf("P11.3: Read(%q) = %v %d", s, l, err)
		}
	}
	for s, want := range map[string][]api.Part{
		"(0)":                         {{}},
		"(255)":                       {{Kind: 255}},
		`(26 "\x09\n\xff\"\\")`:       {{Kind: 26, Word: "\t\n\xff\"\\"}},
		`(13 "a" (49 "b") (49))`:      {{Kind: 13, Kids: 2, Word: "a"}, {Kind: 49, Word: "b"}, {Kind: 49}},
		`(1 (2 (3)) (4 (5 (6)) (7)))`: {{Kind: 1, Kids: 2}, {Kind: 2, Kids: 1}, {Kind: 3}, {Kind: 4, Kids: 2}, {Kind: 5, Kids: 1}, {Kind: 6}, {Kind: 7}},
		`(1 ")" (2 "(3)"))`:           {{Kind: 1, Kids: 1, Word: ")"}, {Kind: 2, Word: "(3)"}},
	} {
		l, err := term.Read(s)
		if !slices.Equal(l, want) || err != api.OK {
			t.Errorf("P11.3: Read(%q) = %v %d", s, l, err)
		}
		if again, err := term.Show(l); again != s || err != api.OK {
			t.Errorf("P11.5: Show of Read(%q) = %q %d", s, again, err)
		}
	}
}

func TestTextsAtTheLimit(t *testing.T) {
	const most = 1048576
	word := func(n int) []api.Part { return []api.Part{{Kind: 200, Word: strings.Repeat("x", n)}} }
	hidden := func(n int) []api.Part { return []api.Part{{Kind: 200, Word: strings.Repeat("\xff", n)}} }
	many := func(n int, kind uint8) []api.Part { // five bytes a kid
		l := make([]api.Part, n+1)
		l[0] = api.Part{Kind: kind, Kids: n}
		for i := range n {
			l[i+1].Kind = 49
		}
		return l
	}
	for _, x := range []struct {
		l    []api.Part
		size int
	}{
		{word(most - 8), most}, {word(most - 9), most - 1}, {word(most - 7), 0}, {word(most), 0}, {word(2 * most), 0},
		{hidden((most - 8) / 4), most}, {hidden((most-8)/4 + 1), 0}, {hidden(most), 0},
		{many(209714, 13), 4 + 5*209714}, {many(209714, 113), 5 + 5*209714}, {many(209715, 13), 0}, {many(400000, 13), 0},
		{append([]api.Part{{Kids: 1}}, word(most-12)...), most}, {append([]api.Part{{Kids: 1}}, word(most-11)...), 0},
		{append([]api.Part{{Kids: 2}, {}}, word(most-16)...), most}, {append([]api.Part{{Kids: 2}, {}}, word(most-15)...), 0},
	} {
		s, err := term.Show(x.l)
		if x.size == 0 {
			if s != "" || err != api.ErrLong {
				t.Errorf("P11.3: %d bytes, %d", len(s), err)
			}
			continue
		}
		if len(s) != x.size || err != api.OK {
			t.Errorf("P11.3: %d bytes, not %d; %d", len(s), x.size, err)
		}
		if l, err := term.Read(s); !slices.Equal(l, x.l) || err != api.OK {
			t.Errorf("P11.5: a text of %d bytes: %d", len(s), err)
		}
	}
	for s, want := range map[string]api.Errno{
		strings.Repeat("(", most):                      api.ErrForm,
		strings.Repeat("(", most+1):                    api.ErrLong,
		strings.Repeat("x", most+1):                    api.ErrLong,
		"(13)" + strings.Repeat(" ", most-4):           api.ErrForm,
		"(13)" + strings.Repeat(" ", most-3):           api.ErrLong,
		"(13" + strings.Repeat("0", most-3):            api.ErrForm,
		"(13 \"" + strings.Repeat("x", most-6) + "\")": api.ErrLong,
		strings.Repeat("(1 ", 300000):                  api.ErrForm,
	} {
		if l, err := term.Read(s); len(l) != 0 || err != want {
			t.Errorf("P11.3: Read of %.10q.. of %d bytes: %d parts, %d, not %d", s, len(s), len(l), err, want)
		}
	}
	deep := strings.Repeat("(1 ", 200000) + "(1" + strings.Repeat(")", 200001)
	l, err := term.Read(deep)
	if len(l) != 200001 || err != api.OK {
		t.Fatalf("P11.3: %d parts, %d", len(l), err)
	}
	if s, err := term.Show(l); s != deep || err != api.OK {
		t.Errorf("P11.5: %d bytes, %d", len(s), err)
	}
}
