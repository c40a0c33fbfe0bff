package semi_test

import (
	"slices"
	"strconv"
	"strings"
	"testing"

	"emend/api"
	"emend/scan"
	"emend/semi"
)

const (
	words = "break case chan const continue default defer else fallthrough for func go goto if import interface map package range return select struct switch type var"
	signs = "+   -   *   /   %   &   |   ^   <<   >>   &^   +=   -=   *=   /=   %=   &=   |=   ^=   <<=   >>=   &^=   &&   ||   <-   ++   --   ==   <   >   =   !   ~   !=   <=   >=   :=   ...   (   )   [   ]   {   }   ,   .   :"
)

// names are those of the kinds of tokens, by their numbers.
var names = [...]string{"none", "name", "word", "int", "float", "imag", "rune", "string", "op", "semi", "blank", "line", "block"}

// texts hands all texts of up to n letters of an alphabet to do.
func texts(alphabet []string, n int, do func(s string)) {
	var grow func(s string, left int)
	grow = func(s string, left int) {
		do(s)
		if left == 0 {
			return
		}
		for _, x := range alphabet {
			grow(s+x, left-1)
		}
	}
	grow("", n)
}

// mayEnd is what the chapter's words tell of a kind and a text.
func mayEnd(kind uint8, text string) bool {
	ends := map[string][]string{
		"word": {"break", "continue", "fallthrough", "return"},
		"op":   {"++", "--", ")", "]", "}"},
	}
	if int(kind) >= len(names) {
		return false
	}
	name := names[kind]
	return slices.Contains(ends[name], text) || slices.Contains([]string{"name", "int", "float", "imag", "rune", "string"}, name)
}

func TestEnds(t *testing.T) {
	l := append(strings.Fields(words), strings.Fields(signs)...)
	l = append(l, "", ";", "a", "1", "1.5", "2i", "'a'", `"a"`, "`a`", " ", "\n", "// a", "/* a */", "+++", ") ", " )", "))", "()", "Return", "returns", "return ", "\xff", "\x00")
	for kind := range 256 {
		for _, s := range l {
			if got, want := semi.Ends(uint8(kind), s), mayEnd(uint8(kind), s); got != want {
				t.Errorf("P8.1: Ends(%d, %q) = %v", kind, s, got)
			}
		}
	}
}

// told is what the chapter's words tell of a text: its lexemes one by one, and
// what stands behind each up to the next that is left.
func told(s string) ([]api.Token, api.Fault) {
	lexemes, fault := scan.All(s)
	if fault.Err != api.OK {
		return nil, fault
	}
	dropped := func(x api.Token) bool { return slices.Contains([]string{"blank", "line", "block"}, names[x.Kind]) }
	var l []api.Token
	for i, x := range lexemes {
		if dropped(x) {
			continue
		}
		l = append(l, x)
		ended, next := false, false
		for _, y := range lexemes[i+1:] {
			if next = !dropped(y); next {
				break
			}
			ended = ended || strings.Count(s[y.From:y.To], "\n") > 0
		}
		if mayEnd(x.Kind, s[x.From:x.To]) && (ended || !next) {
			l = append(l, api.Token{Kind: api.TSemi, From: x.To, To: x.To})
		}
	}
	return l, api.Fault{}
}

func check(t *testing.T, s string) {
	t.Helper()
	l, fault := semi.Of(s)
	want, wantFault := told(s)
	if fault != wantFault || !slices.Equal(l, want) {
		t.Fatalf("P8.1: Of(%.200q) = %v %v, not %v %v", s, l, fault, want, wantFault)
	}
}

// tokens are a text's tokens, written down: a TSemi without bytes as $ and its
// place, each other one as its text.
func tokens(t *testing.T, s string) string {
	t.Helper()
	l, fault := semi.Of(s)
	if fault != (api.Fault{}) {
		t.Fatalf("P8.1: Of(%q): %v", s, fault)
	}
	var parts []string
	for _, x := range l {
		switch {
		case x.From != x.To:
			parts = append(parts, s[x.From:x.To])
		case x.Kind == api.TSemi:
			parts = append(parts, "$"+strconv.Itoa(x.From))
		default:
			t.Fatalf("P8.1: Of(%q): %v", s, l)
		}
	}
	return strings.Join(parts, " ")
}

func TestOfExamples(t *testing.T) {
	for s, want := range map[string]string{
		"":                         "",
		" \n\t":                    "",
		"\ufeff":                   "",
		"// a":                     "",
		"/* a\n*/\n":               "",
		"a\nb":                     "a $1 b $3",
		"a +\nb;":                  "a + b ;",
		"return /* \n */ x":        "return $6 x $16",
		"}":                        "} $1",
		"if x":                     "if x $4",
		"if":                       "if",
		"if\nx\n":                  "if x $4",
		"a":                        "a $1",
		"a   ":                     "a $1",
		"a /* b */":                "a $1",
		"a // b":                   "a $1",
		"a // b\n":                 "a $1",
		"a /* b */ c":              "a c $11",
		"a/**/b":                   "a b $6",
		"a /* \n */ // d\n b":      "a $1 b $17",
		"a /* b */\nc":             "a $1 c $11",
		"a // b\nc":                "a $1 c $8",
		"a\n// b\nc":               "a $1 c $8",
		"a /* b */ /* \n */ c":     "a $1 c $19",
		"a\rb":                     "a b $3",
		"a\r\nb":                   "a $1 b $4",
		"a\n\n\nb":                 "a $1 b $5",
		"a;\nb":                    "a ; b $4",
		"a\n;b":                    "a $1 ; b $4",
		"a;;":                      "a ; ;",
		"a;":                       "a ;",
		";":                        ";",
		"`\n`b":                    "`\n` b $4",
		"`a\nb`\nc":                "`a\nb` $5 c $7",
		"1\n1.\n1i\n'a'\n\"\"\n``": "1 $1 1. $4 1i $7 'a' $11 \"\" $14 `` $17",
		"break\ncontinue\nfallthrough\nreturn\ngoto\ngo\n": "break $5 continue $14 fallthrough $26 return $33 goto go",
		"a++\nb--\nf()\nc[1]\n{}":                          "a ++ $3 b -- $7 f ( ) $11 c [ 1 ] $16 { } $19",
		"(\n[\n{\n,\n.\n:\n...\n=\n~\n":                    "( [ { , . : ... = ~",
		"a+\n":                                             "a +",
		"f(a,\nb,\n)":                                      "f ( a , b , ) $9",
		"f(a\n)":                                           "f ( a $3 ) $5",
		"{a}":                                              "{ a } $3",
		"\ufeffa":                                          "a $4",
		"\u00e9\n\u03b1":                                   "\u00e9 $2 \u03b1 $5",
	} {
		if got := tokens(t, s); got != want {
			t.Errorf("P8.1: Of(%q): %s, not %s", s, got, want)
		}
		check(t, s)
	}
}

func TestOfFaults(t *testing.T) {
	for s, want := range map[string]api.Fault{
		"a\n#":                             {Err: api.ErrToken, At: 2},
		"a /*\n":                           {Err: api.ErrToken, At: 2},
		"\n1x":                             {Err: api.ErrToken, At: 1},
		"#":                                {Err: api.ErrToken, At: 0},
		"a\n\x00":                          {Err: api.ErrChar, At: 2},
		"# \xff":                           {Err: api.ErrChar, At: 2},
		"\xff":                             {Err: api.ErrChar, At: 0},
		strings.Repeat("a", 65537):         {Err: api.ErrLong},
		strings.Repeat("\n", 65537):        {Err: api.ErrLong},
		strings.Repeat("a\n", 32767) + "'": {Err: api.ErrToken, At: 65534},
	} {
		if l, fault := semi.Of(s); fault != want || len(l) != 0 {
			t.Errorf("P8.1: Of(%.20q) = %d tokens, %v, not %v", s, len(l), fault, want)
		}
	}
}

func TestOfAllShortTexts(t *testing.T) {
	for _, x := range []struct {
		alphabet []string
		n        int
	}{
		{[]string{"a", "+", "\n", " ", "/*", "*/", "//", ";"}, 6},
		{[]string{"a", "/**/", "/*\n*/", "//", "\n", " ", ";", "("}, 5},
		{[]string{"return", "if", "break", "\n", " ", "// b\n", "/*\n*/", "x"}, 5},
		{append(append(strings.Fields(signs), strings.Fields(words)...), " ", "\n", ";", "a", "1", "'a'", "#"), 2},
		{[]string{"++", "--", ")", "]", "}", "\n", "/*\n*/", "//\n", ",", ";"}, 4},
		{[]string{"1", ".5", "2i", "'a'", `"b"`, "`\n`", "\n", "\r", "\t", ";"}, 4},
		{[]string{"\ufeff", "a", "\n", "\xff", "\x00", "#"}, 4},
	} {
		texts(x.alphabet, x.n, func(s string) { check(t, s) })
	}
}

func TestEachTokenAtEachLineEnd(t *testing.T) {
	l := append(strings.Fields(signs), strings.Fields(words)...)
	l = append(l, ";", "a", "\u00e9", "1", ".5", "2i", "'a'", `"b"`, "`b`", "`\n`")
	for _, x := range l {
		for _, behind := range []string{"", " ", "\n", "// c", "// c\n", "/* c */", "/* c\n */", "\r", " // c\nx", " /* c */ x", " /* \n */ x", "\nx", "\n;", " ;", "\r x", " /* */ /* \n */ // c"} {
			s := x + " " + behind
			lines := strings.Contains(behind, "\n") || !strings.ContainsAny(behind[max(0, len(behind)-1):], "x;")
			kind := uint8(api.TName)
			if one, err := scan.One(s, 0); err == api.OK {
				kind = one.Kind
			}
			got, fault := semi.Of(s)
			put := len(got) > 1 && got[1] == api.Token{Kind: api.TSemi, From: len(x), To: len(x)}
			if want := lines && mayEnd(kind, x); put != want || fault != (api.Fault{}) {
				t.Errorf("P8.1: Of(%q) = %v %v", s, got, fault)
			}
		}
	}
}

func TestLongTexts(t *testing.T) {
	const most = 65536
	for _, x := range []string{"a\n", "a", ")", ")\n", "\n", " ", ";", "/**/", "//\n", "a/*\n*/", "+", "1 ", "`\n`\n"} {
		check(t, strings.Repeat(x, most/len(x)))
		check(t, strings.Repeat(x, most/len(x)+1))
	}
	if l, fault := semi.Of(strings.Repeat("a\n", most/2)); len(l) != most || fault != (api.Fault{}) {
		t.Errorf("P8.1: %d tokens, %v", len(l), fault)
	}
	if l, fault := semi.Of(strings.Repeat(")", most)); len(l) != most+1 || fault != (api.Fault{}) {
		t.Errorf("P8.1: %d tokens, %v", len(l), fault)
	}
}

// shapes are the kinds and texts of a text's tokens, that of a TSemi being ;.
func shapes(t *testing.T, s string) []string {
	t.Helper()
	l, fault := semi.Of(s)
	if fault != (api.Fault{}) {
		t.Fatalf("P8.2: Of(%q): %v", s, fault)
	}
	var got []string
	for _, x := range l {
		text := s[x.From:x.To]
		if x.Kind == api.TSemi {
			text = ";"
		}
		got = append(got, names[x.Kind]+" "+text)
	}
	return got
}

// checkFollows asks what the chapter says to follow for a text that has tokens.
func checkFollows(t *testing.T, s string) {
	t.Helper()
	lexemes, fault := scan.All(s)
	if fault != (api.Fault{}) {
		return
	}
	same := shapes(t, s)
	for _, x := range lexemes {
		if x.Kind != api.TLine && x.Kind != api.TBlock {
			continue
		}
		put := " "
		if x.Kind == api.TLine || strings.Contains(s[x.From:x.To], "\n") {
			put = "\n"
		}
		other := s[:x.From] + put + s[x.To:]
		if got := shapes(t, other); !slices.Equal(got, same) {
			t.Fatalf("P8.2: %q: %q; %q: %q", s, same, other, got)
		}
	}
	var parts []string
	for _, x := range same {
		_, text, _ := strings.Cut(x, " ")
		parts = append(parts, text)
	}
	if apart := strings.Join(parts, " "); !slices.Equal(shapes(t, apart), same) {
		t.Fatalf("P8.2: %q: %q; %q: %q", s, same, apart, shapes(t, apart))
	}
}

func TestWhatFollows(t *testing.T) {
	for _, x := range []struct {
		alphabet []string
		n        int
	}{
		{[]string{"a", "+", "\n", " ", "/*", "*/", "//", ";"}, 5},
		{[]string{"return", "/**/", "/*\n*/", "// b", "\n", "}", ";", "go"}, 5},
		{[]string{"1", "`\n`", "'a'", "++", "-", "\n", "/*\n*/", "//"}, 4},
	} {
		texts(x.alphabet, x.n, func(s string) { checkFollows(t, s) })
	}
	checkFollows(t, "\ufeffpackage p // q\n\nfunc f(x ...int) /* r */ {\n\tfor {\n\t\tbreak /* \n */ }\n\tx++ // y\n\treturn\n}")
}

func TestAnswersShareNothing(t *testing.T) {
	const s = "a // c\nb+c /*\n*/\n"
	first, _ := semi.Of(s)
	want := slices.Clone(first)
	second, _ := semi.Of(s)
	for i := range first {
		first[i] = api.Token{Kind: 99, From: -1, To: -1}
	}
	third, fault := semi.Of(s)
	if !slices.Equal(second, want) || !slices.Equal(third, want) || fault != (api.Fault{}) {
		t.Errorf("R2, R3: %v, %v, not %v", second, third, want)
	}
	room := []byte("a\nb//\n")
	for n := range len(room) {
		check(t, string(room)[:n]) // R3: what stands behind the end isn't read
	}
}
