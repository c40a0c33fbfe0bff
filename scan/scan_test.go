package scan_test

import (
	"math"
	"slices"
	"strings"
	"testing"
	"unicode/utf8"

	"emend/api"
	"emend/class"
	"emend/number"
	"emend/quoted"
	"emend/runes"
	"emend/scan"
)

// signs are the chapter's.
const signs = "+   -   *   /   %   &   |   ^   <<   >>   &^   +=   -=   *=   /=   %=   &=   |=   ^=   <<=   >>=   &^=   &&   ||   <-   ++   --   ==   <   >   =   !   ~   !=   <=   >=   :=   ...   (   )   [   ]   {   }   ,   .   :"

// words are the chapter's words of the language.
const words = "break case chan const continue default defer else fallthrough for func go goto if import interface map package range return select struct switch type var"

var allSigns = strings.Fields(signs)

// texts hands all texts of up to n letters of an alphabet to do.
func texts(alphabet []string, n int, do func(s string)) {
	var grow func(s string, left int)
	grow = func(s string, left int) {
		do(s)
		if left == 0 {
			return
		}
		for _, x := range alphabet {
			grow(s+x, left-1)
		}
	}
	grow("", n)
}

// unclean is the first place of a text that keeps it from being clean, by the
// words; -1 if there is none.
func unclean(s string) int {
	for at := 0; at < len(s); {
		r, size := utf8.DecodeRuneInString(s[at:])
		if r == utf8.RuneError && size == 1 || r == 0 || r == 0xFEFF && at > 0 {
			return at
		}
		at += size
	}
	return -1
}

// table is what the chapter's table tells of what begins at the beginning of a
// text that is clean: the kind, and the bytes; none if no row does.
func table(s string) (uint8, string) {
	// shortest is the first text of those that begin s for which done holds.
	shortest := func(done func(ahead, behind string) bool) string {
		for n := 1; n <= len(s); n++ {
			if done(s[:n], s[n:]) {
				return s[:n]
			}
		}
		return ""
	}
	first, _ := utf8.DecodeRuneInString(s)
	digit := func(s string) bool { return s != "" && strings.Contains("0123456789", s[:1]) }
	switch {
	case first == 0xFEFF:
		return api.TBlank, "\ufeff"
	case class.Blank(first):
		return api.TBlank, shortest(func(_, behind string) bool {
			return behind == "" || !strings.Contains("\t\n\r ", behind[:1])
		})
	case strings.HasPrefix(s, "//"):
		return api.TLine, shortest(func(_, behind string) bool { return behind == "" || behind[0] == '\n' })
	case strings.HasPrefix(s, "/*"):
		return api.TBlock, shortest(func(ahead, _ string) bool {
			return len(ahead) >= 4 && strings.HasSuffix(ahead, "*/")
		})
	case class.Letter(first):
		word := shortest(func(_, behind string) bool {
			r, _ := utf8.DecodeRuneInString(behind)
			return behind == "" || utf8.RuneStart(behind[0]) && !class.Letter(r) && !class.Digit(r)
		})
		if slices.Contains(strings.Fields(words), word) {
			return api.TWord, word
		}
		return api.TName, word
	case digit(s), s[0] == '.' && digit(s[1:]):
		kind, to, _ := number.Scan(s, 0)
		return kind, s[:to]
	case strings.Contains("'\"`", s[:1]):
		kind, to, _ := quoted.Scan(s, 0)
		return kind, s[:to]
	case s[0] == ';':
		return api.TSemi, ";"
	}
	longest := ""
	for _, x := range allSigns {
		if strings.HasPrefix(s, x) && len(x) > len(longest) {
			longest = x
		}
	}
	return api.TOp, longest
}

// told is what the words of P7.2 tell of a text.
func told(s string) ([]api.Token, api.Fault) {
	if len(s) > 65536 {
		return nil, api.Fault{Err: api.ErrLong}
	}
	if at := unclean(s); at >= 0 {
		return nil, api.Fault{Err: api.ErrChar, At: at}
	}
	var l []api.Token
	for at := 0; at < len(s); {
		kind, text := table(s[at:])
		if text == "" {
			return nil, api.Fault{Err: api.ErrToken, At: at}
		}
		l = append(l, api.Token{Kind: kind, From: at, To: at + len(text)})
		at += len(text)
	}
	return l, api.Fault{}
}

// toldOne is what the words of P7.1 tell of a place of a text.
func toldOne(s string, at int) (api.Token, api.Errno) {
	if at < 0 || at >= len(s) {
		return api.Token{}, api.ErrArg
	}
	if unclean(s) >= 0 || !utf8.RuneStart(s[at]) {
		return api.Token{}, api.ErrChar
	}
	kind, text := table(s[at:])
	if text == "" {
		return api.Token{}, api.ErrToken
	}
	return api.Token{Kind: kind, From: at, To: at + len(text)}, api.OK
}

// brief is a text as far as a message shows it.
func brief(s string) string {
	if len(s) > 200 {
		return s[:100] + " .. " + s[len(s)-100:]
	}
	return s
}

// check holds Clean and All of a text, and One at all of its places and beside
// them, against the words.
func check(t *testing.T, s string) {
	t.Helper()
	checkAll(t, s)
	for at := -2; at <= len(s)+2; at++ {
		checkOne(t, s, at)
	}
}

func checkAll(t *testing.T, s string) {
	t.Helper()
	if got, want := scan.Clean(s), unclean(s); got != want {
		t.Fatalf("P7.1: Clean(%q) = %d, not %d", brief(s), got, want)
	}
	l, fault := scan.All(s)
	want, wantFault := told(s)
	if fault != wantFault || !slices.Equal(l, want) {
		t.Fatalf("P7.2: All(%q) = %v %v, not %v %v", brief(s), l, fault, want, wantFault)
	}
}

func checkOne(t *testing.T, s string, at int) {
	t.Helper()
	got, err := scan.One(s, at)
	want, wantErr := toldOne(s, at)
	if got != want || err != wantErr {
		t.Fatalf("P7.1: One(%q, %d) = %v %v, not %v %v", brief(s), at, got, err, want, wantErr)
	}
}

// lexemes are what All tells of a text, written down: each with its kind.
func lexemes(s string) (string, api.Fault) {
	l, fault := scan.All(s)
	var b strings.Builder
	for i, x := range l {
		if i > 0 {
			b.WriteString(" ")
		}
		b.WriteString([...]string{"?", "name", "word", "int", "float", "imag", "rune", "string", "op", "semi", "blank", "line", "block"}[x.Kind])
		b.WriteString("{" + s[x.From:x.To] + "}")
	}
	return b.String(), fault
}

func TestAllOfExamples(t *testing.T) {
	for s, want := range map[string]string{
		"":                          "",
		"x:=1.5//c":                 "name{x} op{:=} float{1.5} line{//c}",
		"x:=1 // c":                 "name{x} op{:=} int{1} blank{ } line{// c}",
		"a&^=b":                     "name{a} op{&^=} name{b}",
		"if\t":                      "word{if} blank{\t}",
		"\ufeff":                    "blank{\ufeff}",
		"\ufeff \na":                "blank{\ufeff} blank{ \n} name{a}",
		" \t\r\n \n":                "blank{ \t\r\n \n}",
		"//":                        "line{//}",
		"//\n":                      "line{//} blank{\n}",
		"// a\r\n//b":               "line{// a\r} blank{\n} line{//b}",
		"///**/\n":                  "line{///**/} blank{\n}",
		"/**/":                      "block{/**/}",
		"/***/":                     "block{/***/}",
		"/*/*/":                     "block{/*/*/}",
		"/*a\n*/*/":                 "block{/*a\n*/} op{*} op{/}",
		"/*//*//":                   "block{/*//*/} op{/}",
		"/*'\"`*/'\"'":              "block{/*'\"`*/} rune{'\"'}",
		"a//*\nb":                   "name{a} line{//*} blank{\n} name{b}",
		"a/b*/c":                    "name{a} op{/} name{b} op{*} op{/} name{c}",
		"\"//\"`/*`":                "string{\"//\"} string{`/*`}",
		"iff _ _1 if1":              "name{iff} blank{ } name{_} blank{ } name{_1} blank{ } name{if1}",
		"go\u0663goto":              "name{go\u0663goto}",
		"\u03b1\u03b2=\u00e9":       "name{\u03b1\u03b2} op{=} name{\u00e9}",
		"0x1e+3":                    "int{0x1e} op{+} int{3}",
		"1e+3-0x1p-2i":              "float{1e+3} op{-} imag{0x1p-2i}",
		"1\u00e9":                   "int{1} name{\u00e9}",
		"a.5":                       "name{a} float{.5}",
		"a.b":                       "name{a} op{.} name{b}",
		"..5":                       "op{.} float{.5}",
		"...5":                      "op{...} int{5}",
		"....":                      "op{...} op{.}",
		"1.;.1i":                    "float{1.} semi{;} imag{.1i}",
		"'a''\\''":                  "rune{'a'} rune{'\\''}",
		"\"a\\\"b\"c":               "string{\"a\\\"b\"} name{c}",
		"`a\n\\`;;":                 "string{`a\n\\`} semi{;} semi{;}",
		"a<-b":                      "name{a} op{<-} name{b}",
		"a<--b":                     "name{a} op{<-} op{-} name{b}",
		"a---b+++c":                 "name{a} op{--} op{-} name{b} op{++} op{+} name{c}",
		"a&&&b":                     "name{a} op{&&} op{&} name{b}",
		"<<<=>>>=":                  "op{<<} op{<=} op{>>} op{>=}",
		"===!=!":                    "op{==} op{=} op{!=} op{!}",
		"~=:==":                     "op{~} op{=} op{:=} op{=}",
		"&^^=|||=":                  "op{&^} op{^=} op{||} op{|=}",
		"([{}]),.:":                 "op{(} op{[} op{{} op{}} op{]} op{)} op{,} op{.} op{:}",
		"func(x...int){return}":     "word{func} op{(} name{x} op{...} name{int} op{)} op{{} word{return} op{}}",
		"*/":                        "op{*} op{/}",
		"a = 'b' + \"c\" // d\n\te": "name{a} blank{ } op{=} blank{ } rune{'b'} blank{ } op{+} blank{ } string{\"c\"} blank{ } line{// d} blank{\n\t} name{e}",
	} {
		got, fault := lexemes(s)
		if got != want || fault != (api.Fault{}) {
			t.Errorf("P7.2: All(%q) = %s %v, not %s", s, got, fault, want)
		}
		check(t, s)
	}
}

func TestAllOfTextsThatAreNotCut(t *testing.T) {
	for s, want := range map[string]api.Fault{
		"1x":               {Err: api.ErrToken, At: 0},
		"#":                {Err: api.ErrToken, At: 0},
		"a /* b":           {Err: api.ErrToken, At: 2},
		"/*":               {Err: api.ErrToken, At: 0},
		"/*/":              {Err: api.ErrToken, At: 0},
		"a/*/ *\n/":        {Err: api.ErrToken, At: 1},
		"a 08 1x":          {Err: api.ErrToken, At: 2},
		"a.1..2":           {Err: api.ErrToken, At: 1},
		"a+'":              {Err: api.ErrToken, At: 2},
		"'a''\\'''":        {Err: api.ErrToken, At: 7},
		"''":               {Err: api.ErrToken, At: 0},
		"a \"b":            {Err: api.ErrToken, At: 2},
		"a \"b\n\"":        {Err: api.ErrToken, At: 2},
		"a `b":             {Err: api.ErrToken, At: 2},
		"a;?":              {Err: api.ErrToken, At: 2},
		"@":                {Err: api.ErrToken, At: 0},
		"a\\b":             {Err: api.ErrToken, At: 1},
		"a$":               {Err: api.ErrToken, At: 1},
		"a \u0663":         {Err: api.ErrToken, At: 2},
		"\u00d7":           {Err: api.ErrToken, At: 0},
		"a\u00a0b":         {Err: api.ErrToken, At: 1},
		"a\vb":             {Err: api.ErrToken, At: 1},
		"\ufffd":           {Err: api.ErrToken, At: 0},
		"\ufeff#":          {Err: api.ErrToken, At: 3},
		"\x00":             {Err: api.ErrChar, At: 0},
		"a\x00":            {Err: api.ErrChar, At: 1},
		"// \x00":          {Err: api.ErrChar, At: 3},
		"a\ufeff":          {Err: api.ErrChar, At: 1},
		"\ufeff\ufeff":     {Err: api.ErrChar, At: 3},
		"\"\ufeff\"":       {Err: api.ErrChar, At: 1},
		"/*\ufeff*/":       {Err: api.ErrChar, At: 2},
		"a\xff":            {Err: api.ErrChar, At: 1},
		"`\xff`":           {Err: api.ErrChar, At: 1},
		"//\xc3":           {Err: api.ErrChar, At: 2},
		"\"\xed\xa0\x80":   {Err: api.ErrChar, At: 1},
		"a\xc0\x80":        {Err: api.ErrChar, At: 1},
		"# \xff":           {Err: api.ErrChar, At: 2},
		"1x\x00":           {Err: api.ErrChar, At: 2},
		"a\x00\xff":        {Err: api.ErrChar, At: 1},
		"a\xff\x00":        {Err: api.ErrChar, At: 1},
		"\u00e9\ufeff\xff": {Err: api.ErrChar, At: 2},
	} {
		l, fault := scan.All(s)
		if fault != want || len(l) != 0 {
			t.Errorf("P7.2: All(%q) = %v %v, not %v", s, l, fault, want)
		}
		check(t, s)
	}
}

func TestCleanOfAllShortTexts(t *testing.T) {
	var bytes []string
	for b := range 256 {
		bytes = append(bytes, string([]byte{byte(b)}))
	}
	clean := func(s string) {
		if got, want := scan.Clean(s), unclean(s); got != want {
			t.Fatalf("P7.1: Clean(%q) = %d, not %d", s, got, want)
		}
	}
	texts(bytes, 2, func(s string) {
		clean(s)
		clean("a" + s)
		clean("\ufeff" + s + "\x00")
	})
	texts([]string{"\x00", "a", "\xef", "\xbb", "\xbf", "\xff"}, 7, clean)
	texts([]string{"\ufeff", "\x00", "\u00e9", "\xc3", "\ufffd", "\xf0\x9f\x98"}, 5, clean)
}

func TestAllOfEveryCharacter(t *testing.T) {
	for r := range rune(0x110000) {
		if runes.Form(r) == "" {
			continue
		}
		for _, s := range []string{string(r), "a" + string(r)} {
			want, wantFault := told(s)
			if l, fault := scan.All(s); fault != wantFault || !slices.Equal(l, want) {
				t.Fatalf("P7.2: All(%q) = %v %v, not %v %v", s, l, fault, want, wantFault)
			}
		}
	}
}

func TestAllShortTexts(t *testing.T) {
	split := func(s string) []string { return strings.Split(s, "") }
	for _, x := range []struct {
		alphabet []string
		n        int
	}{
		{split("+-*/%&|^<>=!~:.,()[]{};a1 \n#?"), 3},
		{split("+-*/%&|^<>=!~:."), 4},
		{split("&^=<>"), 6},
		{split("/*\n a"), 7},
		{split("/*\n\"'`"), 6},
		{split("01.xep+i;"), 5},
		{split("'\"`\\\nna"), 5},
		{split("if_1 \u00e9\u0663;."), 5},
		{split("\ufeff a\n\r\t/"), 4},
		{split("\x00\ufeff\ufffda/*'"), 4},
		{[]string{"a", "\xc3", "\xa9", "\xff", "/", "'", " "}, 5},
		{append(strings.Fields(words), "x", "1", " ", "_"), 2},
		{append(slices.Clone(allSigns), ";", "->", "?", "=>", "..", "$"), 3},
	} {
		texts(x.alphabet, x.n, func(s string) { checkAll(t, s) })
		texts(x.alphabet, min(x.n, 4), func(s string) {
			for at := -1; at <= len(s)+1; at++ {
				checkOne(t, s, at)
			}
		})
	}
}

func TestWordsAndSigns(t *testing.T) {
	for _, w := range strings.Fields(words) {
		for s, kind := range map[string]uint8{w: api.TWord, w + "1": api.TName, w + "_": api.TName, "x" + w: api.TName, strings.ToUpper(w): api.TName, w[1:]: api.TName, w + "\u00e9": api.TName} {
			want := api.Token{Kind: kind, To: len(s)}
			if got, err := scan.One(s, 0); got != want || err != api.OK {
				t.Errorf("P7.1: One(%q, 0) = %v %v", s, got, err)
			}
		}
	}
	if len(allSigns) != 47 {
		t.Fatalf("%d signs", len(allSigns))
	}
	for _, x := range allSigns {
		for _, behind := range []string{"", " ", "a", ";", "\n", "\u00e9", "#"} {
			want := api.Token{Kind: api.TOp, From: 1, To: 1 + len(x)}
			if got, err := scan.One("a"+x+behind, 1); got != want || err != api.OK {
				t.Errorf("P7.1: One(%q, 1) = %v %v", "a"+x+behind, got, err)
			}
		}
	}
}

func TestOneAsksInOrder(t *testing.T) {
	for _, x := range []struct {
		s    string
		at   int
		want api.Token
		err  api.Errno
	}{
		{"", 0, api.Token{}, api.ErrArg},
		{"", -1, api.Token{}, api.ErrArg},
		{"a", 1, api.Token{}, api.ErrArg},
		{"a", -1, api.Token{}, api.ErrArg},
		{"\xff", 1, api.Token{}, api.ErrArg},
		{"\xff", -1, api.Token{}, api.ErrArg},
		{"a", math.MaxInt, api.Token{}, api.ErrArg},
		{"a", math.MinInt, api.Token{}, api.ErrArg},
		{"a\xff", 0, api.Token{}, api.ErrChar},
		{"a \x00", 0, api.Token{}, api.ErrChar},
		{"\x00 a", 1, api.Token{}, api.ErrChar},
		{"a\ufeff", 0, api.Token{}, api.ErrChar},
		{"# \xff", 0, api.Token{}, api.ErrChar},
		{"\xff #", 2, api.Token{}, api.ErrChar},
		{"a\u00e9", 2, api.Token{}, api.ErrChar},
		{"#\u00e9", 2, api.Token{}, api.ErrChar},
		{"\ufeffa", 1, api.Token{}, api.ErrChar},
		{"\ufeffa", 2, api.Token{}, api.ErrChar},
		{"a\u00e9", 1, api.Token{Kind: api.TName, From: 1, To: 3}, api.OK},
		{"\ufeffa", 0, api.Token{Kind: api.TBlank, From: 0, To: 3}, api.OK},
		{"\ufeffa", 3, api.Token{Kind: api.TName, From: 3, To: 4}, api.OK},
		{"1x #", 0, api.Token{}, api.ErrToken},
		{"1x #", 1, api.Token{Kind: api.TName, From: 1, To: 2}, api.OK},
		{"1x #", 2, api.Token{Kind: api.TBlank, From: 2, To: 3}, api.OK},
		{"1x #", 3, api.Token{}, api.ErrToken},
		{"x.5", 1, api.Token{Kind: api.TFloat, From: 1, To: 3}, api.OK},
		{"x.5", 2, api.Token{Kind: api.TInt, From: 2, To: 3}, api.OK},
		{"fif", 1, api.Token{Kind: api.TWord, From: 1, To: 3}, api.OK},
		{"   a", 1, api.Token{Kind: api.TBlank, From: 1, To: 3}, api.OK},
		{"///", 1, api.Token{Kind: api.TLine, From: 1, To: 3}, api.OK},
		{"/*/*/", 2, api.Token{}, api.ErrToken},
		{"/**/*/", 0, api.Token{Kind: api.TBlock, From: 0, To: 4}, api.OK},
		{"&^=", 1, api.Token{Kind: api.TOp, From: 1, To: 3}, api.OK},
		{"\"a\"b\"", 2, api.Token{Kind: api.TString, From: 2, To: 5}, api.OK},
	} {
		if got, err := scan.One(x.s, x.at); got != x.want || err != x.err {
			t.Errorf("P7.1: One(%q, %d) = %v %v, not %v %v", x.s, x.at, got, err, x.want, x.err)
		}
	}
}

func TestLongTexts(t *testing.T) {
	const most = 65536
	for _, x := range []string{"a", "a ", "+", "<<=", " ", "\n", ";", "'a'", "\"\"", "``", "1 ", ".5 ", "/**/", "//\n", "\u00e9", "\u3042", "/*", "*/", "'", "\"", "`", "1e+", "if ", "."} {
		s := strings.Repeat(x, most/len(x)+1)
		checkAll(t, s[:most])
		if l, fault := scan.All(s[:most] + "a"); len(l) != 0 || fault != (api.Fault{Err: api.ErrLong}) {
			t.Errorf("P7.2: All of %q..: %d lexemes, %v", x, len(l), fault)
		}
	}
	for s, want := range map[string]api.Fault{
		strings.Repeat(" ", most-1) + "#":    {Err: api.ErrToken, At: most - 1},
		strings.Repeat(" ", most-1) + "\x00": {Err: api.ErrChar, At: most - 1},
		"#" + strings.Repeat("a", most-1):    {Err: api.ErrToken, At: 0},
		"\xff" + strings.Repeat("a", most-1): {Err: api.ErrChar, At: 0},
		"\xff" + strings.Repeat("a", most):   {Err: api.ErrLong, At: 0},
		strings.Repeat("a", most) + "\xff":   {Err: api.ErrLong, At: 0},
		strings.Repeat("#", most+1):          {Err: api.ErrLong, At: 0},
		strings.Repeat("\u00e9", most/2+1):   {Err: api.ErrLong, At: 0},
		strings.Repeat("\xff", 3*most):       {Err: api.ErrLong, At: 0},
	} {
		if l, fault := scan.All(s); len(l) != 0 || fault != want {
			t.Errorf("P7.2: All of %d bytes: %d lexemes, %v, not %v", len(s), len(l), fault, want)
		}
	}
	// P7.1 names no limit of length.
	long := strings.Repeat("a", 3*most) + ";"
	if got, err := scan.One(long, 1); got != (api.Token{Kind: api.TName, From: 1, To: 3 * most}) || err != api.OK {
		t.Errorf("P7.1: One of a long text: %v %v", got, err)
	}
	if got, err := scan.One(long, 3*most); got != (api.Token{Kind: api.TSemi, From: 3 * most, To: 3*most + 1}) || err != api.OK {
		t.Errorf("P7.1: One of a long text: %v %v", got, err)
	}
	if at := scan.Clean(long + "\x00"); at != 3*most+1 {
		t.Errorf("P7.1: Clean of a long text: %d", at)
	}
}

// kinds are the kinds and texts of a text's lexemes other than TBlank.
func kinds(t *testing.T, s string) []string {
	t.Helper()
	l, fault := scan.All(s)
	if fault != (api.Fault{}) {
		t.Fatalf("P7.3: All(%q): %v", s, fault)
	}
	var got []string
	for _, x := range l {
		if x.Kind != api.TBlank {
			got = append(got, string(rune('A'+x.Kind))+s[x.From:x.To])
		}
	}
	return got
}

// checkFollows asks what the chapter says to follow for a text that is cut.
func checkFollows(t *testing.T, s string) {
	t.Helper()
	l, fault := scan.All(s)
	if fault != (api.Fault{}) {
		return
	}
	at := 0
	var parts []string
	for _, x := range l {
		if x.From != at || x.To <= x.From {
			t.Fatalf("P7.3: the lexemes of %q: %v", s, l)
		}
		at = x.To
		part := s[x.From:x.To]
		parts = append(parts, part)
		whole := []api.Token{{Kind: x.Kind, To: len(part)}}
		if alone, fault := scan.All(part); fault != (api.Fault{}) || !slices.Equal(alone, whole) {
			t.Fatalf("P7.3: %q by itself: %v %v", part, alone, fault)
		}
		if one, err := scan.One(s, x.From); one != x || err != api.OK {
			t.Fatalf("P7.3: One(%q, %d) = %v %v", s, x.From, one, err)
		}
	}
	if at != len(s) {
		t.Fatalf("P7.3: the lexemes of %q end at %d", s, at)
	}
	same := kinds(t, s)
	if got := kinds(t, strings.Join(parts, "\n")); !slices.Equal(got, same) {
		t.Fatalf("P7.3: %q with bytes 10 between: %q, not %q", s, got, same)
	}
	for i := 1; i < len(parts); i++ {
		cut := strings.Join(parts[:i], "") + "\n" + strings.Join(parts[i:], "")
		if got := kinds(t, cut); !slices.Equal(got, same) {
			t.Fatalf("P7.3: %q: %q, not %q", cut, got, same)
		}
	}
}

func TestWhatFollows(t *testing.T) {
	for _, x := range []struct {
		alphabet string
		n        int
	}{
		{"a1. +&^=\n/*'\"`;<-\u00e9", 4},
		{"/*\n a", 6},
		{"01.xep+", 5},
		{"\ufeffa /\n", 4},
	} {
		texts(strings.Split(x.alphabet, ""), x.n, func(s string) { checkFollows(t, s) })
	}
	checkFollows(t, "package p // q\n\nfunc f(x ...int) (r []string, err error) {\n\tfor i := range x { r[i] += `a\nb` + \"c\\n\" + '\\'' /* d\n*/ }\n\treturn 0x1p-2i <- .5, <-c &^ ^1e9\n}\n")
}

func TestAnswersShareNothing(t *testing.T) {
	const s = "a+b // c\n"
	first, _ := scan.All(s)
	want := slices.Clone(first)
	second, _ := scan.All(s)
	for i := range first {
		first[i] = api.Token{Kind: 99, From: -1, To: -1}
	}
	_ = append(first[:0], first...)
	third, fault := scan.All(s)
	if !slices.Equal(second, want) || !slices.Equal(third, want) || fault != (api.Fault{}) {
		t.Errorf("R2, R3: %v, %v, not %v", second, third, want)
	}
	if one, err := scan.One(s, 0); one != want[0] || err != api.OK {
		t.Errorf("R2: %v %v", one, err)
	}
	room := []byte("a<<=/* */")
	for n := range len(room) {
		checkAll(t, string(room)[:n]) // R3: what stands behind the end isn't read
	}
}
