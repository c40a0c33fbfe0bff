package quoted

import (
	"fmt"
	"math"
	"slices"
	"strings"
	"testing"
	"unicode/utf8"

	"emend/api"
)

// says is what a text of the chapter's table is.
type says struct {
	kind  uint8
	value string
}

// piece is an escape, or a byte or character that stands for itself, and what
// it says in a string and in a rune.
type piece struct{ text, inString, inRune string }

// escapes are the chapter's escapes of up to four bytes, but \' and \".
func escapes() []piece {
	var l []piece
	for text, value := range map[string]string{`\a`: "\x07", `\b`: "\x08", `\f`: "\x0c", `\n`: "\x0a", `\r`: "\x0d", `\t`: "\x09", `\v`: "\x0b", `\\`: "\x5c"} {
		l = append(l, piece{text, value, value})
	}
	for n := range 0o377 + 1 {
		l = append(l, piece{fmt.Sprintf(`\%03o`, n), string([]byte{byte(n)}), string(rune(n))})
	}
	const digits = "0123456789abcdefABCDEF"
	for i := range len(digits) {
		for j := range len(digits) {
			text := `\x` + digits[i:i+1] + digits[j:j+1]
			var n int
			fmt.Sscanf(text[2:], "%x", &n)
			l = append(l, piece{text, string([]byte{byte(n)}), string(rune(n))})
		}
	}
	return l
}

// of leaves the pieces whose bytes all stand in an alphabet.
func of(l []piece, alphabet string) []piece {
	return slices.DeleteFunc(slices.Clone(l), func(p piece) bool {
		for i := range len(p.text) {
			if strings.IndexByte(alphabet, p.text[i]) < 0 {
				return true
			}
		}
		return false
	})
}

// texts hands all texts of up to n bytes of an alphabet to do.
func texts(alphabet string, n int, do func(s string)) {
	var grow func(s []byte)
	grow = func(s []byte) {
		do(string(s))
		if len(s) == n {
			return
		}
		for i := range len(alphabet) {
			grow(append(s, alphabet[i]))
		}
	}
	grow(make([]byte, 0, n))
}

// table is all texts of the chapter's table of up to n bytes of an alphabet,
// but those with an escape by u or U.
func table(alphabet string, n int) map[string]says {
	m := map[string]says{}
	short := of(escapes(), alphabet)
	quotes := of([]piece{{`\'`, "", "'"}, {`\"`, `"`, ""}}, alphabet)
	pieces := short
	for _, p := range quotes {
		if p.inString != "" {
			pieces = append(slices.Clone(pieces), p)
		} else {
			m[`'\''`] = says{api.TRune, "'"}
		}
	}
	for i := range len(alphabet) {
		if b := alphabet[i : i+1]; !strings.Contains("\"\\\n", b) {
			pieces = append(slices.Clone(pieces), piece{b, b, ""})
		}
	}
	var strung func(body, value string)
	strung = func(body, value string) {
		m[`"`+body+`"`] = says{api.TString, value}
		for _, p := range pieces {
			if len(body)+len(p.text)+2 <= n {
				strung(body+p.text, value+p.inString)
			}
		}
	}
	strung("", "")
	for _, p := range short {
		m[`'`+p.text+`'`] = says{api.TRune, p.inRune}
	}
	texts(alphabet, n-2, func(s string) {
		r, size := utf8.DecodeRuneInString(s)
		valid := r != utf8.RuneError || size > 1
		if valid && size == len(s) && size > 0 && !strings.Contains("'\\\n", s) {
			m["'"+s+"'"] = says{api.TRune, s}
		}
		if !strings.Contains(s, "`") {
			m["`"+s+"`"] = says{api.TString, strings.ReplaceAll(s, "\r", "")}
		}
	})
	return m
}

// check holds Scan at the first byte of a text, and Value, against the table.
func check(t *testing.T, m map[string]says, s string) {
	t.Helper()
	want, found := m[s]
	got, err := Value(s)
	if found && (got != want.value || err != api.OK) || !found && (got != "" || err != api.ErrToken) {
		t.Fatalf("P6.2: Value(%q) = %q %v, not %q", s, got, err, want.value)
	}
	var kind uint8
	to, e := 0, api.ErrNone
	if s != "" && strings.Contains("'\"`", s[:1]) {
		e = api.ErrToken
	}
	for n := range len(s) + 1 {
		if x, ok := m[s[:n]]; ok {
			kind, to, e = x.kind, n, api.OK
			break
		}
	}
	checkScan(t, s, 0, kind, to, e)
	for _, ahead := range []string{"'", `"a`, "`\\"} {
		if e == api.OK {
			checkScan(t, ahead+s, len(ahead), kind, len(ahead)+to, e)
		} else {
			checkScan(t, ahead+s, len(ahead), kind, to, e)
		}
	}
}

// checkScan asks Scan once, and what must follow of what it says.
func checkScan(t *testing.T, s string, at int, kind uint8, to int, err api.Errno) {
	t.Helper()
	k, n, e := Scan(s, at)
	if k != kind || n != to || e != err {
		t.Fatalf("P6.1: Scan(%q, %d) = %d %d %v, not %d %d %v", s, at, k, n, e, kind, to, err)
	}
	if e == api.OK {
		if v, e := Value(s[at:n]); e != api.OK {
			t.Fatalf("P6.4: what Scan finds in %q at %d has no Value: %q %v", s, at, v, e)
		}
	}
}

func TestAllShortTexts(t *testing.T) {
	for _, x := range []struct {
		alphabet string
		n        int
	}{
		{"'\"`\\\n\ra0u", 5},
		{"'\\x1Fg", 6},
		{"\"\\x1Fg", 6},
		{"'\\0378", 6},
		{"\"\\0378", 6},
		{"\"'\\n", 7},
		{"`\r\n\\", 6},
		{"'\xc3\xa9\xe2\x82\xac\xff", 5},
		{"\"\xc3\xa9\xff\x00\x80", 4},
		{"`\xc3\xa9\xff\x00\r", 4},
		{"'\xf0\x9f\x98\x80\xed", 6},
	} {
		m := table(x.alphabet, x.n)
		texts(x.alphabet, x.n, func(s string) { check(t, m, s) })
	}
}

func TestExamples(t *testing.T) {
	for _, x := range []struct {
		s    string
		at   int
		kind uint8
		to   int
		err  api.Errno
	}{
		{"x'a'", 1, api.TRune, 4, api.OK},
		{`"a\"b"`, 0, api.TString, 6, api.OK},
		{`"a\"b"c"`, 0, api.TString, 6, api.OK},
		{`""""`, 0, api.TString, 2, api.OK},
		{`"\\"\"`, 0, api.TString, 4, api.OK},
		{"`a\\`b`", 0, api.TString, 4, api.OK},
		{"`\n\"'`", 0, api.TString, 5, api.OK},
		{"'€'", 0, api.TRune, 5, api.OK},
		{`'"'`, 0, api.TRune, 3, api.OK},
		{`"'"`, 0, api.TString, 3, api.OK},
		{`'\''`, 0, api.TRune, 4, api.OK},
		{`'\\''`, 0, api.TRune, 4, api.OK},
		{"'\r'", 0, api.TRune, 3, api.OK},
		{"'`'", 0, api.TRune, 3, api.OK},
		{"'ab'", 0, 0, 0, api.ErrToken},
		{"'", 0, 0, 0, api.ErrToken},
		{"''", 0, 0, 0, api.ErrToken},
		{"'''", 0, 0, 0, api.ErrToken},
		{"''''", 0, 0, 0, api.ErrToken},
		{"'a", 0, 0, 0, api.ErrToken},
		{"'\n'", 0, 0, 0, api.ErrToken},
		{`'\'`, 0, 0, 0, api.ErrToken},
		{`'\`, 0, 0, 0, api.ErrToken},
		{`'\"'`, 0, 0, 0, api.ErrToken},
		{`'\e'`, 0, 0, 0, api.ErrToken},
		{"'\\\n'", 0, 0, 0, api.ErrToken},
		{"\"a\nb\"", 0, 0, 0, api.ErrToken},
		{`"a`, 0, 0, 0, api.ErrToken},
		{`"`, 0, 0, 0, api.ErrToken},
		{`"\"`, 0, 0, 0, api.ErrToken},
		{`"\'"`, 0, 0, 0, api.ErrToken},
		{"\"\\`\"", 0, 0, 0, api.ErrToken},
		{"\"\\\n\"", 0, 0, 0, api.ErrToken},
		{"`", 0, 0, 0, api.ErrToken},
		{"`a", 0, 0, 0, api.ErrToken},
		{"a", 0, 0, 0, api.ErrNone},
		{"´a´", 0, 0, 0, api.ErrNone},
		{"", 0, 0, 0, api.ErrNone},
		{"'a'", 3, 0, 0, api.ErrNone},
		{"'a'", -1, 0, 0, api.ErrNone},
		{"'a'", math.MinInt, 0, 0, api.ErrNone},
		{"'a'", math.MaxInt, 0, 0, api.ErrNone},
		{"'a'", 2, 0, 0, api.ErrToken},
	} {
		checkScan(t, x.s, x.at, x.kind, x.to, x.err)
	}
	for s, want := range map[string]string{
		`'\377'`:                 "\xc3\xbf",
		`"\377"`:                 "\xff",
		`'\xfF'`:                 "\xc3\xbf",
		`"\xFf"`:                 "\xff",
		`"\u20ac"`:               "\xe2\x82\xac",
		`'\u20AC'`:               "\xe2\x82\xac",
		`"\U0001F600"`:           "\xf0\x9f\x98\x80",
		`"\0001"`:                "\x001",
		`"\u00ff\xff"`:           "\xc3\xbf\xff",
		`""`:                     "",
		"``":                     "",
		"`\r`":                   "",
		"`\r\n\\r\r`":            "\n\\r",
		"\"\r\"":                 "\r",
		"'\r'":                   "\r",
		"\"\xff\xc3\"":           "\xff\xc3",
		"\"\x00\"":               "\x00",
		"'\x00'":                 "\x00",
		`"\a\b\f\n\r\t\v\\\""`:   "\x07\x08\x0c\x0a\x0d\x09\x0b\x5c\x22",
		`'\U0010ffff'`:           "\xf4\x8f\xbf\xbf",
		`"\u0000\U00000000\000"`: "\x00\x00\x00",
	} {
		got, err := Value(s)
		if got != want || err != api.OK {
			t.Errorf("P6.2: Value(%s) = %q %v, not %q", s, got, err, want)
		}
	}
	for _, s := range []string{
		"", "a", "'", `"`, "`", `"\uD800"`, `"\udfff"`, `'\uD800'`, `"\U00110000"`, `"\U0000d800"`, `"\UFFFFFFFF"`, `"\U80000041"`,
		`"\U100000041"`, `"\400"`, `'\400'`, `'\0001'`, `'\777'`, `"\08"`, `"\00"`, `"\0"`, `'\0'`, `"\8"`, `"\378"`, `"\x"`, `"\x1"`, `"\xg1"`,
		`"\x1g"`, `"\X11"`, `"\u123"`, `"\u123g"`, `"\U1234567"`, `"\U0000004"`, `"\U0000004g"`, `"\u 041"`, `"\u+041"`, `"\u-041"`,
		`"\u{41}"`, `"\x_1"`, `"\u00E"`, `'a' `, ` 'a'`, `'a''b'`, `"a""b"`, "`a``b`", `"a"b`, "'é", "'\xc3'", "'\xc3\xa9\xa9'", "'\xc0\x80'",
		"'\xed\xa0\x80'", "'é́'", `'\'`, `"\`, `"\u`, `"\U0001F60`, `"\x1`, `"\12`, "'\\", "`a\x00", `'\u00e'`, `'\u00e9`, `'\u00e9a'`,
	} {
		if got, err := Value(s); got != "" || err != api.ErrToken {
			t.Errorf("P6.2: Value(%s) = %q %v", s, got, err)
		}
	}
}

func TestEveryCharacter(t *testing.T) {
	for r := rune(-1); r <= 0x110001; r++ {
		if r >= 0xD800 && r <= 0xDFFF || r < 0 || r > 0x10FFFF {
			continue
		}
		s := "'" + string(r) + "'"
		got, err := Value(s)
		if r == '\'' || r == '\\' || r == '\n' {
			if got != "" || err != api.ErrToken {
				t.Fatalf("P6.2: Value(%q) = %q %v", s, got, err)
			}
		} else if got != string(r) || err != api.OK {
			t.Fatalf("P6.2: Value(%q) = %q %v", s, got, err)
		}
	}
}

func TestEveryBytePair(t *testing.T) {
	for a := range 256 {
		for b := range 256 {
			body := string([]byte{byte(a), byte(b)})
			rest := "'" + body + "'"
			_, err := Value(rest)
			isOne := utf8.RuneCountInString(body) == 1 && utf8.ValidString(body) || a == '\\' && strings.IndexByte(`abfnrtv\'`, byte(b)) >= 0
			if (err == api.OK) != isOne {
				t.Fatalf("P6.2: Value(%q): %v", rest, err)
			}
			body = strings.NewReplacer("\\", "", "\"", "", "\n", "", "`", "").Replace(body)
			if v, err := Value(`"` + body + `"`); v != body || err != api.OK {
				t.Fatalf("P6.2: of %q in its marks: %q %v", body, v, err)
			}
			if v, err := Value("`" + body + "`"); v != strings.ReplaceAll(body, "\r", "") || err != api.OK {
				t.Fatalf("P6.2: of %q in raw marks: %q %v", body, v, err)
			}
		}
	}
}

func TestEveryEscapeByNumber(t *testing.T) {
	for n := range 0x10000 {
		for _, form := range []string{`\u%04x`, `\u%04X`, `\U%08x`, `\U0000%04X`} {
			checkNumber(t, fmt.Sprintf(form, n), n)
		}
	}
	for _, n := range []int{0x10000, 0x1F600, 0x10FFFE, 0x10FFFF, 0x110000, 0x110041, 0x200041, 0x1000041, 0x10000041, 0x7FFFFFFF, 0x80000000, 0x80000041, 0xFFFFFFFF, 0xFFFF0041, 0xD800D800} {
		checkNumber(t, fmt.Sprintf(`\U%08x`, n), n)
		checkNumber(t, fmt.Sprintf(`\U%08X`, n), n)
	}
	for n := range 256 {
		for _, form := range []string{`\x%02x`, `\x%02X`} {
			text := fmt.Sprintf(form, n)
			if got, e := Value(`"` + text + `"`); got != string([]byte{byte(n)}) || e != api.OK {
				t.Errorf("P6.2: Value(%q) = %q %v", text, got, e)
			}
			if got, e := Value("'" + text + "'"); got != string(rune(n)) || e != api.OK {
				t.Errorf("P6.2: Value('%s') = %q %v", text, got, e)
			}
		}
	}
	for n := range 512 {
		text := fmt.Sprintf(`\%03o`, n)
		want, err := string([]byte{byte(n)}), api.OK
		form := string(rune(n))
		if n > 0o377 {
			want, form, err = "", "", api.ErrToken
		}
		if got, e := Value(`"` + text + `"`); got != want || e != err {
			t.Errorf("P6.2: Value(%q) = %q %v", text, got, e)
		}
		if got, e := Value("'" + text + "'"); got != form || e != err {
			t.Errorf("P6.2: Value('%s') = %q %v", text, got, e)
		}
	}
}

// checkNumber asks for what an escape by u or U says.
func checkNumber(t *testing.T, text string, n int) {
	t.Helper()
	want, err := "", api.ErrToken
	if n <= 0x10FFFF && utf8.ValidRune(rune(n)) {
		want, err = string(rune(n)), api.OK
	}
	for _, mark := range []string{"'", `"`} {
		if got, e := Value(mark + text + mark); got != want || e != err {
			t.Fatalf("P6.2: Value of %s in %s = %q %v", text, mark, got, e)
		}
	}
	// One digit less is no escape; in a rune one more is too much.
	cut := text[:len(text)-1]
	for _, s := range []string{`"` + cut + `"`, `"` + cut, "'" + cut + "'", "'" + text + "0'", `"` + cut + `g"`, `"` + cut + "\xff\"", "'" + cut + "''"} {
		if got, e := Value(s); got != "" || e != api.ErrToken {
			t.Fatalf("P6.2: Value(%q) = %q %v", s, got, e)
		}
	}
}

func TestEveryByteWithinAnEscape(t *testing.T) {
	hex := func(b byte) bool { return strings.IndexByte("0123456789abcdefABCDEF", b) >= 0 }
	for n := range 256 {
		b := byte(n)
		for _, x := range []struct {
			form string
			ok   bool
		}{
			{`\?00`, b >= '0' && b <= '3' || b == 'x'},
			{`\0?0`, b >= '0' && b <= '7'},
			{`\00?`, b >= '0' && b <= '7'},
			{`\x?0`, hex(b)},
			{`\x0?`, hex(b)},
			{`\u?000`, hex(b)},
			{`\ud?00`, hex(b) && b < '8'},
			{`\u000?`, hex(b)},
			{`\U?0000000`, b == '0'},
			{`\U0000000?`, hex(b)},
			{`\U00?00000`, b == '0' || b == '1'},
			{`\U0000?7ff`, hex(b)},
		} {
			text := strings.ReplaceAll(x.form, "?", string([]byte{b}))
			if strings.IndexByte(`abfnrtv\`, b) >= 0 && strings.HasPrefix(x.form, `\?`) {
				continue
			}
			for _, mark := range []string{"'", `"`} {
				if strings.HasPrefix(x.form, `\?`) && mark[0] == b {
					continue
				}
				if _, _, e := Scan(mark+text+mark, 0); (e == api.OK) != x.ok {
					t.Errorf("P6.1: %q in %s: %v", text, mark, e)
				}
			}
		}
		for _, mark := range []byte{'\'', '"'} {
			one := strings.IndexByte(`abfnrtv\`, b) >= 0 || b == mark
			s := string([]byte{mark, '\\', b, mark})
			if _, e := Value(s); (e == api.OK) != one {
				t.Errorf("P6.2: Value(%q): %v", s, e)
			}
		}
	}
}

// quote is Quote by the chapter's words.
func quote(s string) string {
	var q strings.Builder
	for _, b := range []byte(s) {
		switch {
		case b == '"':
			q.WriteString(`\"`)
		case b == '\\':
			q.WriteString(`\\`)
		case b == 0xA:
			q.WriteString(`\n`)
		case b < 0x20 || b > 0x7E:
			fmt.Fprintf(&q, `\x%02x`, b)
		default:
			q.WriteByte(b)
		}
	}
	return `"` + q.String() + `"`
}

func checkQuote(t *testing.T, s string) {
	t.Helper()
	q := Quote(s)
	if q != quote(s) {
		t.Fatalf("P6.3: Quote(%q) = %s", s, q)
	}
	if v, e := Value(q); v != s || e != api.OK {
		t.Fatalf("P6.4: Value(%s) = %q %v, not %q", q, v, e, s)
	}
	if k, n, e := Scan(q+q, 0); k != api.TString || n != len(q) || e != api.OK {
		t.Fatalf("P6.4: Scan(%s, 0) = %d %d %v", q+q, k, n, e)
	}
}

func TestQuote(t *testing.T) {
	if got := Quote("a\n\xff"); got != `"a\n\xff"` {
		t.Errorf("P6.3: %s", got)
	}
	if got := Quote(""); got != `""` {
		t.Errorf("P6.3: %s", got)
	}
	for a := range 256 {
		checkQuote(t, string([]byte{byte(a)}))
		for b := range 256 {
			checkQuote(t, string([]byte{byte(a), byte(b)}))
		}
	}
	texts("a\"\\\nn\r\xc3\xa9'", 4, func(s string) { checkQuote(t, s) })
}

func TestStringsBehindOneAnother(t *testing.T) {
	m := table("\"\\nx1\xc3\xa9", 6)
	m[`"\u00e9"`] = says{api.TString, "é"}
	m[`"\0011"`] = says{api.TString, "\x011"}
	var l []string
	for s := range m {
		if s[0] == '"' && len(s) <= 6 || len(s) > 6 {
			l = append(l, s)
		}
	}
	slices.Sort(l)
	for i, a := range l {
		for j := 0; j < len(l); j += 1 + (i+j)%7 {
			b := l[j]
			if v, e := Value(a[:len(a)-1] + b[1:]); v != m[a].value+m[b].value || e != api.OK {
				t.Fatalf("P6.4: %s and %s: %q %v", a, b, v, e)
			}
		}
	}
}

func TestLongTexts(t *testing.T) {
	const n = 200000
	for s, want := range map[string]string{
		`"` + strings.Repeat(`\n`, n) + `"`:     strings.Repeat("\n", n),
		`"` + strings.Repeat("a", n) + `"`:      strings.Repeat("a", n),
		"`" + strings.Repeat("\r\n", n) + "`":   strings.Repeat("\n", n),
		`"` + strings.Repeat(`\u20ac`, n) + `"`: strings.Repeat("€", n),
	} {
		if v, e := Value(s); v != want || e != api.OK {
			t.Errorf("P6.2: %s..: %d bytes, %v", s[:8], len(v), e)
		}
		if k, to, e := Scan("x"+s+s, 1); k != api.TString || to != len(s)+1 || e != api.OK {
			t.Errorf("P6.1: %s..: %d %d %v", s[:8], k, to, e)
		}
		if v, e := Value(s[:len(s)-1]); v != "" || e != api.ErrToken {
			t.Errorf("P6.2: %s.. without its last mark: %d bytes, %v", s[:8], len(v), e)
		}
		checkQuote(t, s)
	}
}

func TestNothingBehindTheEndIsRead(t *testing.T) {
	all := `"\u00e9"'a'`
	for n := range len(all) + 1 {
		k, to, e := Scan(all[:n], 0)
		v, f := Value(all[:n])
		whole := strings.Clone(all[:n])
		if k2, to2, e2 := Scan(whole, 0); k2 != k || to2 != to || e2 != e {
			t.Errorf("R2, R3: Scan of %q", whole)
		}
		if v2, f2 := Value(whole); v2 != v || f2 != f {
			t.Errorf("R2, R3: Value of %q", whole)
		}
		if (e == api.OK) != (n >= 8) || (f == api.OK) != (n == 8) {
			t.Errorf("R3: %q: %v %v", whole, e, f)
		}
	}
}
