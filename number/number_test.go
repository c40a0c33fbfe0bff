package number

import (
	"math"
	"regexp"
	"strings"
	"testing"

	"emend/api"
)

// The chapter's table, row for row.
const (
	row2  = `[01](?:_?[01])*`
	row8  = `[0-7](?:_?[0-7])*`
	row10 = `[0-9](?:_?[0-9])*`
	row16 = `[0-9a-fA-F](?:_?[0-9a-fA-F])*`
	power = `[eE][+-]?` + row10
	two   = `[pP][+-]?` + row10

	tableInt = `(?:0|[1-9](?:_?[0-9])*|0_?` + row8 + `|0[bB]_?` + row2 + `|0[oO]_?` + row8 + `|0[xX]_?` + row16 + `)`

	tableFloat = `(?:` + row10 + `\.(?:` + row10 + `)?(?:` + power + `)?|\.` + row10 + `(?:` + power + `)?|` + row10 + power +
		`|0[xX]_?` + row16 + `\.(?:` + row16 + `)?` + two + `|0[xX]_?` + row16 + two + `|0[xX]\.` + row16 + two + `)`

	tableImag = `(?:` + tableInt + `|` + tableFloat + `|` + row10 + `)i`
)

var (
	isInt   = regexp.MustCompile(`\A` + tableInt + `\z`)
	isFloat = regexp.MustCompile(`\A` + tableFloat + `\z`)
	isImag  = regexp.MustCompile(`\A` + tableImag + `\z`)
)

// told is a text's kind by the table; of a text that has two, the test fails.
func told(t *testing.T, s string) uint8 {
	t.Helper()
	var kind uint8
	n := 0
	for _, x := range []struct {
		is   *regexp.Regexp
		kind uint8
	}{{isInt, api.TInt}, {isFloat, api.TFloat}, {isImag, api.TImag}} {
		if x.is.MatchString(s) {
			kind = x.kind
			n++
		}
	}
	if n > 1 {
		t.Fatalf("P5.2: %q has %d kinds", s, n)
	}
	return kind
}

// texts hands all texts of up to n letters of an alphabet to do.
func texts(alphabet string, n int, do func(s string)) {
	var grow func(s []byte)
	grow = func(s []byte) {
		do(string(s))
		if len(s) == n {
			return
		}
		for i := range len(alphabet) {
			grow(append(s, alphabet[i]))
		}
	}
	grow(make([]byte, 0, n))
}

func TestKindOfExamples(t *testing.T) {
	for kind, l := range map[uint8]string{
		api.TInt: `0 00 12 9 10 0b1 0B0 0b_1 0b1_0 0o7 0O_7 0o0 0x_Ff 0X1f 0x0 0xe 0x1e3 0xb1 0xBEEF_cafe
			1_000 017 0_7 0_0 0_1_7 00_7 1_2_3 99999999999999999999999999`,
		api.TFloat: `1. 0. .5 .0 1e9 1E9 1e+9 1e-9 1.e9 1.5e9 .5e9 1_0.5_0e1_0 0x1p-2 0X1P2 0x1p+2 0x1.p1 0x1.8p1
			0x.8p1 0x_1p1 0x_1.8p1 0x1_f.f_1p1_0 0xap0 0xep1 08.5 09e1 0_8.5 0_8e1 00. 1e08 0e0 0x1p08`,
		api.TImag: `0i 1i 08i 09i 0_9i 0_8_9i 017i 0x1i 0b1i 0B_1i 0o7i 1.5i 1.i .5i 1e9i 08.5i 0x1p1i 0x_1.8p1i 1_0i`,
		0: `08 09 0_8 00_9 1__0 1_ 0_ 0x 0X 0b 0o 0b2 0o8 0xg 0b_ 0o_ 0x_ 0x__1 0b1_ 0x1_ 1e 1e+ 1e_1 1e1_ 1_e1 1e1e1
			1_.5 1._5 1.5_ 1.5e 1..5 .5. . .e1 .i ._5 e1 + +1 -1 1.5.5 1p1 1.5p1 0x1.5 0x. 0x.p1 0x_.8p1 0x1._8p1 0x1_.8p1
			0x.8 0x1p 0x1pf 0x1p_1 0x1e+3 0x1p1p1 0b1.0 0b1e1 0b1p1 0o1.5 0o1e1 0o7p1 0b1.p1 _1 i ii 1ii 0xi 0bi 0x1.5i 0_i
			1_i 1__0i 1i1 1i. 1I 0b2i 0o8i 0b 1x x1 0_x1 00x1 0xx1 1e1.5 1e1p1 a 0f 0d1 1.5f`,
	} {
		for _, s := range strings.Fields(l) {
			if got := Kind(s); got != kind {
				t.Errorf("P5.1: Kind(%q) = %d, not %d", s, got, kind)
			}
			if want := told(t, s); want != kind {
				t.Errorf("the table: %q: %d, not %d", s, want, kind)
			}
		}
	}
	for _, s := range []string{"", " 1", "1 ", "1\n", "\x00", "1\x00", "\xff", "1\xff", "1é", "٣", "0x\u0661", "1+1", "0x1e-3", "1-"} {
		if got := Kind(s); got != 0 {
			t.Errorf("P5.1: Kind(%q) = %d", s, got)
		}
	}
}

func TestKindOfAllShortTexts(t *testing.T) {
	for _, x := range []struct {
		alphabet string
		n        int
	}{
		{"0178_abeoxpi.+", 4},
		{"0189_.eE+-i", 5},
		{"01_xXfp.-i", 5},
		{"018_b", 7},
		{"0x1_.p", 7},
		{"09_.e", 7},
	} {
		texts(x.alphabet, x.n, func(s string) {
			kind := told(t, s)
			if got := Kind(s); got != kind {
				t.Fatalf("P5.1: Kind(%q) = %d, not %d", s, got, kind)
			}
			checkFollows(t, s, kind)
		})
	}
}

// checkFollows asks what the chapter says to follow for a text of a kind.
func checkFollows(t *testing.T, s string, kind uint8) {
	t.Helper()
	if kind == 0 {
		return
	}
	if got := Kind(strings.ReplaceAll(s, "_", "")); got != kind {
		t.Fatalf("P5.2: %q is %d, without its _ %d", s, kind, got)
	}
	if got := Kind(s + "i"); (got == api.TImag) != (kind != api.TImag) || got != 0 && got != api.TImag {
		t.Fatalf("P5.2: %q is %d, with an i %d", s, kind, got)
	}
	if got, to, err := Scan(s, 0); got != kind || to != len(s) || err != api.OK {
		t.Fatalf("P5.2: Scan(%q, 0) = %d %d %v", s, got, to, err)
	}
}

func TestKindOfEveryByte(t *testing.T) {
	for b := range 256 {
		for _, form := range []string{"?", "1?", "?1", "0?", "0?1", "0x?", "0b?", "0o?", "0x?p1", "1?2", "1?i", "1.?", "1e?", "1e?1", "0x1p?", "0x1p?1", ".?", "1.5?"} {
			s := strings.ReplaceAll(form, "?", string([]byte{byte(b)}))
			if got, want := Kind(s), told(t, s); got != want {
				t.Errorf("P5.1: Kind(%q) = %d, not %d", s, got, want)
			}
		}
	}
}

// runEnd is where the run of a number that begins at a byte ends, by the words.
func runEnd(s string, at int) int {
	const inner = "abcdefghijklmnopqrstuvwxyzABCDEFGHIJKLMNOPQRSTUVWXYZ0123456789_."
	hex := strings.HasPrefix(s[at:], "0x") || strings.HasPrefix(s[at:], "0X")
	for to := at; to < len(s); to++ {
		behind := byte(0)
		if to > at {
			behind = s[to-1]
		}
		powered := !hex && (behind == 'e' || behind == 'E') || hex && (behind == 'p' || behind == 'P')
		switch {
		case strings.IndexByte(inner, s[to]) >= 0:
		case (s[to] == '+' || s[to] == '-') && powered:
		default:
			return to
		}
	}
	return len(s)
}

// checkScan holds Scan at all bytes of a text, and beside it, against the words.
func checkScan(t *testing.T, s string) {
	t.Helper()
	for at := -2; at <= len(s)+2; at++ {
		var kind uint8
		to, err := 0, api.ErrNone
		if at >= 0 && at < len(s) && regexpBegin.MatchString(s[at:]) {
			to = runEnd(s, at)
			kind, err = told(t, s[at:to]), api.OK
			if Kind(s[at:to]) != kind {
				t.Fatalf("P5.2: Kind(%q) is not %d", s[at:to], kind)
			}
			if kind == 0 {
				to, err = 0, api.ErrToken
			}
		}
		if k, n, e := Scan(s, at); k != kind || n != to || e != err {
			t.Fatalf("P5.1: Scan(%q, %d) = %d %d %v, not %d %d %v", s, at, k, n, e, kind, to, err)
		}
	}
	for _, at := range []int{math.MinInt, math.MinInt + 1, math.MaxInt - 1, math.MaxInt} {
		if k, n, e := Scan(s, at); k != 0 || n != 0 || e != api.ErrNone {
			t.Fatalf("P5.1: Scan(%q, %d) = %d %d %v", s, at, k, n, e)
		}
	}
}

var regexpBegin = regexp.MustCompile(`\A\.?[0-9]`)

func TestScanOfAllShortTexts(t *testing.T) {
	texts("01e+p-x._ \xc3", 4, func(s string) { checkScan(t, s) })
	texts("0x1ep+", 6, func(s string) { checkScan(t, s) })
	texts("1.8i;", 5, func(s string) { checkScan(t, s) })
}

func TestScanOfExamples(t *testing.T) {
	for _, x := range []struct {
		s    string
		at   int
		kind uint8
		to   int
		err  api.Errno
	}{
		{"a+1.5e+3;", 2, api.TFloat, 8, api.OK},
		{"a+1.5e+3;", 4, api.TFloat, 8, api.OK},
		{"a+1.5e+3;", 3, api.TFloat, 8, api.OK},
		{"a+1.5e+3;", 1, 0, 0, api.ErrNone},
		{"0x1e+3", 0, api.TInt, 4, api.OK},
		{"0X1E-3", 0, api.TInt, 4, api.OK},
		{"0x1p+3", 0, api.TFloat, 6, api.OK},
		{"0X1P-3+1", 0, api.TFloat, 6, api.OK},
		{"x1p+3", 1, 0, 0, api.ErrToken},
		{"1e++3", 0, 0, 0, api.ErrToken},
		{"1e+3e+4", 0, 0, 0, api.ErrToken},
		{"00x1e+3", 0, 0, 0, api.ErrToken},
		{"0b1e+3", 0, 0, 0, api.ErrToken},
		{"1x", 0, 0, 0, api.ErrToken},
		{"1..2", 0, 0, 0, api.ErrToken},
		{"1.x", 0, 0, 0, api.ErrToken},
		{"08", 0, 0, 0, api.ErrToken},
		{"08", 1, api.TInt, 2, api.OK},
		{".a", 0, 0, 0, api.ErrNone},
		{"..5", 0, 0, 0, api.ErrNone},
		{"..5", 1, api.TFloat, 3, api.OK},
		{".", 0, 0, 0, api.ErrNone},
		{"1é", 0, api.TInt, 1, api.OK},
		{"1٣", 0, api.TInt, 1, api.OK},
		{"٣", 0, 0, 0, api.ErrNone},
		{".٣", 0, 0, 0, api.ErrNone},
		{"[2i]", 1, api.TImag, 3, api.OK},
		{"1-2", 0, api.TInt, 1, api.OK},
		{"", 0, 0, 0, api.ErrNone},
	} {
		if k, n, e := Scan(x.s, x.at); k != x.kind || n != x.to || e != x.err {
			t.Errorf("P5.1: Scan(%q, %d) = %d %d %v", x.s, x.at, k, n, e)
		}
		checkScan(t, x.s)
	}
}

func TestScanOfEveryByte(t *testing.T) {
	for b := range 256 {
		for _, form := range []string{"?", "1?", "?1", ".?", "1e?3", "1E?3", "0x1p?3", "0x1P?3", "0x1e?3", "1p?3", "08?", "1.5?."} {
			checkScan(t, strings.ReplaceAll(form, "?", string([]byte{byte(b)})))
		}
	}
}

func TestLongNumbers(t *testing.T) {
	const n = 200000
	for s, kind := range map[string]uint8{
		strings.Repeat("9", n):                api.TInt,
		strings.Repeat("0", n):                api.TInt,
		strings.Repeat("0", n) + "8":          0,
		strings.Repeat("1_", n) + "1":         api.TInt,
		strings.Repeat("1_", n):               0,
		"0x" + strings.Repeat("fF", n):        api.TInt,
		"." + strings.Repeat("0", n) + "e1":   api.TFloat,
		"1e" + strings.Repeat("1", n) + "i":   api.TImag,
		"1" + strings.Repeat("e+", n):         0,
		strings.Repeat("i", n):                0,
		"0x1p" + strings.Repeat("0", n) + "i": api.TImag,
	} {
		if got := Kind(s); got != kind {
			t.Errorf("P5.1: Kind of %q.. (%d bytes) = %d", s[:3], len(s), got)
		}
	}
	s := strings.Repeat("1+", n)
	if k, to, e := Scan(s, n); k != api.TInt || to != n+1 || e != api.OK {
		t.Errorf("P5.1: Scan = %d %d %v", k, to, e)
	}
}

func TestNumberIsTheSameTwice(t *testing.T) {
	room := []byte("0x1p+3")
	for n := range len(room) + 1 {
		s := string(room[:n])
		k, to, e := Scan(s, 0)
		if k2, to2, e2 := Scan(s, 0); k2 != k || to2 != to || e2 != e || Kind(s) != Kind(s) {
			t.Errorf("R2: %q", s)
		}
	}
	if got := Kind(string(room[:3])); got != api.TInt {
		t.Errorf("R3: what stands behind the end is read: %d", got)
	}
	if k, to, e := Scan("0x1p+3"[:3], 0); k != api.TInt || to != 3 || e != api.OK {
		t.Errorf("R3: what stands behind the end is read: %d %d %v", k, to, e)
	}
}
