package text

import (
	"math/big"
	"regexp"
	"slices"
	"strings"
	"testing"
	"unicode/utf8"

	"flagstone/api"
)

const reservedInDocument = "and, arms, attribute, bool, claims, contains, cool, cooling, default, draft, ends, exclude, exists, experiment, false, flag, holdout, in, include, is, layer, list, member, needs, not, number, off, on, or, rule, running, salt, segment, serve, settings, split, starts, stopped, target, text, to, true, until, variations, version, when"

// eachString calls visit with every string of at most length elements of alphabet.
func eachString(alphabet []string, length int, visit func(string)) {
	level := []string{""}
	for range length + 1 {
		var next []string
		for _, s := range level {
			visit(s)
			for _, element := range alphabet {
				next = append(next, s+element)
			}
		}
		level = next
	}
}

// P1.1

func TestReservedIsTheListOfTheDocument(t *testing.T) {
	got := Reserved()
	if want := strings.Split(reservedInDocument, ", "); !slices.Equal(got, want) {
		t.Fatalf("P1.1: Reserved() = %q, want %q", got, want)
	}
	for i := 1; i < len(got); i++ {
		if got[i-1] >= got[i] {
			t.Errorf("P1.1: %q is not less than %q", got[i-1], got[i])
		}
	}
}

func TestReservedIsNewMemory(t *testing.T) {
	l := Reserved()
	for i := range l {
		l[i] = "spoilt"
	}
	_ = append(l[:0], "longer")
	if got := strings.Join(Reserved(), ", "); got != reservedInDocument {
		t.Errorf("G2: Reserved() = %q after a change of its result", got)
	}
	if Key("and") || !Key("spoilt") {
		t.Error("G2: a change of the result of Reserved changes Key")
	}
}

func TestKeyOfReservedWords(t *testing.T) {
	for _, word := range strings.Split(reservedInDocument, ", ") {
		if Key(word) {
			t.Errorf("P1.1: Key(%q) is true", word)
		}
		for _, s := range []string{word + "-", word + "9", word + "_" + word} {
			if !Key(s) {
				t.Errorf("P1.1: Key(%q) is false", s)
			}
		}
	}
	for _, s := range []string{"an", "tru", "i", "o", "n", "key", "subject", "whe", "switch"} {
		if !Key(s) {
			t.Errorf("P1.1: Key(%q) is false", s)
		}
	}
}

func TestKeyOfEachByte(t *testing.T) {
	const letters, others = "abcdefghijklmnopqrstuvwxyz", "0123456789-_"
	for b := range 256 {
		c := string([]byte{byte(b)})
		if want := strings.Contains(letters, c); Key(c) != want || Key(c+"q7") != want {
			t.Errorf("P1.1: Key of the first byte %d is %v, want %v", b, Key(c), want)
		}
		want := strings.Contains(letters+others, c)
		for _, s := range []string{"q" + c, "q" + c + "q", "q-_7" + c} {
			if Key(s) != want {
				t.Errorf("P1.1: Key(%q) is %v, want %v", s, Key(s), want)
			}
		}
	}
}

func TestKeyLength(t *testing.T) {
	for n := range 3 * api.MaxKey {
		for _, s := range []string{strings.Repeat("k", n), strings.Repeat("z9-_", n)[:n]} {
			if want := 1 <= n && n <= 32; Key(s) != want {
				t.Errorf("P1.1: Key(%q) of %d bytes is %v", s, n, Key(s))
			}
		}
	}
}

func TestKeyExamples(t *testing.T) {
	if !Key("new-checkout") {
		t.Error("P1.1: Key(\"new-checkout\") is false")
	}
	for _, s := range []string{"on", "2x", "Beta", "", " a", "a ", "a.b", "a\n", "é", "aé", "a\uff41", "a\ufffd", "a\xff", "\u212a"} {
		if Key(s) {
			t.Errorf("P1.1: Key(%q) is true", s)
		}
	}
}

// P1.2

func TestValidOfEachByte(t *testing.T) {
	for b := range 256 {
		c := string([]byte{byte(b)})
		want := 32 <= b && b < 127
		for _, s := range []string{c, "x" + c, c + "x", "é" + c + "é", strings.Repeat("x", 199) + c} {
			if Valid(s) != want {
				t.Errorf("P1.2: Valid(%q) is %v, want %v", s, Valid(s), want)
			}
		}
	}
}

func TestValidOfEachRune(t *testing.T) {
	for r := rune(128); r <= utf8.MaxRune; r++ {
		if surrogate := 0xd800 <= r && r < 0xe000; !surrogate && !Valid(string(r)) {
			t.Errorf("P1.2: Valid of U+%04X is false", r)
		}
	}
}

func TestValidOfBrokenUTF8(t *testing.T) {
	broken := []string{
		"\x80", "\xbf", "\xc3", "\xc3x", "\xe2\x82", "\xf0\x9f\x98", "\xc3\xa9\xa9", // parts
		"\xc0\x80", "\xc1\xbf", "\xe0\x80\x80", "\xe0\x9f\xbf", "\xf0\x80\x80\x80", "\xf0\x8f\xbf\xbf", // longer than needed
		"\xed\xa0\x80", "\xed\xbf\xbf", "\xf4\x90\x80\x80", "\xf5\x80\x80\x80", "\xfe", "\xff", // no runes
	}
	for _, s := range broken {
		for _, s := range []string{s, "ab" + s, s + "cd", "\ufffd" + s} {
			if Valid(s) {
				t.Errorf("P1.2: Valid(%q) is true", s)
			}
		}
	}
	for _, s := range []string{"\ufffd", "a\ufffdb", "\ufeff", "\u0085", "\u2028"} {
		if !Valid(s) {
			t.Errorf("P1.2: Valid(%q) is false", s)
		}
	}
}

func TestValidLength(t *testing.T) {
	for s, want := range map[string]bool{
		"":                               true,
		strings.Repeat("x", 199):         true,
		strings.Repeat("x", 200):         true,
		strings.Repeat("x", 201):         false,
		strings.Repeat("é", 100):         true,
		strings.Repeat("é", 100) + "x":   false,
		strings.Repeat("é", 101):         false,
		strings.Repeat("\U0010ffff", 50): true,
		strings.Repeat("\U0010ffff", 51): false,
		strings.Repeat("x", 1<<20):       false,
	} {
		if Valid(s) != want {
			t.Errorf("P1.2: Valid of %d bytes is %v", len(s), Valid(s))
		}
	}
}

// P1.3

var (
	escapes = strings.NewReplacer("\"", "\\\"", "\\", "\\\\")
	quoted  = regexp.MustCompile(`(?s)^"((?:[^"\\]|\\["\\])*)"$`)
)

// unquoteByDocument is an implementation of Unquote that is independent of the package, but for Valid.
func unquoteByDocument(s string) (string, api.Errno) {
	parts := quoted.FindStringSubmatch(s)
	if parts == nil {
		return "", api.ErrSyntax
	}
	var plain []byte
	for i := 0; i < len(parts[1]); i++ {
		if parts[1][i] == '\\' {
			i++
		}
		plain = append(plain, parts[1][i])
	}
	if !Valid(string(plain)) {
		return "", api.ErrText
	}
	return string(plain), api.OK
}

func TestQuoteOfShortTexts(t *testing.T) {
	eachString([]string{"\"", "\\", "a", "é", " "}, 5, func(s string) {
		want := "\"" + escapes.Replace(s) + "\""
		if got, e := Quote(s); got != want || e != api.OK {
			t.Fatalf("P1.3: Quote(%q) = %q, %d, want %q", s, got, e, want)
		}
	})
}

func TestQuoteExamples(t *testing.T) {
	for s, want := range map[string]string{
		"":                       `""`,
		`a"b`:                    `"a\"b"`,
		`"`:                      `"\""`,
		`\`:                      `"\\"`,
		`\"`:                     `"\\\""`,
		`'`:                      `"'"`,
		"\u0080\ufffd\U0001f600": "\"\u0080\ufffd\U0001f600\"",
	} {
		if got, e := Quote(s); got != want || e != api.OK {
			t.Errorf("P1.3: Quote(%q) = %q, %d, want %q", s, got, e, want)
		}
	}
	for _, c := range []string{"\"", "\\"} {
		s := strings.Repeat(c, api.MaxText)
		if got, e := Quote(s); got != "\""+strings.Repeat("\\"+c, api.MaxText)+"\"" || e != api.OK {
			t.Errorf("P1.3: Quote of %d times %q = %q, %d", api.MaxText, c, got, e)
		}
	}
}

func TestQuoteErrors(t *testing.T) {
	for _, s := range []string{"\x00", "\x1f", "\n", "\x7f", "a\tb", "\xff", "\"\xff", "\xed\xa0\x80", strings.Repeat("x", 201), strings.Repeat("é", 101)} {
		if got, e := Quote(s); got != "" || e != api.ErrText {
			t.Errorf("P1.3: Quote(%q) = %q, %d", s, got, e)
		}
	}
}

func TestUnquoteOfShortStrings(t *testing.T) {
	check := func(s string) {
		want, wantE := unquoteByDocument(s)
		if got, e := Unquote(s); got != want || e != wantE {
			t.Fatalf("P1.3: Unquote(%q) = %q, %d, want %q, %d", s, got, e, want, wantE)
		}
	}
	eachString([]string{"\"", "\\", "a", "é", "\n", "\xff"}, 6, check)
	eachString([]string{"\"", "\\", "n", "\xc3", "\xa9"}, 5, func(s string) { check("\"" + s + "\"") })
}

func TestUnquoteSyntax(t *testing.T) {
	for _, s := range []string{
		``, `"`, `a`, `aa`, `a"`, `"a`, `'a'`, ` ""`, `"" `, `\""`,
		`"""`, `"a"b"`, `"\"`, `"\\\"`, `"\a"`, `"\n"`, `"\u0061"`, `"\x61"`, `"\'"`, `"\ "`, `"\é"`,
		"\"\\\xff\"", "\"\\\n\"", "`a`",
	} {
		if got, e := Unquote(s); got != "" || e != api.ErrSyntax {
			t.Errorf("P1.3: Unquote(%q) = %q, %d", s, got, e)
		}
	}
}

func TestUnquoteSyntaxComesBeforeText(t *testing.T) {
	long := strings.Repeat("x", 500)
	for _, s := range []string{"\"\n\\x\"", "\"\\x\n\"", "\"\xff\"\"", "\"\"\xff\"", "\"" + long + "\\\"", "\"" + long + "\"" + long + "\"", "\"" + long, long + "\""} {
		if got, e := Unquote(s); got != "" || e != api.ErrSyntax {
			t.Errorf("P1.3: Unquote(%q) = %q, %d", s, got, e)
		}
	}
}

func TestUnquoteText(t *testing.T) {
	for _, s := range []string{"\n", "\x00", "\x7f", "\xff", "a\xc3", "\xed\xa0\x80", "\xc3\\\"\xa9", "\\\\\n", strings.Repeat("x", 201), strings.Repeat("\\\"", 201), strings.Repeat("é", 101)} {
		if got, e := Unquote("\"" + s + "\""); got != "" || e != api.ErrText {
			t.Errorf("P1.3: Unquote of %q in quotation marks = %q, %d", s, got, e)
		}
	}
	for s, want := range map[string]string{
		`""`: "", `"a"`: "a", `"\""`: `"`, `"\\"`: `\`, `"\\\""`: `\"`, `"\\a\"b"`: `\a"b`, `" é "`: " é ",
		"\"" + strings.Repeat("\\\\", 200) + "\"": strings.Repeat("\\", 200),
		"\"" + strings.Repeat("x", 200) + "\"":    strings.Repeat("x", 200),
		"\"\ufffd\"":                              "\ufffd",
	} {
		if got, e := Unquote(s); got != want || e != api.OK {
			t.Errorf("P1.3: Unquote(%q) = %q, %d, want %q", s, got, e, want)
		}
	}
}

// P1.4

const (
	minInt = -1 << 63
	maxInt = 1<<63 - 1
)

var decimal = regexp.MustCompile(`^(0|-?[1-9][0-9]*)$`)

// parseByDocument is an implementation of ParseNumber that is independent of the package.
func parseByDocument(s string) (int, api.Errno) {
	if !decimal.MatchString(s) {
		return 0, api.ErrSyntax
	}
	n, _ := new(big.Int).SetString(s, 10)
	if n.CmpAbs(big.NewInt(1099511627776)) > 0 {
		return 0, api.ErrRange
	}
	return int(n.Int64()), api.OK
}

func checkParse(t *testing.T, s string) {
	t.Helper()
	want, wantE := parseByDocument(s)
	if got, e := ParseNumber(s); got != want || e != wantE {
		t.Fatalf("P1.4: ParseNumber(%q) = %d, %d, want %d, %d", s, got, e, want, wantE)
	}
}

func TestNumber(t *testing.T) {
	for n, want := range map[int]string{
		0: "0", 1: "1", -1: "-1", 9: "9", 10: "10", -40: "-40", 1234567890: "1234567890",
		1 << 40: "1099511627776", -1 << 40: "-1099511627776", 1<<40 + 1: "1099511627777",
		maxInt: "9223372036854775807", minInt: "-9223372036854775808", minInt + 1: "-9223372036854775807",
	} {
		if got := Number(n); got != want {
			t.Errorf("P1.4: Number(%d) = %q, want %q", n, got, want)
		}
	}
}

func TestParseNumberOfShortStrings(t *testing.T) {
	eachString([]string{"-", "+", "0", "1", "9", ".", "a", " "}, 5, func(s string) { checkParse(t, s) })
}

func TestParseNumberOfEachByte(t *testing.T) {
	for b := range 256 {
		c := string([]byte{byte(b)})
		for _, s := range []string{c, "1" + c, c + "1", "-" + c, "-1" + c, "9999999999999999999999" + c} {
			checkParse(t, s)
		}
	}
}

func TestParseNumberRange(t *testing.T) {
	for s, want := range map[string]int{"1099511627776": 1 << 40, "-1099511627776": -1 << 40, "1099511627775": 1<<40 - 1, "999999999999": 999999999999} {
		if got, e := ParseNumber(s); got != want || e != api.OK {
			t.Errorf("P1.4: ParseNumber(%q) = %d, %d", s, got, e)
		}
	}
	large := []string{
		"1099511627777", "1099511627780", "2000000000000", "9999999999999", "10995116277760", "10000000000000", "1000000000000000000",
		"9223372036854775807", "9223372036854775808", "18446744073709551615", "18446744073709551616", "18446744073709551617", "36893488147419103233",
		"1" + strings.Repeat("0", 1000), strings.Repeat("9", 1<<20),
	}
	for _, digits := range large {
		for _, s := range []string{digits, "-" + digits} {
			if got, e := ParseNumber(s); got != 0 || e != api.ErrRange {
				t.Errorf("P1.4: ParseNumber of %d bytes that begin with %.30q = %d, %d", len(s), s, got, e)
			}
		}
		for _, s := range []string{"0" + digits, "+" + digits, digits + "a", digits + " ", "--" + digits, digits + "-", digits + "\x00"} {
			if got, e := ParseNumber(s); got != 0 || e != api.ErrSyntax {
				t.Errorf("P1.4: ParseNumber of %d bytes that begin with %.30q = %d, %d", len(s), s, got, e)
			}
		}
	}
}

func TestParseNumberSyntax(t *testing.T) {
	for _, s := range []string{"", "-", "--", "-0", "007", "-07", "00", "-00", "+1", "+0", "--1", "1-", "-1-", " 1", "1 ", "- 1", "1.0", ".5", "0x1", "0b1", "1e3", "1_0", "1,000", "١", "1\n", "１", "\xff", "-a"} {
		if got, e := ParseNumber(s); got != 0 || e != api.ErrSyntax {
			t.Errorf("P1.4: ParseNumber(%q) = %d, %d", s, got, e)
		}
	}
}

// P1.5

func TestQuoteAndUnquoteAreInverse(t *testing.T) {
	check := func(s string) {
		if q, e := Quote(s); e == api.OK {
			if back, e := Unquote(q); back != s || e != api.OK {
				t.Fatalf("P1.5: Unquote(Quote(%q)) = %q, %d", s, back, e)
			}
		} else if Valid(s) {
			t.Fatalf("P1.5: Quote(%q) returns the error %d", s, e)
		}
		if plain, e := Unquote(s); e == api.OK {
			if back, e := Quote(plain); back != s || e != api.OK {
				t.Fatalf("P1.5: Quote(Unquote(%q)) = %q, %d", s, back, e)
			}
		}
	}
	eachString([]string{"\"", "\\", "a", "é", "\ufffd", "\n"}, 6, check)
	for r := range rune(utf8.MaxRune + 1) {
		check(string(r))
		check("\"" + string(r) + "\"")
	}
	for n := range 2 * api.MaxText {
		check(strings.Repeat("\\\"a", n)[:n])
		check("\"" + strings.Repeat("\\\\", n) + "\"")
	}
}

func TestNumberAndParseNumberAreInverse(t *testing.T) {
	check := func(n int) {
		got, e := ParseNumber(Number(n))
		switch inside := -api.MaxNumber <= n && n <= api.MaxNumber; {
		case inside && (got != n || e != api.OK):
			t.Fatalf("P1.5: ParseNumber(Number(%d)) = %d, %d", n, got, e)
		case !inside && (got != 0 || e != api.ErrRange):
			t.Fatalf("P1.4: ParseNumber(Number(%d)) = %d, %d", n, got, e)
		}
	}
	for _, center := range []int{0, api.MaxNumber, -api.MaxNumber, 1 << 20, -1 << 31, 1 << 53, 1e11, -1e12} {
		for d := -1000; d <= 1000; d++ {
			check(center + d)
		}
	}
	for shift := range 64 {
		check(1 << shift)
		check(-1 << shift)
	}
	check(maxInt)
	check(minInt)
	for n := -api.MaxNumber; n <= api.MaxNumber; n += 7777777 {
		check(n)
	}
}

func FuzzText(f *testing.F) {
	for _, s := range []string{"", "new-checkout", "\"a\\\"b\"", "-0", "1099511627777", "\"\\", "\xff"} {
		f.Add(s)
	}
	f.Fuzz(func(t *testing.T, s string) {
		want, wantE := unquoteByDocument(s)
		if got, e := Unquote(s); got != want || e != wantE {
			t.Errorf("P1.3: Unquote(%q) = %q, %d, want %q, %d", s, got, e, want, wantE)
		}
		if Valid(s) {
			q, _ := Quote(s)
			if back, e := Unquote(q); back != s || e != api.OK {
				t.Errorf("P1.5: Unquote(Quote(%q)) = %q, %d", s, back, e)
			}
		}
		checkParse(t, s)
	})
}
