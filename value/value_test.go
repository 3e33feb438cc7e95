package value

import (
	"cmp"
	"fmt"
	"math"
	"math/big"
	"math/rand"
	"reflect"
	"regexp"
	"slices"
	"strings"
	"testing"
	"unicode/utf8"

	"flagstone/api"
	"flagstone/text"
)

func truth(n int) api.Value          { return api.Value{Kind: api.Bool, Number: n} }
func number(n int) api.Value         { return api.Value{Kind: api.Number, Number: n} }
func textValue(s string) api.Value   { return api.Value{Kind: api.Text, Text: s} }
func version(s string) api.Value     { return api.Value{Kind: api.Version, Text: s} }
func list(texts ...string) api.Value { return api.Value{Kind: api.List, List: texts} }
func sameValue(a, b api.Value) bool  { return show(a) == show(b) }
func show(v api.Value) string        { return fmt.Sprintf("{%d %d %q %q}", v.Kind, v.Number, v.Text, v.List) }
func isZero(v api.Value) bool        { return reflect.DeepEqual(v, api.Value{}) }
func quoteAll(texts []string) string { return "[" + strings.Join(quoteEach(texts), ", ") + "]" }

func isValidText(s string) bool {
	return len(s) <= 200 && utf8.ValidString(s) && !controls.MatchString(s)
}

func isVersion(s string) bool         { return versions.MatchString(s) }
func isNumber(n int) bool             { return -1099511627776 <= n && n <= 1099511627776 }
func isAscending(texts []string) bool { return slices.IsSorted(texts) && !hasTwice(texts) }

func hasTwice(texts []string) bool {
	seen := map[string]bool{}
	for _, s := range texts {
		if seen[s] {
			return true
		}
		seen[s] = true
	}
	return false
}

func quoteEach(texts []string) []string {
	var quoted []string
	for _, s := range texts {
		quoted = append(quoted, "\""+escapes.Replace(s)+"\"")
	}
	return quoted
}

var (
	controls = regexp.MustCompile(`[\x00-\x1f\x7f]`)
	versions = regexp.MustCompile(`\A(0|[1-9][0-9]{0,5})\.(0|[1-9][0-9]{0,5})\.(0|[1-9][0-9]{0,5})\z`)
	decimal  = regexp.MustCompile(`\A(0|-?[1-9][0-9]*)\z`)
	quoted   = regexp.MustCompile(`"(?:[^"\\]|\\["\\])*"`)
	quotedIn = regexp.MustCompile(`\A` + quoted.String() + `\z`)
	listIn   = regexp.MustCompile(`\A\[(?:` + quoted.String() + `(?:, ` + quoted.String() + `)*)?\]\z`)
	escapes  = strings.NewReplacer("\"", "\\\"", "\\", "\\\\")
	plains   = strings.NewReplacer("\\\"", "\"", "\\\\", "\\")
)

// distinct returns n ascending texts.
func distinct(n int) []string {
	texts := make([]string, n)
	for i := range texts {
		texts[i] = fmt.Sprintf("t%04d", i)
	}
	return texts
}

// wantCheck reads P3.1 literally.
func wantCheck(v api.Value) api.Errno {
	if v.Kind < 1 || v.Kind > 5 {
		return api.ErrKind
	}
	used := map[int]string{1: "Number", 2: "Number", 3: "Text", 4: "Text", 5: "List"}[v.Kind]
	rules := []struct {
		applies bool
		e       api.Errno
	}{
		{used != "Number" && v.Number != 0 || used != "Text" && v.Text != "" || used != "List" && len(v.List) > 0, api.ErrShape},
		{v.Kind == 1 && v.Number != 0 && v.Number != 1 || v.Kind == 2 && !isNumber(v.Number), api.ErrRange},
		{v.Kind == 3 && !isValidText(v.Text), api.ErrText},
		{v.Kind == 4 && !isVersion(v.Text), api.ErrSyntax},
		{v.Kind == 5 && len(v.List) > 20, api.ErrTooMany},
		{v.Kind == 5 && !allValid(v.List), api.ErrText},
		{v.Kind == 5 && !isAscending(v.List), api.ErrOrder},
	}
	for _, rule := range rules {
		if rule.applies {
			return rule.e
		}
	}
	return api.OK
}

func allValid(texts []string) bool {
	return !slices.ContainsFunc(texts, func(s string) bool { return !isValidText(s) })
}

// wantParse reads P3.3 literally, by the grammar of the source form.
func wantParse(s string) (api.Value, api.Errno) {
	var v api.Value
	switch {
	case s == "true":
		v = truth(1)
	case s == "false":
		v = truth(0)
	case decimal.MatchString(s):
		n, _ := new(big.Int).SetString(s, 10)
		if !n.IsInt64() {
			return api.Value{}, api.ErrSyntax
		}
		v = number(int(n.Int64()))
	case isVersion(s):
		v = version(s)
	case quotedIn.MatchString(s):
		v = textValue(plains.Replace(s[1 : len(s)-1]))
	case listIn.MatchString(s):
		v = list()
		for _, q := range quoted.FindAllString(s, -1) {
			v.List = append(v.List, plains.Replace(q[1:len(q)-1]))
		}
	}
	if wantCheck(v) != api.OK {
		return api.Value{}, api.ErrSyntax
	}
	return v, api.OK
}

// wantFormat reads P3.3 literally.
func wantFormat(v api.Value) (string, api.Errno) {
	if e := wantCheck(v); e != api.OK {
		return "", e
	}
	return map[int]string{
		1: fmt.Sprint(v.Number == 1),
		2: fmt.Sprint(v.Number),
		3: "\"" + escapes.Replace(v.Text) + "\"",
		4: v.Text,
		5: quoteAll(v.List),
	}[v.Kind], api.OK
}

// fields contains numbers, texts and lists, at and beyond the limits, from which values of every Kind are put together.
var (
	kinds   = []int{math.MinInt, -1, 0, 1, 2, 3, 4, 5, 6, 7, 256 + 1, 1<<32 + 1, math.MaxInt}
	numbers = []int{0, 1, -1, 2, 255, 1 << 20, 1<<40 - 1, 1 << 40, 1<<40 + 1, -1<<40 + 1, -1 << 40, -1<<40 - 1, 1<<63 - 1, -1 << 63}
	texts   = []string{
		"", "a", "\"", "\\", " ", "~", "é", "\ufffd", "\n", "\x1f", "\x7f", "\xff", "a\xc3",
		strings.Repeat("x", 200), strings.Repeat("x", 201), strings.Repeat("é", 100), strings.Repeat("é", 101),
		"true", "1", "-0", "1.2.3", "0.0.0", "999999.999999.999999", "1000000.0.0", "01.2.3", "1.2", "1.2.3.4", "1.-2.3",
	}
	lists = [][]string{
		nil, {}, {""}, {"a"}, {"", "a"}, {"a", ""}, {"a", "a"}, {"a", "b", "b"}, {"b", "a"}, {"B", "a", "é"}, {"a", "b", "c", "aa"},
		{"\n"}, {"b", "a", "\n"}, {"\xff", "a"}, {"a", strings.Repeat("x", 201)}, {"\", \"", "\"]", "\\"},
		distinct(19), distinct(20), distinct(21), distinct(1000), append(distinct(20), "\n"), append(distinct(19), "\n"),
		append(distinct(20), "a"), append(distinct(19), "a"),
	}
)

// eachValue calls visit with every combination of the fields.
func eachValue(visit func(api.Value)) {
	for _, kind := range kinds {
		for _, n := range numbers {
			for _, s := range texts {
				for _, l := range lists {
					visit(api.Value{Kind: kind, Number: n, Text: s, List: l})
				}
			}
		}
	}
}

// samples returns values of each Kind, and some that are not valid.
func samples() []api.Value {
	samples := []api.Value{{}, {Kind: 6}, {Kind: api.Bool, Text: "x"}, {Kind: api.Text, Text: "a", List: []string{"a"}}, {Kind: api.List, Number: 1}}
	for _, n := range numbers {
		samples = append(samples, truth(n), number(n))
	}
	for _, s := range texts {
		samples = append(samples, textValue(s), version(s))
	}
	for _, l := range lists {
		samples = append(samples, list(l...))
	}
	return samples
}

// eachString calls visit with every string of at most length elements of alphabet.
func eachString(alphabet []string, length int, visit func(string)) {
	visit("")
	if length == 0 {
		return
	}
	for _, element := range alphabet {
		eachString(alphabet, length-1, func(s string) { visit(element + s) })
	}
}

// P3.1

func TestCheckOfAllCombinationsOfFields(t *testing.T) {
	seen := map[api.Errno]int{}
	eachValue(func(v api.Value) {
		want := wantCheck(v)
		if got := Check(v); got != want {
			t.Fatalf("P3.1: Check(%s) = %d, want %d", show(v), got, want)
		}
		seen[want]++
	})
	for _, e := range []api.Errno{api.OK, api.ErrKind, api.ErrShape, api.ErrRange, api.ErrText, api.ErrSyntax, api.ErrTooMany, api.ErrOrder} {
		if seen[e] == 0 {
			t.Errorf("P3.1: no combination has the result %d", e)
		}
	}
}

func TestCheckOrderOfErrors(t *testing.T) {
	for _, c := range []struct {
		v    api.Value
		want api.Errno
	}{
		{api.Value{Kind: 0, Number: 1, Text: "\n", List: distinct(21)}, api.ErrKind},
		{api.Value{Kind: 6, Text: "\n"}, api.ErrKind},
		{api.Value{Kind: api.Bool, Number: 2, Text: "x"}, api.ErrShape},
		{api.Value{Kind: api.Number, Number: 1<<40 + 1, List: []string{""}}, api.ErrShape},
		{api.Value{Kind: api.Text, Number: -1, Text: "\n"}, api.ErrShape},
		{api.Value{Kind: api.Version, Text: "x", List: []string{"a"}}, api.ErrShape},
		{api.Value{Kind: api.List, Text: "x", List: distinct(21)}, api.ErrShape},
		{list(append([]string{"\n", "z"}, distinct(20)...)...), api.ErrTooMany},
		{list("b", "a", "\n"), api.ErrText},
		{list("a", "a"), api.ErrOrder},
		{version(strings.Repeat("1", 300) + ".0.0"), api.ErrSyntax},
		{version("\n"), api.ErrSyntax},
	} {
		if got := Check(c.v); got != c.want {
			t.Errorf("P3.1: Check(%s) = %d, want %d", show(c.v), got, c.want)
		}
	}
}

func TestCheckOfEmptyLists(t *testing.T) {
	for _, v := range []api.Value{truth(1), number(7), textValue("a"), version("1.2.3"), list()} {
		for _, l := range [][]string{nil, {}, make([]string, 0, 5)} {
			v.List = l
			if e := Check(v); e != api.OK {
				t.Errorf("G3: Check(%s) with an empty list = %d", show(v), e)
			}
		}
	}
}

func TestCheckOfShortVersions(t *testing.T) {
	valid := 0
	eachString([]string{"0", "1", "9", ".", "-"}, 7, func(s string) {
		want := api.ErrSyntax
		if isVersion(s) {
			want = api.OK
			valid++
		}
		if got := Check(version(s)); got != want {
			t.Fatalf("P3.1: Check(%s) = %d, want %d", show(version(s)), got, want)
		}
	})
	if valid == 0 {
		t.Error("P3.1: no string is a version")
	}
}

func TestCheckOfVersionParts(t *testing.T) {
	for part, want := range map[string]api.Errno{
		"0": api.OK, "7": api.OK, "10": api.OK, "99999": api.OK, "999999": api.OK, "100000": api.OK,
		"1000000": api.ErrSyntax, "9999999": api.ErrSyntax, "1099511627776": api.ErrSyntax, "18446744073709551616": api.ErrSyntax,
		"": api.ErrSyntax, "00": api.ErrSyntax, "01": api.ErrSyntax, "-0": api.ErrSyntax, "-1": api.ErrSyntax, "+1": api.ErrSyntax, "--1": api.ErrSyntax,
		" 1": api.ErrSyntax, "1 ": api.ErrSyntax, "1_0": api.ErrSyntax, "0x1": api.ErrSyntax, "1e1": api.ErrSyntax, "a": api.ErrSyntax, "١": api.ErrSyntax, "1\n": api.ErrSyntax, "\xff": api.ErrSyntax, "1,0": api.ErrSyntax,
	} {
		for _, s := range []string{part + ".2.3", "1." + part + ".3", "1.2." + part} {
			if got := Check(version(s)); got != want {
				t.Errorf("P3.1: Check(%s) = %d, want %d", show(version(s)), got, want)
			}
		}
	}
	for _, s := range []string{"", ".", "..", "...", "1", "1.2", "1.2.", ".1.2", "1..2", "1.2.3.", ".1.2.3", "1.2.3.4", "1.2.3.4.5", "v1.2.3", "1.2.3-rc", strings.Repeat("1.", 1<<20)} {
		if got := Check(version(s)); got != api.ErrSyntax {
			t.Errorf("P3.1: Check of the version %.40q = %d", s, got)
		}
	}
}

func TestCheckOfTextsIsThatOfLayerText(t *testing.T) {
	for b := range 256 {
		for _, s := range []string{string([]byte{byte(b)}), "x" + string([]byte{byte(b)}) + "y"} {
			want := api.OK
			if !text.Valid(s) {
				want = api.ErrText
			}
			for _, v := range []api.Value{textValue(s), list(s), list("", s)} {
				if got := Check(v); got != want {
					t.Errorf("P3.1: Check(%s) = %d, want %d", show(v), got, want)
				}
			}
		}
	}
}

// P3.2

func TestEqualOfSamples(t *testing.T) {
	all := samples()
	for _, a := range all {
		for _, b := range all {
			if got, want := Equal(a, b), sameValue(a, b); got != want {
				t.Errorf("P3.2: Equal(%s, %s) is %v", show(a), show(b), got)
			}
		}
	}
}

func TestEqualOfEachField(t *testing.T) {
	base := api.Value{Kind: 9, Number: 8, Text: "x", List: []string{"b", "a"}}
	others := []api.Value{base, base, base, base, base, base, base}
	others[0].Kind = 10
	others[1].Number = 8 + 1<<32
	others[2].Text = "X"
	others[3].List = []string{"b", "A"}
	others[4].List = []string{"a", "b"}
	others[5].List = []string{"b"}
	others[6].List = []string{"b", "a", ""}
	for _, v := range others {
		if Equal(base, v) || Equal(v, base) {
			t.Errorf("P3.2: Equal(%s, %s) is true", show(base), show(v))
		}
	}
	if !Equal(base, api.Value{Kind: 9, Number: 8, Text: "x", List: []string{"b", "a"}}) {
		t.Error("P3.2: Equal of two equal values that are not valid is false")
	}
	if !Equal(list(), api.Value{Kind: api.List, List: []string{}}) || !Equal(api.Value{List: []string{}}, api.Value{}) {
		t.Error("G3: Equal of a nil and an empty list is false")
	}
}

// wantCompare reads P3.2 literally.
func wantCompare(a, b api.Value) (int, api.Errno) {
	if e := wantCheck(a); e != api.OK {
		return 0, e
	}
	if e := wantCheck(b); e != api.OK {
		return 0, e
	}
	if a.Kind != b.Kind || a.Kind == api.Bool || a.Kind == api.List {
		return 0, api.ErrType
	}
	switch a.Kind {
	case api.Number:
		return cmp.Compare(a.Number, b.Number), api.OK
	case api.Text:
		return slices.Compare([]byte(a.Text), []byte(b.Text)), api.OK
	}
	var p, q [3]int
	fmt.Sscanf(a.Text, "%d.%d.%d", &p[0], &p[1], &p[2])
	fmt.Sscanf(b.Text, "%d.%d.%d", &q[0], &q[1], &q[2])
	weight := func(p [3]int) int { return (p[0]*1000000+p[1])*1000000 + p[2] }
	return cmp.Compare(weight(p), weight(q)), api.OK
}

func TestCompareOfSamples(t *testing.T) {
	all := append(samples(), version("1.10.0"), version("1.9.7"), version("1.2.4"), version("0.999999.0"), textValue("B"), textValue("aa"))
	for _, a := range all {
		for _, b := range all {
			want, wantE := wantCompare(a, b)
			if got, e := Compare(a, b); got != want || e != wantE {
				t.Errorf("P3.2: Compare(%s, %s) = %d, %d, want %d, %d", show(a), show(b), got, e, want, wantE)
			}
		}
	}
}

func TestCompareOrderOfErrors(t *testing.T) {
	for _, c := range []struct {
		a, b api.Value
		want api.Errno
	}{
		{api.Value{Kind: 6}, version("x"), api.ErrKind},
		{version("x"), api.Value{Kind: 6}, api.ErrSyntax},
		{number(1), api.Value{Kind: 6}, api.ErrKind},
		{number(1), textValue("\n"), api.ErrText},
		{truth(2), truth(0), api.ErrRange},
		{truth(0), truth(2), api.ErrRange},
		{list("b", "a"), list(), api.ErrOrder},
		{list(), list("b", "a"), api.ErrOrder},
		{truth(0), truth(1), api.ErrType},
		{truth(1), truth(1), api.ErrType},
		{truth(1), number(1), api.ErrType},
		{number(1), truth(1), api.ErrType},
		{list(), list(), api.ErrType},
		{list("a"), list("b"), api.ErrType},
		{textValue("1.0.0"), version("1.0.0"), api.ErrType},
		{version("1.0.0"), textValue("1.0.0"), api.ErrType},
	} {
		if got, e := Compare(c.a, c.b); got != 0 || e != c.want {
			t.Errorf("P3.2: Compare(%s, %s) = %d, %d, want the error %d", show(c.a), show(c.b), got, e, c.want)
		}
	}
}

// P3.3

func TestFormatOfAllCombinationsOfFields(t *testing.T) {
	eachValue(func(v api.Value) {
		want, wantE := wantFormat(v)
		if got, e := Format(v); got != want || e != wantE {
			t.Fatalf("P3.3: Format(%s) = %q, %d, want %q, %d", show(v), got, e, want, wantE)
		}
	})
}

var sources = map[string]api.Value{
	"true": truth(1), "false": truth(0),
	"0": number(0), "-1": number(-1), "1099511627776": number(1 << 40), "-1099511627776": number(-1 << 40),
	`""`: textValue(""), `"a\"b"`: textValue(`a"b`), `"\\"`: textValue(`\`), `"é, "`: textValue("é, "), `"true"`: textValue("true"), `"1.2.3"`: textValue("1.2.3"), `"[]"`: textValue("[]"),
	"0.0.0": version("0.0.0"), "1.10.0": version("1.10.0"), "999999.999999.999999": version("999999.999999.999999"),
	"[]": list(), `[""]`: list(""), `["a", "b"]`: list("a", "b"), `["", "\"", "\", \"", "\"]", "]"]`: list("", `"`, `", "`, `"]`, "]"), `["\\", "é"]`: list(`\`, "é"),
}

func TestSourceForms(t *testing.T) {
	for s, v := range sources {
		if got, e := Format(v); got != s || e != api.OK {
			t.Errorf("P3.3: Format(%s) = %q, %d, want %q", show(v), got, e, s)
		}
		if got, e := Parse(s); !sameValue(got, v) || e != api.OK {
			t.Errorf("P3.3: Parse(%q) = %s, %d, want %s", s, show(got), e, show(v))
		}
	}
}

func checkParse(t *testing.T, s string) {
	t.Helper()
	want, wantE := wantParse(s)
	got, e := Parse(s)
	if !sameValue(got, want) || e != wantE {
		t.Fatalf("P3.3: Parse(%q) = %s, %d, want %s, %d", s, show(got), e, show(want), wantE)
	}
	if e != api.OK {
		if !isZero(got) {
			t.Fatalf("G4: Parse(%q) = %#v with an error", s, got)
		}
		return
	}
	if back, e := Format(got); back != s || e != api.OK {
		t.Fatalf("P3.3: Format(Parse(%q)) = %q, %d", s, back, e)
	}
}

func TestParseOfShortStrings(t *testing.T) {
	eachString([]string{"0", "1", "9", "-", ".", "t"}, 6, func(s string) { checkParse(t, s) })
	eachString([]string{"\"", "\\", "a", "[", "]", ", ", ",", " "}, 5, func(s string) { checkParse(t, s) })
	eachString([]string{"\"\"", "\"a\"", "\"\\\"", "[", "]", ", ", "\n", "1"}, 5, func(s string) { checkParse(t, s) })
	eachString([]string{"\"", "\\", "a", ", ", "\"]"}, 6, func(s string) { checkParse(t, "[\""+s+"\"]") })
}

// TestParseOfChangedSources removes, repeats and replaces each byte of each source form.
func TestParseOfChangedSources(t *testing.T) {
	for s := range sources {
		for i := range len(s) + 1 {
			for b := range 256 {
				c := string([]byte{byte(b)})
				checkParse(t, s[:i]+c+s[i:])
				if i < len(s) {
					checkParse(t, s[:i]+c+s[i+1:])
				}
			}
			checkParse(t, s[:i])
			checkParse(t, s[i:])
			if i < len(s) {
				checkParse(t, s[:i]+s[i+1:])
			}
		}
	}
}

func TestParseSyntax(t *testing.T) {
	for _, s := range []string{
		"", " ", "True", "TRUE", "tru", "truee", "false ", "yes", "a", "null",
		"-", "-0", "007", "+1", "1099511627777", "-1099511627777", "18446744073709551616", "1e3", "0x1", "1_0",
		"1.02.3", "1.2", "1.2.3.4", ".", "1.", "1.5", "-1.2.3", "1000000.0.0",
		`"`, `"a`, `a"`, `'a'`, `"a"b"`, `"\"`, `"\n"`, "\"\n\"", "\"\x7f\"", "\"\xff\"", `"a" `, `"a""b"`, `"a", "b"`,
		"[", "]", "[,]", "[ ]", "[]]", "[[]]", "[][]", "[] ", " []", `["a"`, `"a"]`, `["a", ]`, `["a",]`, `[, "a"]`, `["a","b"]`, `["a",  "b"]`, `["a" , "b"]`, `[ "a"]`, `["a" ]`, `["a"]]`, `["a"]"`, `["a", "b"`, `["a", "b`, `["a", `, `["a"`, `["a"; "b"]`, `["a"]["b"]`,
		`["b", "a"]`, `["a", "a"]`, `["", ""]`, `["\"]`, `["\a"]`, "[\"\n\"]", "[\"a\", \"\xff\"]", `[1]`, `[true]`, `["a", 1]`, `[["a"]]`, `["a", 1.2.3]`,
		`["` + strings.Repeat("x", 201) + `"]`, `"` + strings.Repeat("x", 201) + `"`, strings.Repeat("[", 1<<16), strings.Repeat(`["a", `, 1<<16),
		quoteAll(distinct(21)), quoteAll(distinct(1 << 16)),
	} {
		if got, e := Parse(s); !isZero(got) || e != api.ErrSyntax {
			t.Errorf("P3.3: Parse(%.60q) = %s, %d", s, show(got), e)
		}
	}
}

func TestParseLimits(t *testing.T) {
	long := strings.Repeat("\"", 200)
	for _, v := range []api.Value{textValue(long), list(distinct(20)...), list("", long), list(long, "\""+strings.Repeat("é", 99))} {
		s, e := Format(v)
		if e != api.OK {
			t.Fatalf("P3.3: Format(%s) returns the error %d", show(v), e)
		}
		if got, e := Parse(s); !sameValue(got, v) || e != api.OK {
			t.Errorf("P3.3: Parse(%q) = %s, %d", s, show(got), e)
		}
	}
	for n := range 25 {
		checkParse(t, quoteAll(distinct(n)))
	}
}

// P3.4

func TestPart(t *testing.T) {
	for s, want := range map[string][3]int{"0.0.0": {}, "1.10.7": {1, 10, 7}, "12.0.999999": {12, 0, 999999}, "999999.1.0": {999999, 1, 0}} {
		for i := range 3 {
			if got, e := Part(s, i); got != want[i] || e != api.OK {
				t.Errorf("P3.4: Part(%q, %d) = %d, %d", s, i, got, e)
			}
		}
		for _, i := range []int{-1, 3, 4, 1 << 32, math.MaxInt, math.MinInt} {
			if got, e := Part(s, i); got != 0 || e != api.ErrRange {
				t.Errorf("P3.4: Part(%q, %d) = %d, %d", s, i, got, e)
			}
		}
	}
	for _, s := range []string{"", "1.2", "1.2.3.4", "1.02.3", "1.2.1000000", "1.2.-3", "1.2.x", "x.2.3", "\"1.2.3\"", "1.2.3 "} {
		for _, i := range []int{0, 1, 2, -1, 3, math.MaxInt, math.MinInt} {
			if got, e := Part(s, i); got != 0 || e != api.ErrSyntax {
				t.Errorf("P3.4: Part(%q, %d) = %d, %d", s, i, got, e)
			}
		}
	}
}

func TestTypes(t *testing.T) {
	names := map[int]string{1: "bool", 2: "number", 3: "text", 4: "version", 5: "list"}
	for kind := -300; kind <= 300; kind++ {
		if got := TypeName(kind); got != names[kind] {
			t.Errorf("P3.4: TypeName(%d) = %q", kind, got)
		}
	}
	for _, kind := range []int{math.MinInt, math.MaxInt, 1<<32 + 1, 1<<8 + 2} {
		if got := TypeName(kind); got != "" {
			t.Errorf("P3.4: TypeName(%d) = %q", kind, got)
		}
	}
	for kind, name := range names {
		if got := TypeOf(name); got != kind {
			t.Errorf("P3.4: TypeOf(%q) = %d", name, got)
		}
		for _, s := range []string{strings.ToUpper(name), name + "s", name[1:], " " + name, name + "\x00", strings.ToUpper(name[:1]) + name[1:]} {
			if got := TypeOf(s); got != 0 {
				t.Errorf("P3.4: TypeOf(%q) = %d", s, got)
			}
		}
	}
	for _, s := range []string{"", "0", "1", "boolean", "string", "true"} {
		if got := TypeOf(s); got != 0 {
			t.Errorf("P3.4: TypeOf(%q) = %d", s, got)
		}
	}
}

// P3.5

// randomText returns a text, mostly of those characters on which the source form depends.
func randomText(r *rand.Rand) string {
	alphabet := []string{"\"", "\\", "a", "b", ", ", "[", "]", "é", "\U0001f600", " ", "."}
	var s strings.Builder
	for range r.Intn(8) {
		s.WriteString(alphabet[r.Intn(len(alphabet))])
	}
	return s.String()
}

func randomValue(r *rand.Rand, kind int) api.Value {
	switch kind {
	case api.Bool:
		return truth(r.Intn(2))
	case api.Number:
		return number((r.Intn(1<<41+1) - 1<<40) >> r.Intn(41))
	case api.Text:
		return textValue(randomText(r))
	case api.Version:
		part := func() int { return r.Intn(1000000) >> r.Intn(20) }
		return version(fmt.Sprintf("%d.%d.%d", part(), part(), part()))
	}
	var texts []string
	for range r.Intn(21) {
		texts = append(texts, randomText(r))
	}
	slices.Sort(texts)
	return list(slices.Compact(texts)...)
}

func TestParseIsTheInverseOfFormat(t *testing.T) {
	r := rand.New(rand.NewSource(3))
	all := samples()
	for range 20000 {
		all = append(all, randomValue(r, 1+r.Intn(5)))
	}
	for _, v := range all {
		s, e := Format(v)
		if want := Check(v); e != want {
			t.Fatalf("P3.3: Format(%s) returns the error %d, Check %d", show(v), e, want)
		}
		if e != api.OK {
			continue
		}
		if got, e := Parse(s); !Equal(got, v) || !sameValue(got, v) || e != api.OK {
			t.Fatalf("P3.5: Parse(Format(%s)) = %s, %d", show(v), show(got), e)
		}
		checkParse(t, s)
	}
}

func TestCompareIsATotalOrder(t *testing.T) {
	r := rand.New(rand.NewSource(5))
	for _, kind := range []int{api.Number, api.Text, api.Version} {
		for range 20000 {
			checkOrder(t, randomValue(r, kind), randomValue(r, kind), randomValue(r, kind))
		}
	}
}

func checkOrder(t *testing.T, a, b, c api.Value) {
	t.Helper()
	compare := func(a, b api.Value) int {
		n, e := Compare(a, b)
		want, _ := wantCompare(a, b)
		if e != api.OK || n != want {
			t.Fatalf("P3.2: Compare(%s, %s) = %d, %d", show(a), show(b), n, e)
		}
		return n
	}
	ab, ba, bc, ac := compare(a, b), compare(b, a), compare(b, c), compare(a, c)
	if ab != -ba || (ab == 0) != Equal(a, b) || compare(a, a) != 0 {
		t.Fatalf("P3.5: %s and %s are compared as %d and %d", show(a), show(b), ab, ba)
	}
	if ab <= 0 && bc <= 0 && (ac > 0 || ac == 0 && (ab < 0 || bc < 0)) {
		t.Fatalf("P3.5: %s, %s and %s are not ordered", show(a), show(b), show(c))
	}
}

// The general rules

func TestArgumentsAreNotModified(t *testing.T) {
	room := []string{"a", "b", "spare", "room"}
	for _, v := range []api.Value{list(room[:2]...), list(room[2:]...), {Kind: api.Text, List: room[:1]}} {
		Check(v)
		Equal(v, list(room[:1]...))
		Compare(v, v)
		Format(v)
		if want := []string{"a", "b", "spare", "room"}; !slices.Equal(room, want) {
			t.Fatalf("G2: the list of an argument became %q", room)
		}
	}
}

func TestResultsAreNewMemory(t *testing.T) {
	const s = `["a", "b", "c"]`
	first, _ := Parse(s)
	longer := append(first.List, "d")
	if other := append(first.List, "e"); longer[3] != "d" || other[3] != "e" {
		t.Errorf("P3.3: two extensions of a list share memory: %q, %q", longer, other)
	}
	clear(first.List)
	if again, e := Parse(s); !sameValue(again, list("a", "b", "c")) || e != api.OK {
		t.Errorf("G2: Parse(%q) = %s, %d after a change of its result", s, show(again), e)
	}
}

func FuzzValue(f *testing.F) {
	for s := range sources {
		f.Add(s, 1, 0, "a")
	}
	f.Add("[\"a\", \"", 5, 1<<40+1, "1.2.3")
	f.Fuzz(func(t *testing.T, s string, kind, n int, other string) {
		checkParse(t, s)
		for _, v := range []api.Value{{Kind: kind, Number: n, Text: s, List: []string{s, other}}, truth(n), number(n), textValue(s), version(s), list(s), list(s, other), list(other, s)} {
			if got, want := Check(v), wantCheck(v); got != want {
				t.Errorf("P3.1: Check(%s) = %d, want %d", show(v), got, want)
			}
			want, wantE := wantFormat(v)
			if got, e := Format(v); got != want || e != wantE {
				t.Errorf("P3.3: Format(%s) = %q, %d, want %q, %d", show(v), got, e, want, wantE)
			}
		}
		for _, pair := range [][2]api.Value{{textValue(s), textValue(other)}, {version(s), version(other)}, {number(n), number(kind)}, {textValue(s), version(other)}} {
			want, wantE := wantCompare(pair[0], pair[1])
			if got, e := Compare(pair[0], pair[1]); got != want || e != wantE {
				t.Errorf("P3.2: Compare(%s, %s) = %d, %d, want %d, %d", show(pair[0]), show(pair[1]), got, e, want, wantE)
			}
		}
	})
}
