package subject

import (
	"bytes"
	"encoding/binary"
	"fmt"
	"math"
	"math/rand"
	"reflect"
	"slices"
	"strings"
	"testing"

	"flagstone/api"
	"flagstone/text"
	"flagstone/value"
	"flagstone/wire"
)

func truth(n int) api.Value          { return api.Value{Kind: api.Bool, Number: n} }
func number(n int) api.Value         { return api.Value{Kind: api.Number, Number: n} }
func textValue(s string) api.Value   { return api.Value{Kind: api.Text, Text: s} }
func version(s string) api.Value     { return api.Value{Kind: api.Version, Text: s} }
func list(texts ...string) api.Value { return api.Value{Kind: api.List, List: texts} }

func attribute(name string, v api.Value) api.Attribute { return api.Attribute{Name: name, Value: v} }

func context(kind, key string, attributes ...api.Attribute) api.Context {
	return api.Context{Kind: kind, Key: key, Attributes: attributes}
}

func of(contexts ...api.Context) api.Subject { return api.Subject{Contexts: contexts} }

// show writes what may be long or contain any bytes, in a short and readable form.
func show(x any) string { return fmt.Sprintf("%.400q", fmt.Sprint(x)) }

func isZero(v any) bool { return reflect.ValueOf(v).IsZero() }

func sameAttribute(a, b api.Attribute) bool { return a.Name == b.Name && value.Equal(a.Value, b.Value) }

func sameContext(c, d api.Context) bool {
	return c.Kind == d.Kind && c.Key == d.Key && slices.EqualFunc(c.Attributes, d.Attributes, sameAttribute)
}

func sameSubject(a, b api.Subject) bool {
	return slices.EqualFunc(a.Contexts, b.Contexts, sameContext)
}

// distinct returns n ascending texts of a size.
func distinct(n, size int) []string {
	texts := make([]string, n)
	for i := range texts {
		texts[i] = fmt.Sprintf("%0*d", size, i)
	}
	return texts
}

// attributes returns n ascending attributes.
func attributes(n int) []api.Attribute {
	l := make([]api.Attribute, n)
	for i := range l {
		l[i] = attribute(fmt.Sprintf("a%02d", 2*i), number(i))
	}
	return l
}

// largest is a subject that reaches every limit.
func largest() api.Subject {
	var s api.Subject
	for i := range 4 {
		c := context(fmt.Sprintf("%c%s", 'a'+i, strings.Repeat("k", 31)), strings.Repeat("\"", 200))
		for j := range 20 {
			c.Attributes = append(c.Attributes, attribute(fmt.Sprintf("n%031d", j), list(distinct(20, 200)...)))
		}
		s.Contexts = append(s.Contexts, c)
	}
	return s
}

func ann() api.Subject {
	return of(
		context("device", "d1"),
		context("user", "ann", attribute("age", number(30)), attribute("app", version("1.2.3")), attribute("roles", list("admin", "dev")), attribute("vip", truth(1))),
	)
}

// valid returns valid subjects.
func valid() []api.Subject {
	return []api.Subject{
		{}, of(), ann(), largest(),
		of(context("a", "x")), of(context("b", "y", attribute("a", list()), attribute("ab", list("")))), of(context("a", "x"), context("b", "x"), context("c", "x"), context("d", "x")),
		of(context("key", "key", attribute("keys", textValue("key")), attribute("user", textValue("")))),
		of(context("a", "\",b:\""), context("a-", "\\"), context("a0", "é\U0001f600"), context("a_", " ")),
		of(context("z", "0", attribute("a", number(-1<<40)), attribute("b", number(1<<40)), attribute("c", truth(0)), attribute("d", version("999999.0.10")), attribute("e", textValue(strings.Repeat("é", 100)))), context("z0", "1", attribute("a", number(64)), attribute("b", number(-65)))),
		of(context("user", "full", attributes(20)...)), of(context("user", "nearly", attributes(19)...)),
	}
}

// wrongValues returns a value for each error of value.Check.
func wrongValues() []api.Value {
	return []api.Value{{}, {Kind: 6}, {Kind: api.Bool, Text: "x"}, truth(2), number(1<<40 + 1), textValue("\n"), version("1.02.3"), list("b", "a"), list("a", "a"), list("\xff"), list(distinct(21, 3)...)}
}

// someAttributes returns attributes of which lists are made.
func someAttributes() []api.Attribute {
	l := []api.Attribute{
		{}, attribute("a", number(1)), attribute("b", list("x", "y")), attribute("bb", textValue("t")), attribute("key", number(1)), attribute("keys", truth(1)), attribute("ke", truth(0)),
		attribute("A", number(1)), attribute("is", number(1)), attribute("c", number(1<<41)), attribute("A", list("b", "a")), attribute("", number(1)),
	}
	return append(l, attribute(strings.Repeat("k", 32), number(1)), attribute(strings.Repeat("k", 33), number(1)))
}

// tuples calls visit with each list of at most most elements of pool.
func tuples[T any](pool []T, most int, visit func([]T)) {
	var extend func(l []T)
	extend = func(l []T) {
		visit(l)
		if len(l) < most {
			for _, x := range pool {
				extend(append(slices.Clip(l), x))
			}
		}
	}
	extend(nil)
}

// someContexts returns contexts with each error, alone and with others, of which subjects are made.
func someContexts() []api.Context {
	wrong := [][]api.Attribute{nil, attributes(20), attributes(21), {attribute("a", number(1)), attribute("a", number(1))}, {attribute("key", list("b", "a"))}, {attribute("a", list("b", "a"))}}
	var l []api.Context
	for _, kind := range []string{"a", "b", "user", "A", "", "flag", strings.Repeat("k", 33)} {
		for _, key := range []string{"x", "", "a\x7f", "\xff", strings.Repeat("x", 200), strings.Repeat("x", 201)} {
			for _, attributes := range wrong {
				l = append(l, context(kind, key, attributes...))
			}
		}
	}
	return l
}

// fewContexts returns contexts of which long lists are made.
func fewContexts() []api.Context {
	return []api.Context{{}, context("a", "x"), context("b", "y", attribute("a", number(1))), context("c", ""), context("c", "z"), context("d", "x", attribute("key", truth(1))), context("e", "x"), context("f", "x")}
}

// subjects calls visit with subjects, of which most are not valid.
func subjects(visit func(api.Subject)) {
	for _, s := range valid() {
		visit(s)
	}
	tuples(someAttributes(), 3, func(l []api.Attribute) { visit(of(context("user", "x", l...))) })
	tuples(someContexts(), 2, func(l []api.Context) { visit(of(l...)) })
	tuples(fewContexts(), 5, func(l []api.Context) { visit(of(l...)) })
}

type rule struct {
	applies bool
	e       api.Errno
}

// first returns the error of the first rule that applies.
func first(rules ...rule) api.Errno {
	for _, r := range rules {
		if r.applies && r.e != api.OK {
			return r.e
		}
	}
	return api.OK
}

// wantCheck reads P5.1 literally.
func wantCheck(s api.Subject) api.Errno {
	rules := []rule{{len(s.Contexts) > 4, api.ErrTooMany}}
	for i, c := range s.Contexts {
		rules = append(rules,
			rule{!text.Key(c.Kind), api.ErrKey},
			rule{i > 0 && s.Contexts[max(i-1, 0)].Kind >= c.Kind, api.ErrOrder},
			rule{c.Key == "" || !text.Valid(c.Key), api.ErrText},
			rule{len(c.Attributes) > 20, api.ErrTooMany})
		for j, a := range c.Attributes {
			rules = append(rules,
				rule{a.Name == "key" || !text.Key(a.Name), api.ErrKey},
				rule{j > 0 && c.Attributes[max(j-1, 0)].Name >= a.Name, api.ErrOrder},
				rule{true, value.Check(a.Value)})
		}
	}
	return first(rules...)
}

// P5.1

func TestCheckOfValidSubjects(t *testing.T) {
	for i, s := range valid() {
		if e := Check(s); e != api.OK {
			t.Errorf("P5.1: Check of the valid subject %d returns the error %d", i, e)
		}
	}
}

func TestCheckErrors(t *testing.T) {
	user := func(l ...api.Attribute) api.Subject { return of(context("user", "x", l...)) }
	for i, c := range []struct {
		s api.Subject
		e api.Errno
	}{
		{of(make([]api.Context, 5)...), api.ErrTooMany},
		{of(context("a", "x"), context("b", "x"), context("c", "x"), context("d", "x"), context("e", "x")), api.ErrTooMany},
		{of(context("", "x")), api.ErrKey}, {of(context("User", "x")), api.ErrKey}, {of(context("segment", "x")), api.ErrKey}, {of(context(strings.Repeat("u", 33), "x")), api.ErrKey}, {of(context("b", "x"), context("A", "")), api.ErrKey},
		{of(context("b", "x"), context("a", "")), api.ErrOrder}, {of(context("b", "x"), context("b", "y")), api.ErrOrder}, {of(context("a", "x"), context("c", "x"), context("b", "x")), api.ErrOrder}, {of(context("ab", "x"), context("a", "x")), api.ErrOrder},
		{of(context("a", "", make([]api.Attribute, 21)...)), api.ErrText}, {of(context("a", "\t")), api.ErrText}, {of(context("a", "\xc3")), api.ErrText}, {of(context("a", strings.Repeat("é", 101))), api.ErrText}, {of(context("b", ""), context("a", "x")), api.ErrText},
		{user(attributes(21)...), api.ErrTooMany}, {user(make([]api.Attribute, 21)...), api.ErrTooMany}, {of(context("a", "x", attributes(21)...), context("a", "x")), api.ErrTooMany},
		{user(attribute("key", number(1))), api.ErrKey}, {user(attribute("", number(1))), api.ErrKey}, {user(attribute("when", number(1))), api.ErrKey}, {user(attribute("a b", number(1))), api.ErrKey}, {user(attribute("b", number(1)), attribute("A", api.Value{})), api.ErrKey}, {user(attribute("l", number(1)), attribute("key", number(1))), api.ErrKey},
		{user(attribute("b", number(1)), attribute("a", api.Value{})), api.ErrOrder}, {user(attribute("b", number(1)), attribute("b", number(2))), api.ErrOrder}, {user(attribute("a", number(1)), attribute("c", number(1)), attribute("b", number(1))), api.ErrOrder},
		{user(attribute("b", number(1<<41)), attribute("a", number(1))), api.ErrRange}, {of(context("b", "x", attribute("a", version("1.2"))), context("a", "x")), api.ErrSyntax},
	} {
		if e := Check(c.s); e != c.e {
			t.Errorf("P5.1: Check of case %d = %d, want %d", i, e, c.e)
		}
	}
	for _, v := range wrongValues() {
		if e, want := Check(user(attribute("a", truth(0)), attribute("b", v))), value.Check(v); e != want || want == api.OK {
			t.Errorf("P5.1: Check of a subject with %s = %d, want %d", show(v), e, want)
		}
	}
}

func TestCheckOfManySubjects(t *testing.T) {
	subjects(func(s api.Subject) {
		if e, want := Check(s), wantCheck(s); e != want {
			t.Fatalf("P5.1: Check(%s) = %d, want %d", show(s), e, want)
		}
	})
}

func TestCheckOfNumbers(t *testing.T) {
	for n := range 45 {
		if e, want := Check(of(context("a", "x", attributes(n)...))), wantCheck(of(context("a", "x", attributes(n)...))); e != want || (e == api.OK) != (n <= 20) {
			t.Errorf("P5.1: Check of %d attributes = %d", n, e)
		}
	}
}

// P5.2

// odd is a subject that is not valid.
func odd() api.Subject {
	return of(
		context("A", "\n", attribute("x", number(1)), attribute("x", number(2)), attribute("key", number(3)), attribute("", api.Value{Kind: -7, Text: "\xff", List: []string{"b", "a"}})),
		context("", "", attribute("key", number(5))),
		context("A", "2", attribute("y", number(4))), context("b", "3"), context("a", "4", attributes(30)...), context("b", "5", attribute("x", truth(1))),
	)
}

// wantFind reads P5.2 literally.
func wantFind(s api.Subject, kind string) (api.Context, bool) {
	for _, c := range s.Contexts {
		if c.Kind == kind {
			return c, true
		}
	}
	return api.Context{}, false
}

// wantLookup reads P5.2 literally.
func wantLookup(s api.Subject, kind, name string) (api.Value, bool) {
	c, ok := wantFind(s, kind)
	if !ok {
		return api.Value{}, false
	}
	if name == "key" {
		return textValue(c.Key), true
	}
	for _, a := range c.Attributes {
		if a.Name == name {
			return a.Value, true
		}
	}
	return api.Value{}, false
}

func TestFindAndLookup(t *testing.T) {
	kinds := []string{"user", "device", "team", "a", "b", "z", "key", "", "A", "users", "use"}
	names := []string{"key", "x", "y", "", "age", "app", "roles", "vip", "a00", "a58", "a38", "name", "Age", "keys", "ag"}
	for _, s := range append(valid(), odd(), of(make([]api.Context, 9)...)) {
		for _, kind := range kinds {
			want, wantOK := wantFind(s, kind)
			if c, ok := Find(s, kind); !sameContext(c, want) || ok != wantOK || !ok && !isZero(c) {
				t.Errorf("P5.2: Find(%s, %q) = %s, %v, want %s, %v", show(s), kind, show(c), ok, show(want), wantOK)
			}
			for _, name := range names {
				want, wantOK := wantLookup(s, kind, name)
				if v, ok := Lookup(s, kind, name); !value.Equal(v, want) || ok != wantOK || !ok && !isZero(v) {
					t.Errorf("P5.2: Lookup(%s, %q, %q) = %s, %v, want %s, %v", show(s), kind, name, show(v), ok, show(want), wantOK)
				}
			}
		}
	}
}

func TestLookupExamples(t *testing.T) {
	for _, c := range []struct {
		s          api.Subject
		kind, name string
		v          api.Value
		ok         bool
	}{
		{ann(), "user", "age", number(30), true}, {ann(), "user", "roles", list("admin", "dev"), true}, {ann(), "user", "key", textValue("ann"), true}, {ann(), "device", "key", textValue("d1"), true},
		{ann(), "device", "age", api.Value{}, false}, {ann(), "team", "key", api.Value{}, false}, {ann(), "", "", api.Value{}, false}, {api.Subject{}, "user", "key", api.Value{}, false},
		{odd(), "A", "x", number(1), true}, {odd(), "A", "key", textValue("\n"), true}, {odd(), "A", "", api.Value{Kind: -7, Text: "\xff", List: []string{"b", "a"}}, true}, {odd(), "A", "y", api.Value{}, false}, {odd(), "b", "x", api.Value{}, false}, {odd(), "", "key", textValue(""), true}, {odd(), "a", "a58", number(29), true},
	} {
		if v, ok := Lookup(c.s, c.kind, c.name); !value.Equal(v, c.v) || ok != c.ok {
			t.Errorf("P5.2: Lookup(%s, %q, %q) = %s, %v", show(c.s), c.kind, c.name, show(v), ok)
		}
	}
}

// P5.3

var escapes = strings.NewReplacer("\"", "\\\"", "\\", "\\\\")

// wantCanonical reads P5.3 literally.
func wantCanonical(s api.Subject) (string, api.Errno) {
	if e := wantCheck(s); e != api.OK {
		return "", e
	}
	var b strings.Builder
	for i, c := range s.Contexts {
		if i > 0 {
			b.WriteString(",")
		}
		b.WriteString(c.Kind + ":\"" + escapes.Replace(c.Key) + "\"")
	}
	return b.String(), api.OK
}

func TestCanonicalExamples(t *testing.T) {
	for want, s := range map[string]api.Subject{
		``:                                       {},
		`device:"d1",user:"ann"`:                 ann(),
		`a:"b\",c:\\"`:                           of(context("a", `b",c:\`)),
		`a:"x",b:"x",c:"x",d:"é, "`:              of(context("a", "x"), context("b", "x"), context("c", "x"), context("d", "é, ")),
		`key:"` + strings.Repeat("x", 200) + `"`: of(context("key", strings.Repeat("x", 200), attributes(20)...)),
	} {
		if got, e := Canonical(s); got != want || e != api.OK {
			t.Errorf("P5.3: Canonical(%s) = %q, %d, want %q", show(s), got, e, want)
		}
	}
}

func TestCanonicalOfManySubjects(t *testing.T) {
	subjects(func(s api.Subject) {
		want, wantE := wantCanonical(s)
		if got, e := Canonical(s); got != want || e != wantE {
			t.Fatalf("P5.3: Canonical(%s) = %q, %d, want %q, %d", show(s), got, e, want, wantE)
		}
	})
}

// P5.4

// wantJoin reads P5.4 literally.
func wantJoin(a, b api.Subject) (api.Subject, api.Errno) {
	byKind, twice := map[string]api.Context{}, false
	for _, c := range slices.Concat(a.Contexts, b.Contexts) {
		_, ok := byKind[c.Kind]
		byKind[c.Kind], twice = c, twice || ok
	}
	e := first(rule{true, wantCheck(a)}, rule{true, wantCheck(b)}, rule{twice, api.ErrDuplicate}, rule{len(byKind) > 4, api.ErrTooMany})
	if e != api.OK {
		return api.Subject{}, e
	}
	var kinds []string
	for kind := range byKind {
		kinds = append(kinds, kind)
	}
	slices.Sort(kinds)
	var s api.Subject
	for _, kind := range kinds {
		s.Contexts = append(s.Contexts, byKind[kind])
	}
	return s, api.OK
}

func checkJoin(t *testing.T, a, b api.Subject) {
	t.Helper()
	want, wantE := wantJoin(a, b)
	got, e := Join(a, b)
	if !sameSubject(got, want) || e != wantE || e != api.OK && !isZero(got) {
		t.Fatalf("P5.4: Join(%s, %s) = %s, %d, want %s, %d", show(a), show(b), show(got), e, show(want), wantE)
	}
	if e == api.OK && Check(got) != api.OK {
		t.Fatalf("P5.4: Join(%s, %s) = %s, which is not valid", show(a), show(b), show(got))
	}
}

func TestJoinOfAllParts(t *testing.T) {
	pool := []api.Context{context("a", "x", attribute("n", number(1))), context("b", "y"), context("c", "z", attribute("l", list("x"))), context("d", "x"), context("e", "x"), context("f", "x")}
	part := func(bits int) api.Subject {
		var s api.Subject
		for i, c := range pool {
			if bits>>i&1 == 1 {
				s.Contexts = append(s.Contexts, c)
			}
		}
		return s
	}
	for i := range 64 {
		for j := range 64 {
			checkJoin(t, part(i), part(j))
		}
	}
}

func TestJoinOfManySubjects(t *testing.T) {
	var all []api.Subject
	tuples(fewContexts(), 2, func(l []api.Context) { all = append(all, of(l...)) })
	all = append(all, of(make([]api.Context, 5)...), of(context("a", "x", attributes(21)...)), ann())
	for _, a := range all {
		for _, b := range all {
			checkJoin(t, a, b)
		}
	}
}

func TestJoinErrors(t *testing.T) {
	four := of(context("a", "x"), context("b", "x"), context("c", "x"), context("d", "x"))
	for i, c := range []struct {
		a, b api.Subject
		e    api.Errno
	}{
		{of(context("A", "x")), of(context("a", "")), api.ErrKey}, {ann(), of(context("a", "")), api.ErrText}, {of(context("user", "")), ann(), api.ErrText}, {ann(), of(make([]api.Context, 5)...), api.ErrTooMany},
		{ann(), ann(), api.ErrDuplicate}, {four, of(context("d", "y")), api.ErrDuplicate}, {four, of(context("a", "y"), context("e", "y")), api.ErrDuplicate}, {four, of(context("e", "x")), api.ErrTooMany}, {of(context("A1", "x")), four, api.ErrKey}, {ann(), of(context("a", "x"), context("b", "x"), context("z", "x")), api.ErrTooMany},
	} {
		if got, e := Join(c.a, c.b); e != c.e || !isZero(got) {
			t.Errorf("P5.4: Join of case %d = %s, %d, want %d", i, show(got), e, c.e)
		}
	}
}

// wantWith reads P5.4 literally.
func wantWith(s api.Subject, kind, name string, v api.Value) (api.Subject, api.Errno) {
	at := slices.IndexFunc(s.Contexts, func(c api.Context) bool { return c.Kind == kind })
	l := []api.Attribute{attribute(name, v)}
	if at >= 0 {
		for _, a := range s.Contexts[at].Attributes {
			if a.Name != name {
				l = append(l, a)
			}
		}
	}
	e := first(rule{true, wantCheck(s)}, rule{at < 0, api.ErrNotFound}, rule{name == "key" || !text.Key(name), api.ErrKey}, rule{true, value.Check(v)}, rule{len(l) > 20, api.ErrTooMany})
	if e != api.OK {
		return api.Subject{}, e
	}
	slices.SortFunc(l, func(a, b api.Attribute) int { return strings.Compare(a.Name, b.Name) })
	changed := of(slices.Clone(s.Contexts)...)
	changed.Contexts[at].Attributes = l
	return changed, api.OK
}

func TestWithOfManyArguments(t *testing.T) {
	all := append(valid(), odd(), of(context("a", "")), of(context("a", "x", attributes(21)...)))
	names := []string{"", "A", "key", "is", "a", "b", "age", "app", "b0", "roles", "vip", "zz", "keys", "a00", "a01", "a20", "a37", "a38", "a39"}
	values := append(wrongValues(), truth(1), number(1<<40), textValue("v"), version("1.2.3"), list("x", "y"), list())
	for _, s := range all {
		for _, kind := range []string{"user", "device", "a", "b", "key", "", "A", "z0"} {
			for _, name := range names {
				for _, v := range values {
					want, wantE := wantWith(s, kind, name, v)
					got, e := With(s, kind, name, v)
					if !sameSubject(got, want) || e != wantE || e != api.OK && !isZero(got) {
						t.Fatalf("P5.4: With(%s, %q, %q, %s) = %s, %d, want %s, %d", show(s), kind, name, show(v), show(got), e, show(want), wantE)
					}
				}
			}
		}
	}
}

func TestWithErrors(t *testing.T) {
	full := of(context("user", "x", attributes(20)...))
	for i, c := range []struct {
		s          api.Subject
		kind, name string
		v          api.Value
		e          api.Errno
	}{
		{of(context("user", "")), "team", "key", api.Value{}, api.ErrText}, {ann(), "team", "key", api.Value{}, api.ErrNotFound}, {ann(), "", "a", number(1), api.ErrNotFound}, {api.Subject{}, "user", "a", number(1), api.ErrNotFound},
		{ann(), "user", "key", api.Value{}, api.ErrKey}, {ann(), "user", "Age", number(1), api.ErrKey}, {ann(), "user", "", number(1), api.ErrKey}, {ann(), "user", "age", number(1 << 41), api.ErrRange}, {full, "user", "zz", list("b", "a"), api.ErrOrder}, {full, "user", "zz", number(1), api.ErrTooMany}, {full, "user", "a", number(1), api.ErrTooMany},
	} {
		if got, e := With(c.s, c.kind, c.name, c.v); e != c.e || !isZero(got) {
			t.Errorf("P5.4: With of case %d = %s, %d, want %d", i, show(got), e, c.e)
		}
	}
}

// TestWithPlaces puts an attribute before, between and behind, and replaces each one, of each number of attributes.
func TestWithPlaces(t *testing.T) {
	for n := range 21 {
		s := of(context("device", "d"), context("user", "x", attributes(n)...), context("zone", "z", attributes(3)...))
		for i := range 2*n + 2 {
			name := fmt.Sprintf("a%02d", i)
			if i == 2*n+1 {
				name = "a" // before all others
			}
			want, wantE := wantWith(s, "user", name, textValue("new"))
			got, e := With(s, "user", name, textValue("new"))
			if !sameSubject(got, want) || e != wantE {
				t.Fatalf("P5.4: With %q of %d attributes = %s, %d, want %s, %d", name, n, show(got), e, show(want), wantE)
			}
			if v, ok := Lookup(got, "user", name); e == api.OK && (!ok || v.Text != "new" || Check(got) != api.OK) {
				t.Fatalf("P5.4: the attribute %q became %s, %v", name, show(v), ok)
			}
		}
	}
}

// P5.5

// wantEncode reads P5.5 literally, with the encoding of numbers of encoding/binary, which is that of wire.PutNumber.
func wantEncode(s api.Subject) []byte {
	b := binary.AppendVarint(nil, int64(len(s.Contexts)))
	put := func(s string) { b = append(binary.AppendVarint(b, int64(len(s))), s...) }
	for _, c := range s.Contexts {
		put(c.Kind)
		put(c.Key)
		b = binary.AppendVarint(b, int64(len(c.Attributes)))
		for _, a := range c.Attributes {
			put(a.Name)
			b = binary.AppendVarint(b, int64(a.Value.Kind))
			switch a.Value.Kind {
			case 1, 2:
				b = binary.AppendVarint(b, int64(a.Value.Number))
			case 3, 4:
				put(a.Value.Text)
			case 5:
				b = binary.AppendVarint(b, int64(len(a.Value.List)))
				for _, s := range a.Value.List {
					put(s)
				}
			}
		}
	}
	return b
}

// loose reads encodings, also those that are longer than needed.
type loose struct {
	b   []byte
	bad bool
}

func (l *loose) number() int {
	n, size := binary.Varint(l.b)
	if size <= 0 {
		l.b, l.bad = nil, true
		return 0
	}
	l.b = l.b[size:]
	return int(n)
}

func (l *loose) text() string {
	n := l.number()
	if n < 0 || n > len(l.b) {
		l.b, l.bad = nil, true
		return ""
	}
	s := string(l.b[:n])
	l.b = l.b[n:]
	return s
}

// each calls read once for each element, until there is an error.
func (l *loose) each(read func()) {
	for n := l.number(); n > 0 && !l.bad; n-- {
		read()
	}
}

func (l *loose) attribute() api.Attribute {
	a := api.Attribute{Name: l.text()}
	a.Value.Kind = l.number()
	switch a.Value.Kind {
	case 1, 2:
		a.Value.Number = l.number()
	case 3, 4:
		a.Value.Text = l.text()
	case 5:
		l.each(func() { a.Value.List = append(a.Value.List, l.text()) })
	}
	return a
}

func (l *loose) context() api.Context {
	c := api.Context{Kind: l.text()}
	c.Key = l.text()
	l.each(func() { c.Attributes = append(c.Attributes, l.attribute()) })
	return c
}

// wantDecode reads P5.5 literally: if a valid subject has the encoding b, it is the one that is read loosely.
func wantDecode(b []byte) (api.Subject, api.Errno) {
	l := loose{b: b}
	var s api.Subject
	l.each(func() { s.Contexts = append(s.Contexts, l.context()) })
	if l.bad || wantCheck(s) != api.OK || !bytes.Equal(wantEncode(s), b) {
		return api.Subject{}, api.ErrSyntax
	}
	return s, api.OK
}

func checkDecode(t *testing.T, b []byte) {
	t.Helper()
	want, wantE := wantDecode(b)
	got, e := Decode(b)
	if !sameSubject(got, want) || e != wantE || e != api.OK && !isZero(got) {
		t.Fatalf("P5.5: Decode(%.400q) = %s, %d, want %s, %d", b, show(got), e, show(want), wantE)
	}
}

const annEncoded = "\x04\x0cdevice\x04d1\x00\x08user\x06ann\x08\x06age\x04\x3c\x06app\x08\x0a1.2.3\x0aroles\x0a\x04\x0aadmin\x06dev\x06vip\x02\x02"

func TestEncodeExamples(t *testing.T) {
	for want, s := range map[string]api.Subject{
		"\x00":     {},
		annEncoded: ann(),
		"\x02\x02a\x02x\x06\x02b\x0a\x00\x02c\x06\x00\x02d\x04\x81\x01": of(context("a", "x", attribute("b", list()), attribute("c", textValue("")), attribute("d", number(-65)))),
		"\x02\x02a\x90\x03" + strings.Repeat("y", 200) + "\x00":         of(context("a", strings.Repeat("y", 200))),
	} {
		if got, e := Encode(s); string(got) != want || e != api.OK {
			t.Errorf("P5.5: Encode(%s) = %.400q, %d, want %.400q", show(s), got, e, want)
		}
		if got, e := Decode([]byte(want)); !sameSubject(got, s) || e != api.OK {
			t.Errorf("P5.5: Decode(%.400q) = %s, %d", want, show(got), e)
		}
	}
}

func TestEncodeOfManySubjects(t *testing.T) {
	subjects(func(s api.Subject) {
		b, e := Encode(s)
		if want := wantCheck(s); e != want {
			t.Fatalf("P5.5: Encode(%s) returns the error %d, want %d", show(s), e, want)
		}
		if e != api.OK && b != nil {
			t.Fatalf("G4: Encode(%s) = %.400q with the error %d", show(s), b, e)
		}
		if e == api.OK && !bytes.Equal(b, wantEncode(s)) {
			t.Fatalf("P5.5: Encode(%s) = %.400q, want %.400q", show(s), b, wantEncode(s))
		}
	})
}

// TestDecodeOfWrongSubjects decodes the encodings that subjects would have if they were valid.
func TestDecodeOfWrongSubjects(t *testing.T) {
	subjects(func(s api.Subject) {
		b := wantEncode(s)
		checkDecode(t, b)
		if _, e := Decode(b); wantCheck(s) != api.OK && e != api.ErrSyntax {
			t.Fatalf("P5.5: Decode(%.400q) of a subject that is not valid returns %d", b, e)
		}
	})
	for _, v := range append(wrongValues(), api.Value{Kind: -1}, api.Value{Kind: math.MaxInt}, api.Value{Kind: math.MinInt}, number(math.MinInt), number(math.MaxInt), truth(-1)) {
		b := wantEncode(of(context("a", "x", attribute("b", v))))
		checkDecode(t, b)
		checkDecode(t, append(b, 0))
	}
}

// TestDecodeOfChangedEncodings removes, inserts and replaces each byte of encodings.
func TestDecodeOfChangedEncodings(t *testing.T) {
	for _, s := range valid() {
		b := wantEncode(s)
		if len(b) > 1000 {
			continue
		}
		for i := range len(b) + 1 {
			checkDecode(t, b[:i])
			checkDecode(t, b[i:])
			for x := range 256 {
				checkDecode(t, slices.Concat(b[:i], []byte{byte(x)}, b[i:]))
				if i < len(b) {
					checkDecode(t, slices.Concat(b[:i], []byte{byte(x)}, b[i+1:]))
				}
			}
			if i < len(b) {
				checkDecode(t, slices.Concat(b[:i], b[i+1:]))
			}
		}
	}
}

func TestDecodeOfShortBytes(t *testing.T) {
	tuples([]byte{0, 1, 2, 4, 6, 8, 10, 128, 'a', 'b'}, 6, func(b []byte) { checkDecode(t, b) })
	tuples([]string{"\x00", "\x02", "\x04", "\x02a", "\x02b", "\x0a", "\x02\x02", "\x82\x00"}, 6, func(l []string) { checkDecode(t, []byte(strings.Join(l, ""))) })
}

func TestDecodeErrors(t *testing.T) {
	huge := string(wire.PutNumber(nil, math.MaxInt))
	for _, s := range []string{
		"", "\x00\x00", "\x01", "\x0a", "\x80\x00", "\x82\x00\x02a\x02x\x00", annEncoded + "\x00", "\x00" + annEncoded, annEncoded + annEncoded, annEncoded[:len(annEncoded)-1],
		huge, "\x02" + huge, "\x02\x02a" + huge, "\x02\x02a\x02x" + huge, "\x02\x02a\x02x\x02\x02b\x0a" + huge, "\x02\x02a\x02x\x02\x02b\x06" + huge, "\x02\x02a\x02x\x02\x02b" + huge + "\x00",
		"\x02\x00\x02x\x00", "\x02\x02a\x00\x00", "\x02\x02A\x02x\x00", "\x02\x0aflag!\x02x\x00", "\x04\x02a\x02x\x00\x02a\x02y\x00", "\x04\x02b\x02x\x00\x02a\x02x\x00",
		"\x02\x02a\x02x\x02\x06key\x04\x00", "\x02\x02a\x02x\x02\x02b\x00", "\x02\x02a\x02x\x02\x02b\x0c\x00", "\x02\x02a\x02x\x02\x02b\x02\x04", "\x02\x02a\x02x\x02\x02b\x0a\x04\x02y\x02x", "\x02\x02a\x02x\x02\x02b\x01\x00",
		string(bytes.Repeat([]byte{2}, 1<<20)), string(bytes.Repeat([]byte{128}, 1<<20)),
	} {
		if got, e := Decode([]byte(s)); e != api.ErrSyntax || !isZero(got) {
			t.Errorf("P5.5: Decode(%.60q) = %s, %d", s, show(got), e)
		}
	}
}

// P5.6

func randomText(r *rand.Rand, least int) string {
	alphabet := []string{"\"", "\\", "a", "b", ",", ":", "é", "\U0001f600", " "}
	var s strings.Builder
	for range least + r.Intn(6) {
		s.WriteString(alphabet[r.Intn(len(alphabet))])
	}
	return s.String()
}

func randomValue(r *rand.Rand) api.Value {
	switch 1 + r.Intn(5) {
	case api.Bool:
		return truth(r.Intn(2))
	case api.Number:
		return number((r.Intn(1<<41+1) - 1<<40) >> r.Intn(41))
	case api.Text:
		return textValue(randomText(r, 0))
	case api.Version:
		return version(fmt.Sprintf("%d.%d.%d", r.Intn(1000000), r.Intn(20), r.Intn(3)))
	}
	var texts []string
	for range r.Intn(21) {
		texts = append(texts, randomText(r, 0))
	}
	slices.Sort(texts)
	return list(slices.Compact(texts)...)
}

// randomKeys returns at most n ascending keys.
func randomKeys(r *rand.Rand, n int) []string {
	var keys []string
	for range r.Intn(n + 1) {
		keys = append(keys, fmt.Sprintf("k%d", r.Intn(2*n)))
	}
	slices.Sort(keys)
	return slices.Compact(keys)
}

func randomSubject(r *rand.Rand) api.Subject {
	var s api.Subject
	for _, kind := range randomKeys(r, 4) {
		c := context(kind, randomText(r, 1))
		for _, name := range randomKeys(r, 20) {
			c.Attributes = append(c.Attributes, attribute(name, randomValue(r)))
		}
		s.Contexts = append(s.Contexts, c)
	}
	return s
}

func TestDecodeIsTheInverseOfEncode(t *testing.T) {
	r := rand.New(rand.NewSource(5))
	all := valid()
	for range 3000 {
		all = append(all, randomSubject(r))
	}
	for _, s := range all {
		b, e := Encode(s)
		if e != api.OK || !bytes.Equal(b, wantEncode(s)) {
			t.Fatalf("P5.5: Encode(%s) = %.400q, %d", show(s), b, e)
		}
		if got, e := Decode(b); !sameSubject(got, s) || e != api.OK {
			t.Fatalf("P5.6: Decode(Encode(%s)) = %s, %d", show(s), show(got), e)
		}
	}
}

func TestDecodeOfThePrefixesOfLongEncodings(t *testing.T) {
	b := wantEncode(largest())
	for i := 0; i < len(b); i += 997 {
		if got, e := Decode(b[:i]); e != api.ErrSyntax || !isZero(got) {
			t.Errorf("P5.5: Decode of %d of %d bytes = %s, %d", i, len(b), show(got), e)
		}
	}
}

func TestCanonicalTellsKindsAndKeysApart(t *testing.T) {
	r := rand.New(rand.NewSource(6))
	seen := map[string]api.Subject{}
	for range 20000 {
		s := randomSubject(r)
		got, e := Canonical(s)
		if e != api.OK {
			t.Fatalf("P5.3: Canonical(%s) returns the error %d", show(s), e)
		}
		bare := api.Subject{}
		for _, c := range s.Contexts {
			bare.Contexts = append(bare.Contexts, context(c.Kind, c.Key))
		}
		if other, ok := seen[got]; ok && !sameSubject(bare, other) {
			t.Fatalf("P5.6: %s and %s have the same Canonical %q", show(bare), show(other), got)
		}
		seen[got] = bare
	}
}

func TestJoinIsCommutative(t *testing.T) {
	r := rand.New(rand.NewSource(7))
	joined := 0
	for range 20000 {
		a, b := randomSubject(r), randomSubject(r)
		checkJoin(t, a, b)
		s, e := Join(a, b)
		u, f := Join(b, a)
		if !sameSubject(s, u) || e != f {
			t.Fatalf("P5.6: Join(%s, %s) = %s, %d, and the other way round %s, %d", show(a), show(b), show(s), e, show(u), f)
		}
		if e == api.OK {
			joined++
		}
	}
	if joined < 1000 {
		t.Errorf("only %d pairs were joined", joined)
	}
}

// The general rules

// roomy returns the list with elements spare behind it, in its spare capacity.
func roomy[T any](l []T, spare T) []T {
	return append(slices.Clip(l), spare, spare, spare)[:len(l)]
}

// roomySubject returns s with spare capacity in each list.
func roomySubject(s api.Subject) api.Subject {
	var contexts []api.Context
	for _, c := range s.Contexts {
		var l []api.Attribute
		for _, a := range c.Attributes {
			a.Value.List = roomy(a.Value.List, "spare")
			l = append(l, a)
		}
		c.Attributes = roomy(l, attribute("spare", number(7)))
		contexts = append(contexts, c)
	}
	return of(roomy(contexts, context("spare", "spare"))...)
}

// memory shows all that a subject can reach, also in spare capacity.
func memory(s api.Subject) string {
	var b strings.Builder
	for _, c := range s.Contexts[:cap(s.Contexts)] {
		fmt.Fprintf(&b, "%q %q\n", c.Kind, c.Key)
		for _, a := range c.Attributes[:cap(c.Attributes)] {
			v := a.Value
			fmt.Fprintf(&b, "  %q %d %d %q %q\n", a.Name, v.Kind, v.Number, v.Text, v.List[:cap(v.List)])
		}
	}
	return b.String()
}

func spoilContext(c api.Context) {
	l := c.Attributes[:cap(c.Attributes)]
	for i := range l {
		spoilValue(l[i].Value)
		l[i] = attribute("spoilt", truth(9))
	}
}

func spoilValue(v api.Value) {
	l := v.List[:cap(v.List)]
	for i := range l {
		l[i] = "spoilt"
	}
}

func spoil(s api.Subject) {
	l := s.Contexts[:cap(s.Contexts)]
	for i := range l {
		spoilContext(l[i])
		l[i] = context("spoilt", "spoilt")
	}
}

// TestArgumentsAreNotModified also spoils the results, which share no memory with the arguments.
func TestArgumentsAreNotModified(t *testing.T) {
	for _, plain := range append(valid(), odd()) {
		s, other, v := roomySubject(plain), roomySubject(of(context("m", "x", attribute("l", list("a"))))), roomy([]string{"a", "b"}, "spare")
		before, beforeOther := memory(s), memory(other)
		check := func(name string) {
			t.Helper()
			if memory(s) != before || memory(other) != beforeOther || !slices.Equal(v[:cap(v)][:5], []string{"a", "b", "spare", "spare", "spare"}) {
				t.Fatalf("G2: %s, or a change of its result, modifies an argument", name)
			}
		}
		Check(s)
		Canonical(s)
		b, _ := Encode(s)
		clear(b[:cap(b)])
		check("Check, Canonical or Encode")
		for _, c := range plain.Contexts {
			found, _ := Find(s, c.Kind)
			spoilContext(found)
			check("Find")
			for _, name := range []string{"roles", "l", "a00", "b", "c", "aa", "zz", ""} {
				found, _ := Lookup(s, c.Kind, name)
				spoilValue(found)
				check("Lookup")
				changed, _ := With(s, c.Kind, name, list(v...))
				spoil(changed)
				check("With")
			}
		}
		for _, pair := range [][2]api.Subject{{s, other}, {other, s}, {s, {}}, {{}, s}} {
			joined, _ := Join(pair[0], pair[1])
			spoil(joined)
			check("Join")
		}
	}
}

func TestDecodeKeepsItsArgument(t *testing.T) {
	b := roomy([]byte(annEncoded), 7)
	s, e := Decode(b)
	if string(b[:cap(b)][:len(b)+3]) != annEncoded+"\x07\x07\x07" {
		t.Error("G2: Decode modifies its argument")
	}
	clear(b)
	if !sameSubject(s, ann()) || e != api.OK {
		t.Errorf("G2: the result of Decode became %s, %d after a change of its argument", show(s), e)
	}
}

// TestPartsOfResultsShareNoMemory gives arguments whose parts share memory.
func TestPartsOfResultsShareNoMemory(t *testing.T) {
	texts := list("a", "b")
	shared := []api.Attribute{attribute("x", texts), attribute("y", texts)}
	s := of(context("a", "1", shared...), context("b", "2", shared...))
	c, _ := Find(s, "a")
	changed, _ := With(s, "a", "z", texts)
	joined, _ := Join(of(s.Contexts[0]), of(s.Contexts[1]))
	decoded, _ := Decode(wantEncode(s))
	for i, result := range []api.Subject{of(c), changed, joined, decoded} {
		for _, c := range result.Contexts {
			for _, a := range c.Attributes {
				a.Value.List[0] += "+"
			}
			c.Attributes[0].Name += "+"
		}
		for _, c := range result.Contexts {
			if c.Attributes[0].Name != "x+" || c.Attributes[1].Name != "y" {
				t.Errorf("G2: the contexts of result %d share memory: %s", i, show(result))
			}
			for _, a := range c.Attributes {
				if a.Value.List[0] != "a+" {
					t.Errorf("G2: the values of result %d share memory: %s", i, show(result))
				}
			}
		}
	}
}

// spare adds to list the spare capacities of all lists of a subject.
func spare(list []int, s api.Subject) []int {
	list = append(list, cap(s.Contexts)-len(s.Contexts))
	for _, c := range s.Contexts {
		list = append(list, cap(c.Attributes)-len(c.Attributes))
		for _, a := range c.Attributes {
			list = append(list, cap(a.Value.List)-len(a.Value.List))
		}
	}
	return list
}

// TestExtensionsOfResultsShareNoMemory looks for spare capacity, which two extensions of a result by append would share.
func TestExtensionsOfResultsShareNoMemory(t *testing.T) {
	for n := range 20 {
		l := append(attributes(n), attribute("l", list(distinct(n, 5)...)))
		s := roomySubject(of(context("a", "x", l...), context("b", "y"), context("c", "z", l...)))
		found, _ := Find(s, "a")
		texts, _ := Lookup(s, "c", "l")
		changed, _ := With(s, "a", "l", texts)
		joined, _ := Join(s, api.Subject{})
		encoded, _ := Encode(s)
		decoded, e := Decode(encoded)
		caps := []int{cap(texts.List) - len(texts.List), cap(encoded) - len(encoded)}
		for _, result := range []api.Subject{of(found), changed, joined, decoded} {
			caps = spare(caps, result)
		}
		if slices.Max(caps) != 0 || e != api.OK {
			t.Errorf("G2: results have the spare capacities %v", caps)
		}
	}
}

func TestNilAndEmptyListsAreEquivalent(t *testing.T) {
	empty := of(api.Context{Kind: "a", Key: "x", Attributes: []api.Attribute{}}, context("b", "y", attribute("l", api.Value{Kind: api.List, List: []string{}}), attribute("n", api.Value{Kind: api.Number, List: []string{}})))
	plain := of(context("a", "x"), context("b", "y", attribute("l", list()), attribute("n", number(0))))
	if e := Check(empty); e != api.OK {
		t.Errorf("G3: Check of empty lists = %d", e)
	}
	b, _ := Encode(empty)
	want, _ := Encode(plain)
	if !bytes.Equal(b, want) || len(b) == 0 {
		t.Errorf("G3: Encode of empty lists = %q, of nil lists %q", b, want)
	}
	for _, s := range []api.Subject{empty, plain} {
		got, e := With(s, "a", "n", number(1))
		if want := of(context("a", "x", attribute("n", number(1))), plain.Contexts[1]); !sameSubject(got, want) || e != api.OK {
			t.Errorf("G3: With(%s) = %s, %d", show(s), show(got), e)
		}
	}
}

func TestLargeArguments(t *testing.T) {
	s := of(make([]api.Context, 1<<16)...)
	s.Contexts[1<<16-1] = context("last", strings.Repeat("x", 1<<16), make([]api.Attribute, 1<<16)...)
	s.Contexts[1<<16-1].Attributes[1<<16-1] = attribute("last", list(distinct(1<<10, 20)...))
	if c, ok := Find(s, "last"); !ok || !sameContext(c, s.Contexts[1<<16-1]) {
		t.Error("P5.2: Find does not find the last of many contexts")
	}
	if v, ok := Lookup(s, "last", "last"); !ok || len(v.List) != 1<<10 {
		t.Error("P5.2: Lookup does not find the last of many attributes")
	}
	_, e := Canonical(s)
	_, f := Join(api.Subject{}, s)
	_, g := With(s, "last", "last", number(1))
	_, h := Encode(s)
	for i, e := range []api.Errno{Check(s), e, f, g, h} {
		if e != api.ErrTooMany {
			t.Errorf("P5.1: function %d returns the error %d for a large subject", i, e)
		}
	}
}

func FuzzSubject(f *testing.F) {
	f.Add([]byte(annEncoded), "user", "age", 2, 5, "a")
	f.Add([]byte{0}, "", "key", 5, 0, "1.2.3")
	f.Fuzz(func(t *testing.T, b []byte, kind, name string, valueKind, n int, other string) {
		checkDecode(t, b)
		decoded, _ := Decode(b)
		v := api.Value{Kind: valueKind, Number: n, Text: other}
		for _, s := range []api.Subject{decoded, of(context(kind, other, attribute(name, v))), of(context(kind, name), context(other, kind, attribute(name, list(name, other))))} {
			if e, want := Check(s), wantCheck(s); e != want {
				t.Errorf("P5.1: Check(%s) = %d, want %d", show(s), e, want)
			}
			want, wantE := wantWith(s, kind, name, v)
			if got, e := With(s, kind, name, v); !sameSubject(got, want) || e != wantE {
				t.Errorf("P5.4: With(%s, %q, %q, %s) = %s, %d, want %s, %d", show(s), kind, name, show(v), show(got), e, show(want), wantE)
			}
			checkJoin(t, s, decoded)
			checkDecode(t, wantEncode(s))
		}
	})
}
