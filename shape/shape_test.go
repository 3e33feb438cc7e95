package shape

import (
	"fmt"
	"math"
	"math/rand"
	"reflect"
	"slices"
	"strings"
	"testing"

	"flagstone/api"
	"flagstone/text"
	"flagstone/value"
)

func truth(n int) api.Value          { return api.Value{Kind: api.Bool, Number: n} }
func number(n int) api.Value         { return api.Value{Kind: api.Number, Number: n} }
func textValue(s string) api.Value   { return api.Value{Kind: api.Text, Text: s} }
func version(s string) api.Value     { return api.Value{Kind: api.Version, Text: s} }
func list(texts ...string) api.Value { return api.Value{Kind: api.List, List: texts} }

// show writes what may be long or contain any bytes, in a short and readable form.
func show(x any) string { return fmt.Sprintf("%.600q", fmt.Sprintf("%+v", x)) }

type rule struct {
	applies bool
	e       api.Errno
}

// first returns the error of the first rule that applies.
func first(rules ...rule) api.Errno {
	for _, r := range rules {
		if r.applies && r.e != api.OK {
			return r.e
		}
	}
	return api.OK
}

// inOrder lists rules one after another.
func inOrder(parts ...[]rule) []rule { return slices.Concat(parts...) }

func outside(n, least, most int) bool { return n < least || n > most }

// tuples calls visit with each list of at most most elements of pool.
func tuples[T any](pool []T, most int, visit func([]T)) {
	var extend func(l []T)
	extend = func(l []T) {
		visit(l)
		if len(l) < most {
			for _, x := range pool {
				extend(append(slices.Clip(l), x))
			}
		}
	}
	extend(nil)
}

// pairs calls visit with what base returns, after no change, after each one and after each two of them.
func pairs[T any](base func() T, changes []func(*T), visit func(T)) {
	for i := -1; i < len(changes); i++ {
		for j := -1; j < len(changes); j++ {
			x := base()
			if i >= 0 {
				changes[i](&x)
			}
			if j >= 0 {
				changes[j](&x)
			}
			visit(x)
		}
	}
}

// tally counts the errors that a test has seen.
type tally map[api.Errno]int

// expect complains about each error that the test has not seen, and about each other one that it has.
func (seen tally) expect(t *testing.T, errors ...api.Errno) {
	t.Helper()
	for _, e := range append(errors, api.OK) {
		if seen[e] == 0 {
			t.Errorf("the test has no case with the result %d", e)
		}
	}
	for e, n := range seen {
		if e != api.OK && !slices.Contains(errors, e) {
			t.Errorf("the test has %d cases with the result %d, which the chapter does not name", n, e)
		}
	}
}

var strangeNumbers = []int{math.MinInt, -1 << 32, -2, -1, 0, 1, 2, 3, 1 << 32, math.MaxInt - 1, math.MaxInt}

// Conditions

func part(op int, kids ...api.Expr) api.Expr { return api.Expr{Op: op, Kids: kids} }

func ask(op int, values ...api.Value) api.Expr {
	return api.Expr{Op: op, Kind: "user", Name: "age", Values: values}
}

func has() api.Expr { return ask(api.OpHas) }

func times[T any](n int, x T) []T { return slices.Repeat([]T{x}, n) }

// chain returns a condition below n parts with OpNot.
func chain(n int, e api.Expr) api.Expr {
	for range n {
		e = part(api.OpNot, e)
	}
	return e
}

// rows returns a condition with n parts, at least 4, of which the last one is last.
func rows(n int, last api.Expr) api.Expr {
	e, left := part(api.OpOr), n-1
	for left > 14 {
		e.Kids = append(e.Kids, part(api.OpAnd, times(11, has())...))
		left -= 12
	}
	for left > 3 {
		e.Kids = append(e.Kids, part(api.OpAnd, has(), has()))
		left -= 3
	}
	e.Kids = append(e.Kids, times(left-1, has())...)
	e.Kids = append(e.Kids, last)
	return e
}

type placed struct {
	outer int
	e     api.Expr
}

// wantParts lists the parts as P6.1 describes them. It expects a condition with few parts.
func wantParts(e api.Expr, outer int) []placed {
	l := []placed{{outer, e}}
	for _, kid := range e.Kids {
		l = append(l, wantParts(kid, outer+1)...)
	}
	return l
}

func hasKid(e api.Expr, op int) bool {
	for _, kid := range e.Kids {
		if kid.Op == op {
			return true
		}
	}
	return false
}

// partRules reads P6.1 literally.
func partRules(before, outer int, e api.Expr) []rule {
	kids, values := len(e.Kids), len(e.Values)
	isTest := e.Op >= 6 && e.Op <= 15
	rules := []rule{
		{before >= 60, api.ErrTooMany},
		{outer >= 10, api.ErrDepth},
		{outside(e.Op, 1, 15), api.ErrKind},
		{(e.Op == 2 || e.Op == 3) && kids < 2, api.ErrShape},
		{e.Op == 4 && kids != 1, api.ErrShape},
		{outside(e.Op, 2, 4) && kids > 0, api.ErrShape},
		{e.Kind != "" && !isTest, api.ErrShape},
		{e.Name != "" && e.Op != 5 && !isTest, api.ErrShape},
		{e.Op == 8 && values == 0, api.ErrShape},
		{isTest && e.Op != 8 && e.Op != 6 && values != 1, api.ErrShape},
		{(!isTest || e.Op == 6) && values > 0, api.ErrShape},
		{kids > 12 || values > 20, api.ErrTooMany},
		{e.Op == 2 && hasKid(e, 2) || e.Op == 3 && hasKid(e, 3), api.ErrShape},
		{isTest && !text.Key(e.Kind), api.ErrKey},
		{(isTest || e.Op == 5) && !text.Key(e.Name), api.ErrKey},
	}
	for _, v := range e.Values {
		rules = append(rules, rule{true, value.Check(v)})
	}
	return append(rules, rule{(e.Op == 9 || e.Op == 10 || e.Op == 11) && values == 1 && e.Values[0].Kind != 3, api.ErrType})
}

func wantExpr(e api.Expr) api.Errno {
	for before, p := range wantParts(e, 0) {
		if err := first(partRules(before, p.outer, p.e)...); err != api.OK {
			return err
		}
	}
	return api.OK
}

// checkExpr compares Expr, Parts and None with P6.1, and returns the error.
func checkExpr(t *testing.T, e api.Expr) api.Errno {
	t.Helper()
	got, want := Expr(e), wantExpr(e)
	if got != want {
		t.Fatalf("P6.1: Expr(%s) = %d, want %d", show(e), got, want)
	}
	if n, want := Parts(e), min(len(wantParts(e, 0)), 61); n != want {
		t.Fatalf("P6.1: Parts(%s) = %d, want %d", show(e), n, want)
	}
	if none := len(e.Values) == 0 && len(e.Kids) == 0 && e.Op == 0 && e.Kind+e.Name == ""; None(e) != none {
		t.Fatalf("P6.1: None(%s) = %v", show(e), !none)
	}
	return got
}

// someValues returns lists of values.
func someValues() [][]api.Value {
	wrong := number(1<<40 + 1)
	return [][]api.Value{
		nil, {}, {number(1)}, {textValue("")}, {truth(0)}, {version("1.2.3")}, {list("a", "b")}, {textValue("x"), textValue("x")}, {number(1), textValue("y")},
		times(20, number(1)), times(21, number(1)), times(21, wrong), {{}}, {wrong}, {number(1), wrong}, {wrong, {}}, {textValue("\n")}, {version("1.2")}, {list("b", "a")}, {{Kind: api.Bool, Text: "x"}},
	}
}

// someKids returns lists of kids.
func someKids() [][]api.Expr {
	return [][]api.Expr{
		nil, {}, {has()}, {{}}, {has(), has()}, {has(), {}}, {{}, has()}, times(12, has()), times(13, has()), times(13, api.Expr{}), times(13, part(api.OpAnd)),
		{part(api.OpAnd, has(), has()), has()}, {has(), part(api.OpAnd, has(), has())}, {part(api.OpOr, has(), has()), has()}, {has(), part(api.OpOr)}, {part(api.OpNot, has()), part(api.OpTrue)}, {part(api.OpNot, has())},
	}
}

// alone returns parts with all combinations of fields.
func alone(visit func(api.Expr)) {
	for _, op := range append([]int{4, 5, 6, 7, 8, 9, 10, 11, 12, 13, 14, 15, 16, 17}, strangeNumbers...) {
		for _, kind := range []string{"", "user", "User", "is", strings.Repeat("k", 33)} {
			for _, name := range []string{"", "age", "key", "a b", "when"} {
				for _, values := range someValues() {
					for _, kids := range someKids() {
						visit(api.Expr{Op: op, Kind: kind, Name: name, Values: values, Kids: kids})
					}
				}
			}
		}
	}
}

var exprErrors = []api.Errno{api.ErrTooMany, api.ErrDepth, api.ErrKind, api.ErrShape, api.ErrKey, api.ErrRange, api.ErrText, api.ErrSyntax, api.ErrOrder, api.ErrType}

func TestExprExamples(t *testing.T) {
	for i, c := range []struct {
		e    api.Expr
		want api.Errno
	}{
		{part(api.OpTrue), api.OK}, {api.Expr{Op: api.OpSegment, Name: "beta"}, api.OK}, {has(), api.OK}, {api.Expr{Op: api.OpHas, Kind: "user", Name: "key"}, api.OK}, {part(api.OpAnd, has(), part(api.OpTrue)), api.OK}, {part(api.OpOr, times(12, has())...), api.OK}, {chain(9, has()), api.OK},
		{ask(api.OpEquals, list()), api.OK}, {ask(api.OpIn, times(20, truth(1))...), api.OK}, {ask(api.OpIn, number(1), textValue("x")), api.OK}, {ask(api.OpStarts, textValue("")), api.OK}, {ask(api.OpEnds, textValue("x")), api.OK}, {ask(api.OpContains, textValue("x")), api.OK}, {ask(api.OpLess, number(1)), api.OK}, {ask(api.OpAtMost, version("1.2.3")), api.OK}, {ask(api.OpMore, truth(0)), api.OK}, {ask(api.OpAtLeast, textValue("x")), api.OK},
		{rows(60, has()), api.OK}, {part(api.OpAnd, part(api.OpOr, has(), has()), part(api.OpOr, part(api.OpAnd, has(), has()), has())), api.OK}, {chain(2, part(api.OpTrue)), api.OK},
		{api.Expr{}, api.ErrKind}, {api.Expr{Op: 16, Kind: "user"}, api.ErrKind}, {part(-1, has()), api.ErrKind}, {part(api.OpNot, api.Expr{}), api.ErrKind},
		{part(api.OpAnd), api.ErrShape}, {part(api.OpOr, has()), api.ErrShape}, {part(api.OpNot), api.ErrShape}, {part(api.OpNot, has(), has()), api.ErrShape}, {part(api.OpTrue, has()), api.ErrShape}, {part(api.OpHas, has()), api.ErrShape},
		{api.Expr{Op: api.OpTrue, Kind: "user"}, api.ErrShape}, {api.Expr{Op: api.OpSegment, Kind: "user", Name: "beta"}, api.ErrShape}, {api.Expr{Op: api.OpTrue, Name: "beta"}, api.ErrShape}, {api.Expr{Op: api.OpNot, Name: "beta", Kids: []api.Expr{has()}}, api.ErrShape},
		{ask(api.OpIn), api.ErrShape}, {ask(api.OpEquals), api.ErrShape}, {ask(api.OpAtLeast, number(1), number(2)), api.ErrShape}, {ask(api.OpHas, number(1)), api.ErrShape}, {api.Expr{Op: api.OpSegment, Name: "beta", Values: []api.Value{number(1)}}, api.ErrShape},
		{part(api.OpAnd, times(13, has())...), api.ErrTooMany}, {ask(api.OpIn, times(21, number(1))...), api.ErrTooMany}, {part(api.OpAnd, times(13, part(api.OpAnd))...), api.ErrTooMany}, {api.Expr{Op: api.OpIn, Values: times(21, api.Value{})}, api.ErrTooMany}, {ask(api.OpEquals, times(21, number(1))...), api.ErrShape},
		{part(api.OpAnd, has(), part(api.OpAnd, has(), has())), api.ErrShape}, {part(api.OpOr, api.Expr{}, part(api.OpOr)), api.ErrShape},
		{api.Expr{Op: api.OpSegment}, api.ErrKey}, {api.Expr{Op: api.OpSegment, Name: "Beta"}, api.ErrKey}, {api.Expr{Op: api.OpHas, Name: "age"}, api.ErrKey}, {api.Expr{Op: api.OpHas, Kind: "user"}, api.ErrKey}, {api.Expr{Op: api.OpEquals, Kind: "is", Name: "age", Values: []api.Value{{}}}, api.ErrKey},
		{ask(api.OpIn, number(1<<41), api.Value{}), api.ErrRange}, {ask(api.OpStarts, version("1")), api.ErrSyntax}, {ask(api.OpStarts, version("1.2.3")), api.ErrType}, {ask(api.OpEnds, number(1)), api.ErrType}, {ask(api.OpContains, list("a")), api.ErrType},
		{part(api.OpAnd, ask(api.OpStarts, number(1)), api.Expr{}), api.ErrType}, {part(api.OpAnd, part(api.OpNot, api.Expr{Op: api.OpSegment}), api.Expr{}), api.ErrKey},
	} {
		if e := checkExpr(t, c.e); e != c.want {
			t.Errorf("P6.1: case %d: Expr(%s) = %d, want %d", i, show(c.e), e, c.want)
		}
	}
}

func TestExprOfAllParts(t *testing.T) {
	seen := tally{}
	alone(func(e api.Expr) { seen[checkExpr(t, e)]++ })
	seen.expect(t, slices.DeleteFunc(slices.Clone(exprErrors), func(e api.Errno) bool { return e == api.ErrDepth })...)
}

// wrongParts returns parts with errors of different kinds.
func wrongParts() []api.Expr {
	return []api.Expr{{}, part(api.OpAnd), ask(api.OpIn), ask(api.OpIn, times(21, number(1))...), {Op: api.OpSegment}, ask(api.OpLess, number(1<<41)), ask(api.OpEnds, truth(1)), part(api.OpNot, api.Expr{}), part(api.OpAnd, part(api.OpAnd), api.Expr{})}
}

func TestExprOfDepths(t *testing.T) {
	for n := range 70 {
		for _, e := range append(wrongParts(), has(), part(api.OpTrue), part(api.OpOr, has(), has())) {
			checkExpr(t, chain(n, e))
			checkExpr(t, part(api.OpAnd, has(), chain(n, e)))
			checkExpr(t, part(api.OpAnd, chain(n, e), api.Expr{}))
		}
	}
	for n, want := range map[int]api.Errno{8: api.OK, 9: api.OK, 10: api.ErrDepth, 11: api.ErrDepth, 59: api.ErrDepth, 60: api.ErrDepth, 200: api.ErrDepth} {
		if e := Expr(chain(n, has())); e != want {
			t.Errorf("P6.1: Expr of a part in %d others = %d, want %d", n, e, want)
		}
	}
	if e := Expr(chain(10, api.Expr{})); e != api.ErrDepth {
		t.Errorf("P6.1: Expr of a part in 10 others with another error = %d", e)
	}
}

func TestExprOfNumbersOfParts(t *testing.T) {
	for n := 4; n <= 70; n++ {
		for _, last := range append(wrongParts(), has(), chain(1, has()), chain(2, has()), chain(3, has()), chain(4, has())) {
			e := rows(n, last)
			if len(wantParts(e, 0)) != n+len(wantParts(last, 0))-1 {
				t.Fatalf("rows(%d) has %d parts", n, len(wantParts(e, 0)))
			}
			checkExpr(t, e)
		}
	}
	for n, want := range map[int]api.Errno{59: api.OK, 60: api.OK, 61: api.ErrTooMany, 62: api.ErrTooMany} {
		e := rows(n, has())
		if got := Expr(e); got != want || Parts(e) != min(n, 61) {
			t.Errorf("P6.1: Expr of %d parts = %d, want %d, Parts = %d", n, got, want, Parts(e))
		}
	}
}

// TestExprOfTheLastPartAtTheGreatestDepth has both ErrTooMany and ErrDepth, or one of them, at the same part.
func TestExprOfTheLastPartAtTheGreatestDepth(t *testing.T) {
	seen := tally{}
	for n := 40; n <= 60; n++ {
		for depth := range 13 {
			seen[checkExpr(t, rows(n, chain(depth, has())))]++
			seen[checkExpr(t, rows(n, chain(depth, api.Expr{})))]++
		}
	}
	seen.expect(t, api.ErrTooMany, api.ErrDepth, api.ErrKind)
	if e := Expr(rows(52, chain(9, has()))); e != api.ErrTooMany {
		t.Errorf("P6.1: Expr of a part behind 60 others and in 10 others = %d", e)
	}
	if e := Expr(rows(51, chain(9, api.Expr{}))); e != api.ErrDepth {
		t.Errorf("P6.1: Expr of a part behind 59 others and in 10 others = %d", e)
	}
}

func randomLeaf(r *rand.Rand) api.Expr {
	switch r.Intn(12) {
	case 0:
		return part(api.OpTrue)
	case 1:
		return api.Expr{Op: api.OpSegment, Name: "beta"}
	case 2:
		return has()
	case 3:
		return ask(api.OpIn, times(1+r.Intn(20), textValue("x"))...)
	default:
		return ask([]int{7, 9, 10, 11, 12, 13, 14, 15}[r.Intn(8)], textValue("x"))
	}
}

// randomExpr returns a condition that is well-formed unless it is too large, or, once in odds parts, has an error.
func randomExpr(r *rand.Rand, depth, outer, odds int) api.Expr {
	if r.Intn(odds) == 0 {
		wrong := wrongParts()
		return wrong[r.Intn(len(wrong))]
	}
	if depth == 0 || r.Intn(5) < 2 {
		return randomLeaf(r)
	}
	op := 2 + r.Intn(3)
	if op == outer && op != api.OpNot {
		op = 5 - op
	}
	n := 1
	if op != api.OpNot {
		n = 2 + r.Intn(3)
	}
	e := part(op)
	for range n {
		e.Kids = append(e.Kids, randomExpr(r, depth-1, op, odds))
	}
	return e
}

func TestExprOfRandomConditions(t *testing.T) {
	r := rand.New(rand.NewSource(1))
	seen := tally{}
	for range 20000 {
		seen[checkExpr(t, randomExpr(r, 1+r.Intn(11), 0, 20+r.Intn(300)))]++
	}
	seen.expect(t, api.ErrTooMany, api.ErrDepth, api.ErrKind, api.ErrShape, api.ErrKey, api.ErrRange, api.ErrType)
}

// TestEndlessConditions has conditions that contain themselves, and one whose parts nobody could count one by one.
func TestEndlessConditions(t *testing.T) {
	not := part(api.OpNot, api.Expr{})
	not.Kids[0] = not
	turns := part(api.OpAnd, has(), part(api.OpOr, has(), api.Expr{}))
	turns.Kids[1].Kids[1] = turns
	wide := api.Expr{Op: api.OpOr, Kids: make([]api.Expr, 12)}
	for i := range wide.Kids {
		wide.Kids[i] = part(api.OpNot, wide)
	}
	huge := has()
	for i := range 1000 {
		huge = part(api.OpAnd+i%2, huge, huge)
	}
	early := part(api.OpAnd, times(12, part(api.OpOr, times(6, has())...))...)
	early.Kids[11] = early
	for name, c := range map[string]struct {
		e    api.Expr
		want api.Errno
	}{"not": {not, api.ErrDepth}, "turns": {turns, api.ErrDepth}, "wide": {wide, api.ErrDepth}, "huge": {huge, api.ErrDepth}, "early": {part(api.OpNot, part(api.OpOr, has(), part(api.OpAnd, times(12, part(api.OpOr, times(6, has())...))...))), api.ErrTooMany}, "again": {early, api.ErrShape}} {
		if e := Expr(c.e); e != c.want {
			t.Errorf("G1: Expr of %s = %d, want %d", name, e, c.want)
		}
		if n := Parts(c.e); n != 61 {
			t.Errorf("P6.1: Parts of %s = %d", name, n)
		}
		if None(c.e) {
			t.Errorf("P6.1: None of %s", name)
		}
	}
}

func TestPartsOfParts(t *testing.T) {
	for i, c := range []struct {
		e    api.Expr
		want int
	}{
		{api.Expr{}, 1}, {has(), 1}, {api.Expr{Op: -7, Kids: []api.Expr{{}, {}}}, 3}, {chain(59, has()), 60}, {chain(60, has()), 61}, {chain(61, has()), 61}, {part(0, make([]api.Expr, 59)...), 60}, {part(0, make([]api.Expr, 60)...), 61}, {part(0, make([]api.Expr, 1<<20)...), 61},
		{part(0, part(0, make([]api.Expr, 29)...), part(0, make([]api.Expr, 28)...)), 60}, {part(0, api.Expr{}, part(0, make([]api.Expr, 29)...), part(0, make([]api.Expr, 28)...)), 61}, {chain(1<<16, api.Expr{}), 61},
	} {
		if n := Parts(c.e); n != c.want {
			t.Errorf("P6.1: case %d: Parts = %d, want %d", i, n, c.want)
		}
	}
}

func TestNone(t *testing.T) {
	for i, c := range []struct {
		e    api.Expr
		want bool
	}{
		{api.Expr{}, true}, {api.Expr{Values: []api.Value{}, Kids: []api.Expr{}}, true}, {api.Expr{Values: make([]api.Value, 0, 5)}, true},
		{api.Expr{Op: 1}, false}, {api.Expr{Op: -1}, false}, {api.Expr{Kind: " "}, false}, {api.Expr{Name: "\x00"}, false}, {api.Expr{Values: []api.Value{{}}}, false}, {api.Expr{Kids: []api.Expr{{}}}, false},
	} {
		if got := None(c.e); got != c.want {
			t.Errorf("P6.1: case %d: None = %v", i, got)
		}
	}
}

// Splits and spans

// split returns ranges of three numbers each.
func split(numbers ...int) []api.Range {
	var l []api.Range
	for c := range slices.Chunk(numbers, 3) {
		l = append(l, api.Range{From: c[0], To: c[1], Variation: c[2]})
	}
	return l
}

// spans returns spans of two numbers each.
func spans(numbers ...int) []api.Span {
	var l []api.Span
	for c := range slices.Chunk(numbers, 2) {
		l = append(l, api.Span{From: c[0], To: c[1]})
	}
	return l
}

// cools returns spans of three numbers each.
func cools(numbers ...int) []api.Cool {
	var l []api.Cool
	for c := range slices.Chunk(numbers, 3) {
		l = append(l, api.Cool{From: c[0], To: c[1], Until: c[2]})
	}
	return l
}

// splitRules reads P6.2 literally.
func splitRules(l []api.Range, variations int) []rule {
	rules := []rule{{len(l) > 16, api.ErrTooMany}}
	for i, r := range l {
		from := 0
		if i > 0 {
			from = l[i-1].To
		}
		rules = append(rules,
			rule{outside(r.Variation, 1, variations), api.ErrRange},
			rule{r.From != from, api.ErrOrder},
			rule{r.To <= r.From, api.ErrOrder},
			rule{i > 0 && l[max(i-1, 0)].Variation == r.Variation, api.ErrOrder})
	}
	return append(rules, rule{len(l) == 0 || l[len(l)-1].To != 10000, api.ErrRange})
}

func checkSplit(t *testing.T, l []api.Range, variations int) api.Errno {
	t.Helper()
	got, want := Split(l, variations), first(splitRules(l, variations)...)
	if got != want {
		t.Fatalf("P6.2: Split(%s, %d) = %d, want %d", show(l), variations, got, want)
	}
	if got == api.OK {
		checkBuckets(t, l)
	}
	return got
}

// checkBuckets is P6.8.
func checkBuckets(t *testing.T, l []api.Range) {
	t.Helper()
	var times [api.Buckets]int
	for _, r := range l {
		for bucket := r.From; bucket < r.To; bucket++ {
			times[bucket]++
		}
	}
	for bucket, n := range times {
		if n != 1 {
			t.Fatalf("P6.8: the split %s contains the bucket %d %d times", show(l), bucket, n)
		}
	}
}

// even returns a split with n ranges whose variations are 1, 2, 1, 2, ..
func even(n int) []api.Range {
	var l []api.Range
	for i := range n {
		l = append(l, api.Range{From: i * 10000 / n, To: (i + 1) * 10000 / n, Variation: 1 + i%2})
	}
	return l
}

func TestSplitExamples(t *testing.T) {
	for i, c := range []struct {
		l          []api.Range
		variations int
		want       api.Errno
	}{
		{split(0, 10000, 2), 2, api.OK}, {split(0, 10000, 2), 1, api.ErrRange}, {split(0, 10000, 1), math.MaxInt, api.OK}, {split(0, 10000, math.MaxInt), math.MaxInt, api.OK},
		{split(0, 1, 1, 1, 9999, 2, 9999, 10000, 1), 2, api.OK}, {even(16), 2, api.OK}, {even(17), 2, api.ErrTooMany}, {make([]api.Range, 17), 2, api.ErrTooMany}, {make([]api.Range, 16), 2, api.ErrRange},
		{nil, 2, api.ErrRange}, {[]api.Range{}, 2, api.ErrRange}, {nil, 0, api.ErrRange}, {split(0, 10000, 0), 2, api.ErrRange}, {split(0, 10000, -1), 2, api.ErrRange}, {split(0, 10000, 1), 0, api.ErrRange}, {split(0, 10000, -1), -1, api.ErrRange}, {split(5, 5, 3), 2, api.ErrRange},
		{split(0, 9999, 1), 2, api.ErrRange}, {split(0, 10001, 1), 2, api.ErrRange}, {split(0, math.MaxInt, 1), 2, api.ErrRange}, {split(0, 10000, 1, 10000, 10001, 2), 2, api.ErrRange},
		{split(1, 10000, 1), 2, api.ErrOrder}, {split(-1, 10000, 1), 2, api.ErrOrder}, {split(0, 0, 1), 2, api.ErrOrder}, {split(0, -1, 1), 2, api.ErrOrder}, {split(0, 5, 1, 4, 10000, 2), 2, api.ErrOrder}, {split(0, 5, 1, 6, 10000, 2), 2, api.ErrOrder}, {split(0, 5, 1, 5, 10000, 1), 2, api.ErrOrder}, {split(0, 5, 1, 5, 5, 2), 2, api.ErrOrder}, {split(0, 10000, 1, 10000, 10000, 2), 2, api.ErrOrder}, {split(0, math.MaxInt, 1, math.MaxInt, math.MinInt, 2), 2, api.ErrOrder}, {split(1, 5, 1, 5, 10000, 3), 2, api.ErrOrder}, {split(0, 5, 1, 6, 10000, 3), 2, api.ErrRange},
	} {
		if e := checkSplit(t, c.l, c.variations); e != c.want {
			t.Errorf("P6.2: case %d: Split = %d, want %d", i, e, c.want)
		}
	}
}

func TestSplitOfManyLists(t *testing.T) {
	var pool []api.Range
	for _, from := range []int{-1, 0, 5, 10000, math.MaxInt} {
		for _, to := range []int{math.MinInt, 0, 5, 6, 10000, math.MaxInt} {
			for _, variation := range []int{0, 1, 2, 3} {
				pool = append(pool, api.Range{From: from, To: to, Variation: variation})
			}
		}
	}
	seen := tally{}
	tuples(pool, 2, func(l []api.Range) {
		for _, variations := range strangeNumbers {
			seen[checkSplit(t, l, variations)]++
		}
	})
	tuples(split(0, 4, 1, 0, 10000, 1, 4, 9, 1, 4, 9, 2, 9, 4, 2, 9, 10000, 1, 9, 10000, 2, 9, 9, 1, 4, 10000, 3), 4, func(l []api.Range) {
		for variations := range 5 {
			seen[checkSplit(t, l, variations)]++
		}
	})
	for n := 1; n < 40; n++ {
		for variations := range 4 {
			seen[checkSplit(t, even(n), variations)]++
		}
	}
	seen.expect(t, api.ErrTooMany, api.ErrRange, api.ErrOrder)
}

// randomSplit returns a well-formed split for eight variations.
func randomSplit(r *rand.Rand) []api.Range {
	cuts := []int{0, 10000}
	for range r.Intn(15) {
		cuts = append(cuts, 1+r.Intn(9999)>>r.Intn(14))
	}
	slices.Sort(cuts)
	cuts = slices.Compact(cuts)
	var l []api.Range
	before := 0
	for i := 1; i < len(cuts); i++ {
		before = 1 + (before+r.Intn(7))%8
		l = append(l, api.Range{From: cuts[i-1], To: cuts[i], Variation: before})
	}
	return l
}

// TestSplitOfChangedLists changes one number of a well-formed split by little.
func TestSplitOfChangedLists(t *testing.T) {
	r := rand.New(rand.NewSource(2))
	seen := tally{}
	for range 2000 {
		l := randomSplit(r)
		if e := checkSplit(t, l, 8); e != api.OK {
			t.Fatalf("P6.2: Split(%s) = %d", show(l), e)
		}
		changed := slices.Clone(l)
		at, by := r.Intn(len(l)), 1-2*r.Intn(2)
		*[]*int{&changed[at].From, &changed[at].To, &changed[at].Variation}[r.Intn(3)] += by
		seen[checkSplit(t, changed, 8)]++
	}
	seen.expect(t, api.ErrRange, api.ErrOrder)
}

// spansRules reads P6.2 literally.
func spansRules(l []api.Span) []rule {
	rules := []rule{{len(l) > 16, api.ErrTooMany}}
	for i, s := range l {
		rules = append(rules, rule{s.From < 0 || s.To <= s.From || s.To > 10000, api.ErrRange}, rule{i > 0 && s.From <= l[max(i-1, 0)].To, api.ErrOrder})
	}
	return rules
}

func checkSpans(t *testing.T, l []api.Span) api.Errno {
	t.Helper()
	got, want := Spans(l), first(spansRules(l)...)
	if got != want {
		t.Fatalf("P6.2: Spans(%s) = %d, want %d", show(l), got, want)
	}
	return got
}

// apart returns n spans of one bucket each.
func apart(n int) []api.Span {
	var l []api.Span
	for i := range n {
		l = append(l, api.Span{From: 2 * i, To: 2*i + 1})
	}
	return l
}

func TestSpansExamples(t *testing.T) {
	for i, c := range []struct {
		l    []api.Span
		want api.Errno
	}{
		{nil, api.OK}, {[]api.Span{}, api.OK}, {spans(0, 10000), api.OK}, {spans(0, 1, 2, 3), api.OK}, {spans(9999, 10000), api.OK}, {apart(16), api.OK}, {apart(17), api.ErrTooMany}, {make([]api.Span, 17), api.ErrTooMany},
		{spans(-1, 5), api.ErrRange}, {spans(0, 0), api.ErrRange}, {spans(5, 4), api.ErrRange}, {spans(0, 10001), api.ErrRange}, {spans(0, 5, 3, 3), api.ErrRange}, {spans(math.MinInt, math.MaxInt), api.ErrRange},
		{spans(0, 5, 5, 6), api.ErrOrder}, {spans(0, 5, 4, 6), api.ErrOrder}, {spans(5, 6, 0, 1), api.ErrOrder}, {spans(0, 5, 0, 5), api.ErrOrder}, {spans(0, 5, 5, 6, 7, 7), api.ErrOrder}, {append(apart(15), api.Span{From: 29, To: 30}), api.ErrOrder},
	} {
		if e := checkSpans(t, c.l); e != c.want {
			t.Errorf("P6.2: case %d: Spans = %d, want %d", i, e, c.want)
		}
	}
}

func TestSpansOfManyLists(t *testing.T) {
	var pool []api.Span
	for _, from := range []int{math.MinInt, -1, 0, 1, 5, 6, 9999, 10000, math.MaxInt} {
		for _, to := range []int{math.MinInt, 0, 1, 5, 6, 7, 10000, 10001, math.MaxInt} {
			pool = append(pool, api.Span{From: from, To: to})
		}
	}
	seen := tally{}
	tuples(pool, 3, func(l []api.Span) { seen[checkSpans(t, l)]++ })
	for n := range 40 {
		seen[checkSpans(t, apart(n))]++
	}
	seen.expect(t, api.ErrTooMany, api.ErrRange, api.ErrOrder)
}

// serveRules reads P6.3 literally.
func serveRules(v api.Serve, variations int) []rule {
	if v.Variation != 0 {
		return []rule{{outside(v.Variation, 1, variations), api.ErrRange}, {v.Kind+v.By+v.Salt != "" || len(v.Split) > 0, api.ErrShape}}
	}
	return inOrder([]rule{{!text.Key(v.Kind), api.ErrKey}, {!text.Key(v.By), api.ErrKey}, {!text.Valid(v.Salt), api.ErrText}}, splitRules(v.Split, variations))
}

func checkServe(t *testing.T, v api.Serve, variations int) api.Errno {
	t.Helper()
	got, want := Serve(v, variations), first(serveRules(v, variations)...)
	if got != want {
		t.Fatalf("P6.3: Serve(%s, %d) = %d, want %d", show(v), variations, got, want)
	}
	return got
}

func TestServeExamples(t *testing.T) {
	all := split(0, 10000, 1)
	for i, c := range []struct {
		v    api.Serve
		want api.Errno
	}{
		{api.Serve{Variation: 1}, api.OK}, {api.Serve{Variation: 2}, api.OK}, {api.Serve{Variation: 2, Split: []api.Range{}}, api.OK}, {api.Serve{Kind: "user", By: "key", Split: all}, api.OK}, {api.Serve{Kind: "user", By: "team", Salt: "é", Split: even(16)}, api.OK},
		{api.Serve{Variation: 3}, api.ErrRange}, {api.Serve{Variation: -1}, api.ErrRange}, {api.Serve{Variation: 3, Kind: "user"}, api.ErrRange}, {api.Serve{Variation: 2, Kind: "user"}, api.ErrShape}, {api.Serve{Variation: 2, By: "key"}, api.ErrShape}, {api.Serve{Variation: 2, Salt: "\n"}, api.ErrShape}, {api.Serve{Variation: 2, Split: all}, api.ErrShape},
		{api.Serve{}, api.ErrKey}, {api.Serve{By: "key", Split: all}, api.ErrKey}, {api.Serve{Kind: "user", Salt: "\n"}, api.ErrKey}, {api.Serve{Kind: "user", By: "serve", Split: all}, api.ErrKey}, {api.Serve{Kind: "user", By: "key", Salt: "\n"}, api.ErrText}, {api.Serve{Kind: "user", By: "key", Salt: strings.Repeat("s", 201), Split: all}, api.ErrText}, {api.Serve{Kind: "user", By: "key"}, api.ErrRange}, {api.Serve{Kind: "user", By: "key", Split: even(17)}, api.ErrTooMany}, {api.Serve{Kind: "user", By: "key", Split: split(1, 10000, 1)}, api.ErrOrder},
	} {
		if e := checkServe(t, c.v, 2); e != c.want {
			t.Errorf("P6.3: case %d: Serve = %d, want %d", i, e, c.want)
		}
	}
}

func TestServeOfAllFields(t *testing.T) {
	seen := tally{}
	for _, variation := range append([]int{8, 9}, strangeNumbers...) {
		for _, variations := range append([]int{8, 9}, strangeNumbers...) {
			for _, kind := range []string{"", "user", "is"} {
				for _, by := range []string{"", "key", "Key"} {
					for _, salt := range []string{"", "s", "\xff", strings.Repeat("é", 100), strings.Repeat("é", 100) + "s"} {
						for _, split := range [][]api.Range{nil, {}, even(1), even(2), even(17), split(0, 10000, 8), split(0, 5, 1, 5, 10000, 1)} {
							seen[checkServe(t, api.Serve{Variation: variation, Kind: kind, By: by, Salt: salt, Split: split}, variations)]++
						}
					}
				}
			}
		}
	}
	seen.expect(t, api.ErrRange, api.ErrShape, api.ErrKey, api.ErrText, api.ErrTooMany, api.ErrOrder)
}

// Segments and flags

// wrongKeys and wrongTexts return what is no key and no text.
func wrongKeys() []string {
	return []string{"", "A", "aB", "1a", "is", "a b", "é", strings.Repeat("k", 33)}
}

func wrongTexts() []string {
	return []string{"\n", "\x7f", "\xff", strings.Repeat("x", 201), strings.Repeat("é", 101)}
}

// texts returns n ascending texts.
func texts(n int) []string {
	l := make([]string, n)
	for i := range l {
		l[i] = fmt.Sprintf("t%03d", i)
	}
	return l
}

func memberRules(l []string) []rule {
	rules := []rule{{len(l) > 40, api.ErrTooMany}}
	for i, s := range l {
		rules = append(rules, rule{s == "" || !text.Valid(s), api.ErrText}, rule{i > 0 && l[max(i-1, 0)] >= s, api.ErrOrder})
	}
	return rules
}

// segmentRules reads P6.4 literally.
func segmentRules(g api.Segment) []rule {
	rules := inOrder([]rule{{!text.Key(g.Key), api.ErrKey}, {!text.Key(g.Kind), api.ErrKey}}, memberRules(g.Include), memberRules(g.Exclude))
	if reflect.ValueOf(g.When).IsZero() || None(g.When) {
		return rules
	}
	return append(rules, rule{true, wantExpr(g.When)})
}

func checkSegment(t *testing.T, g api.Segment) api.Errno {
	t.Helper()
	got, want := Segment(g), first(segmentRules(g)...)
	if got != want {
		t.Fatalf("P6.4: Segment(%s) = %d, want %d", show(g), got, want)
	}
	return got
}

func someMembers() [][]string {
	l := [][]string{nil, {}, {"a"}, {"a", "b"}, {"b", "a"}, {"a", "a"}, {"a", "b", "a"}, {"a", "c", "b"}, {"ab", "a"}, {"B", "a", "é"}, {""}, {"a", ""}, {"", "\n"}, texts(40), texts(41), make([]string, 41), times(40, "x"), append(texts(39), "t"), append(texts(39), "\n"), {strings.Repeat("x", 200)}}
	for _, s := range wrongTexts() {
		l = append(l, []string{s}, []string{"a", s}, []string{"b", "a", s}, []string{s, "", "a"})
	}
	return l
}

func someConditions() []api.Expr {
	return append(wrongParts(), has(), chain(9, has()), chain(10, has()), rows(60, has()), rows(61, has()), api.Expr{Values: []api.Value{}, Kids: []api.Expr{}}, api.Expr{Name: "x"}, api.Expr{Kids: []api.Expr{{}}}, ask(api.OpEquals, list("b", "a")), ask(api.OpIn, textValue("\n")), ask(api.OpIn, version("")))
}

func TestSegmentExamples(t *testing.T) {
	for i, c := range []struct {
		g    api.Segment
		want api.Errno
	}{
		{api.Segment{Key: "beta", Kind: "user"}, api.OK}, {api.Segment{Key: "beta", Kind: "user", Include: texts(40), Exclude: texts(40), When: has()}, api.OK}, {api.Segment{Key: "beta", Kind: "user", Include: []string{"B", "a"}, Exclude: []string{"a"}}, api.OK},
		{api.Segment{}, api.ErrKey}, {api.Segment{Key: "Beta", Kind: "user", Include: texts(41)}, api.ErrKey}, {api.Segment{Key: "beta", Include: []string{""}}, api.ErrKey}, {api.Segment{Key: "beta", Kind: "user", Include: texts(41)}, api.ErrTooMany}, {api.Segment{Key: "beta", Kind: "user", Exclude: texts(41)}, api.ErrTooMany}, {api.Segment{Key: "beta", Kind: "user", Include: make([]string, 41)}, api.ErrTooMany},
		{api.Segment{Key: "beta", Kind: "user", Include: []string{""}}, api.ErrText}, {api.Segment{Key: "beta", Kind: "user", Exclude: []string{"a", "\x1f"}}, api.ErrText}, {api.Segment{Key: "beta", Kind: "user", Exclude: []string{"a", "a"}}, api.ErrOrder}, {api.Segment{Key: "beta", Kind: "user", Include: []string{"b", "a", ""}}, api.ErrOrder}, {api.Segment{Key: "beta", Kind: "user", Include: []string{"b", "a"}, Exclude: []string{""}}, api.ErrOrder}, {api.Segment{Key: "beta", Kind: "user", Include: []string{"a", ""}, Exclude: texts(41)}, api.ErrText},
		{api.Segment{Key: "beta", Kind: "user", Exclude: []string{"b", "a"}, When: api.Expr{Op: 99}}, api.ErrOrder}, {api.Segment{Key: "beta", Kind: "user", When: api.Expr{Name: "x"}}, api.ErrKind}, {api.Segment{Key: "beta", Kind: "user", When: ask(api.OpEnds, truth(0))}, api.ErrType}, {api.Segment{Key: "beta", Kind: "user", When: part(api.OpAnd, has())}, api.ErrShape}, {api.Segment{Key: "beta", Kind: "user", When: chain(10, has())}, api.ErrDepth},
	} {
		if e := checkSegment(t, c.g); e != c.want {
			t.Errorf("P6.4: case %d: Segment = %d, want %d", i, e, c.want)
		}
	}
}

func TestSegmentOfAllFields(t *testing.T) {
	seen := tally{}
	for _, include := range someMembers() {
		for _, exclude := range someMembers() {
			for _, when := range []api.Expr{{}, has(), {Op: 77}, {Op: api.OpSegment}} {
				seen[checkSegment(t, api.Segment{Key: "beta", Kind: "user", Include: include, Exclude: exclude, When: when})]++
			}
		}
	}
	for _, key := range append(wrongKeys(), "beta", strings.Repeat("k", 32)) {
		for _, kind := range append(wrongKeys(), "user", strings.Repeat("k", 32)) {
			for _, include := range someMembers() {
				seen[checkSegment(t, api.Segment{Key: key, Kind: kind, Include: include})]++
			}
		}
	}
	for _, when := range someConditions() {
		seen[checkSegment(t, api.Segment{Key: "beta", Kind: "user", When: when})]++
	}
	seen.expect(t, exprErrors...)
}

// flagRules reads P6.5 literally.
func flagRules(f api.Flag) []rule {
	n := len(f.Variations)
	return inOrder(
		[]rule{{!text.Key(f.Key), api.ErrKey}, {outside(f.Kind, 1, 5), api.ErrKind}, {n > 8, api.ErrTooMany}, {n == 0, api.ErrRange}},
		variationRules(f),
		[]rule{{outside(f.Off, 1, n), api.ErrRange}},
		needRules(f.Prerequisites),
		targetRules(f.Targets, n),
		ruleRules(f.Rules, n),
		serveRules(f.Default, n))
}

func variationRules(f api.Flag) []rule {
	var rules []rule
	for _, v := range f.Variations {
		rules = append(rules, rule{true, value.Check(v)}, rule{v.Kind != f.Kind, api.ErrType})
	}
	return rules
}

func needRules(l []api.Prerequisite) []rule {
	rules := []rule{{len(l) > 4, api.ErrTooMany}}
	for i, p := range l {
		rules = append(rules, rule{!text.Key(p.Flag), api.ErrKey}, rule{i > 0 && l[max(i-1, 0)].Flag >= p.Flag, api.ErrOrder}, rule{outside(p.Variation, 1, 8), api.ErrRange})
	}
	return rules
}

func targetRules(l []api.Target, n int) []rule {
	rules := []rule{{len(l) > 8, api.ErrTooMany}}
	for _, t := range l {
		rules = inOrder(rules, []rule{{!text.Key(t.Kind), api.ErrKey}, {outside(t.Variation, 1, n), api.ErrRange}, {len(t.Keys) == 0, api.ErrRange}}, memberRules(t.Keys))
	}
	return rules
}

func ruleRules(l []api.Rule, n int) []rule {
	rules := []rule{{len(l) > 12, api.ErrTooMany}}
	names := map[string]bool{}
	for _, r := range l {
		rules = inOrder(rules, []rule{{!text.Key(r.Name), api.ErrKey}, {names[r.Name], api.ErrDuplicate}, {true, wantExpr(r.When)}}, serveRules(r.Serve, n))
		names[r.Name] = true
	}
	return rules
}

func checkFlag(t *testing.T, f api.Flag) api.Errno {
	t.Helper()
	got, want := Flag(f), first(flagRules(f)...)
	if got != want {
		t.Fatalf("P6.5: Flag(%s) = %d, want %d", show(f), got, want)
	}
	return got
}

// sampleFlag returns a new well-formed flag.
func sampleFlag() api.Flag {
	return api.Flag{
		Key: "checkout", Kind: api.Number, On: true, Off: 1,
		Variations:    []api.Value{number(1), number(2), number(1)},
		Prerequisites: []api.Prerequisite{{Flag: "a", Variation: 1}, {Flag: "b", Variation: 8}},
		Targets:       []api.Target{{Kind: "user", Variation: 3, Keys: []string{"u1", "u2"}}, {Kind: "device", Variation: 1, Keys: []string{"d1"}}},
		Rules:         []api.Rule{{Name: "r2", When: has(), Serve: api.Serve{Variation: 3}}, {Name: "r1", When: part(api.OpTrue), Serve: api.Serve{Kind: "user", By: "key", Split: even(2)}}},
		Default:       api.Serve{Kind: "user", By: "team", Salt: "s", Split: split(0, 10000, 3)},
	}
}

func keyOf(prefix string, i int) string { return fmt.Sprintf("%s%03d", prefix, i) }

func needs(n int) []api.Prerequisite {
	var l []api.Prerequisite
	for i := range n {
		l = append(l, api.Prerequisite{Flag: keyOf("p", i), Variation: 1 + i%8})
	}
	return l
}

func targets(n int) []api.Target {
	return times(n, api.Target{Kind: "user", Variation: 1, Keys: texts(40)})
}

func rulesOf(n int) []api.Rule {
	var l []api.Rule
	for i := range n {
		l = append(l, api.Rule{Name: keyOf("r", n-i), When: part(api.OpTrue), Serve: api.Serve{Variation: 1}})
	}
	return l
}

// flagChanges returns changes of sampleFlag.
func flagChanges() []func(*api.Flag) {
	l := []func(*api.Flag){
		func(f *api.Flag) { f.Key = "" }, func(f *api.Flag) { f.Key = "Checkout" }, func(f *api.Flag) { f.On = false },
		func(f *api.Flag) { f.Variations = nil }, func(f *api.Flag) { f.Variations = make([]api.Value, 9) }, func(f *api.Flag) { f.Variations = times(9, number(1)) }, func(f *api.Flag) { f.Variations = times(8, number(1)) }, func(f *api.Flag) { f.Variations = []api.Value{number(1)} },
		func(f *api.Flag) { f.Prerequisites = needs(4) }, func(f *api.Flag) { f.Prerequisites = needs(5) }, func(f *api.Flag) { f.Prerequisites = make([]api.Prerequisite, 5) }, func(f *api.Flag) { f.Prerequisites = nil },
		func(f *api.Flag) { f.Targets = targets(8) }, func(f *api.Flag) { f.Targets = targets(9) }, func(f *api.Flag) { f.Targets = make([]api.Target, 9) }, func(f *api.Flag) { f.Targets = nil },
		func(f *api.Flag) { f.Rules = rulesOf(12) }, func(f *api.Flag) { f.Rules = rulesOf(13) }, func(f *api.Flag) { f.Rules = make([]api.Rule, 13) }, func(f *api.Flag) { f.Rules = nil },
		func(f *api.Flag) { f.Rules = append(f.Rules, *change(f.Rules, 0)) }, func(f *api.Flag) { f.Rules = append(f.Rules, *change(f.Rules, 1)) }, func(f *api.Flag) { f.Rules = append(f.Rules, api.Rule{Name: "r1"}) }, func(f *api.Flag) { f.Rules = append(f.Rules, api.Rule{Name: "r3"}) },
		func(f *api.Flag) { f.Default = api.Serve{} }, func(f *api.Flag) { f.Default.Salt = "\n" }, func(f *api.Flag) { change(f.Default.Split, 0).Variation = 4 }, func(f *api.Flag) { change(f.Default.Split, 0).From = 1 }, func(f *api.Flag) { f.Default.Variation = 1 }, func(f *api.Flag) { f.Default.Split = even(17) },
	}
	for _, n := range []int{math.MinInt, -1, 0, 1, 2, 3, 4, 5, 6, 8, 9, math.MaxInt} {
		l = append(l, func(f *api.Flag) { f.Kind = n }, func(f *api.Flag) { f.Off = n })
		l = append(l, func(f *api.Flag) { change(f.Prerequisites, 0).Variation = n }, func(f *api.Flag) { change(f.Prerequisites, 1).Variation = n })
		l = append(l, func(f *api.Flag) { change(f.Targets, 0).Variation = n }, func(f *api.Flag) { change(f.Targets, 1).Variation = n })
		l = append(l, func(f *api.Flag) { change(f.Rules, 0).Serve.Variation = n }, func(f *api.Flag) { change(f.Rules, 1).Serve.Variation = n })
	}
	for _, s := range []string{"", "A", "a", "aa", "b", "is", "r1", "r2", "user"} {
		l = append(l, func(f *api.Flag) { change(f.Prerequisites, 0).Flag = s }, func(f *api.Flag) { change(f.Prerequisites, 1).Flag = s })
		l = append(l, func(f *api.Flag) { change(f.Targets, 0).Kind = s }, func(f *api.Flag) { change(f.Targets, 1).Kind = s })
		l = append(l, func(f *api.Flag) { change(f.Rules, 0).Name = s }, func(f *api.Flag) { change(f.Rules, 1).Name = s })
	}
	for _, v := range []api.Value{{}, textValue("x"), number(1 << 41), number(7), list("b", "a"), {Kind: api.Number, Text: "x"}} {
		l = append(l, func(f *api.Flag) { *change(f.Variations, 0) = v }, func(f *api.Flag) { *change(f.Variations, 2) = v })
	}
	for _, keys := range someMembers() {
		l = append(l, func(f *api.Flag) { change(f.Targets, 0).Keys = keys }, func(f *api.Flag) { change(f.Targets, 1).Keys = keys })
	}
	for _, when := range []api.Expr{{}, part(api.OpAnd), {Op: api.OpSegment}, ask(api.OpEnds, truth(1)), chain(9, has()), chain(10, has())} {
		l = append(l, func(f *api.Flag) { change(f.Rules, 0).When = when }, func(f *api.Flag) { change(f.Rules, 1).When = when })
	}
	return l
}

// change returns the address of an element, or of something else if there is no such element.
func change[T any](l []T, i int) *T {
	if i < len(l) {
		return &l[i]
	}
	return new(T)
}

func TestFlagOfPairsOfChanges(t *testing.T) {
	seen := tally{}
	pairs(sampleFlag, flagChanges(), func(f api.Flag) { seen[checkFlag(t, f)]++ })
	seen.expect(t, api.ErrKey, api.ErrKind, api.ErrTooMany, api.ErrRange, api.ErrType, api.ErrOrder, api.ErrShape, api.ErrText, api.ErrDuplicate, api.ErrDepth)
}

func TestFlagExamples(t *testing.T) {
	for i, c := range []struct {
		change func(*api.Flag)
		want   api.Errno
	}{
		{func(f *api.Flag) {}, api.OK}, {func(f *api.Flag) { *f = api.Flag{} }, api.ErrKey}, {func(f *api.Flag) { f.Key, f.Kind = "on", 9 }, api.ErrKey}, {func(f *api.Flag) { f.Kind, f.Variations = 0, nil }, api.ErrKind}, {func(f *api.Flag) { f.Kind = 6 }, api.ErrKind}, {func(f *api.Flag) { f.Variations = make([]api.Value, 9) }, api.ErrTooMany}, {func(f *api.Flag) { f.Variations = []api.Value{} }, api.ErrRange}, {func(f *api.Flag) { f.Variations = nil; f.Prerequisites = needs(5) }, api.ErrRange},
		{func(f *api.Flag) { f.Variations[0], f.Off = truth(2), 0 }, api.ErrRange}, {func(f *api.Flag) { f.Variations[0], f.Variations[1] = truth(1), api.Value{} }, api.ErrType}, {func(f *api.Flag) { f.Variations[0], f.Variations[1] = api.Value{}, truth(1) }, api.ErrKind}, {func(f *api.Flag) { f.Variations[2].Text = "x" }, api.ErrShape}, {func(f *api.Flag) { f.Off, f.Prerequisites = 0, needs(5) }, api.ErrRange}, {func(f *api.Flag) { f.Off = 4 }, api.ErrRange},
		{func(f *api.Flag) { f.Prerequisites = needs(5) }, api.ErrTooMany}, {func(f *api.Flag) { f.Prerequisites[0] = api.Prerequisite{} }, api.ErrKey}, {func(f *api.Flag) { f.Prerequisites[1] = api.Prerequisite{Flag: "a"} }, api.ErrOrder}, {func(f *api.Flag) { f.Prerequisites[1].Variation = 9 }, api.ErrRange}, {func(f *api.Flag) { f.Prerequisites[0].Variation, f.Prerequisites[1].Flag = 0, "" }, api.ErrRange}, {func(f *api.Flag) { f.Prerequisites[0].Flag, f.Targets = "b", targets(9) }, api.ErrOrder},
		{func(f *api.Flag) { f.Targets = targets(9) }, api.ErrTooMany}, {func(f *api.Flag) { f.Targets[0] = api.Target{} }, api.ErrKey}, {func(f *api.Flag) { f.Targets[0].Variation = 0 }, api.ErrRange}, {func(f *api.Flag) { f.Targets[0].Variation = 4 }, api.ErrRange}, {func(f *api.Flag) { f.Targets[1].Keys = nil }, api.ErrRange}, {func(f *api.Flag) { f.Targets[1].Keys = make([]string, 41) }, api.ErrTooMany}, {func(f *api.Flag) { f.Targets[1].Keys = []string{""} }, api.ErrText}, {func(f *api.Flag) { f.Targets[0].Keys[1] = "u1" }, api.ErrOrder}, {func(f *api.Flag) { f.Targets[0].Keys[1], f.Targets[1].Kind = "u1", "" }, api.ErrOrder}, {func(f *api.Flag) { f.Targets[1].Keys[0], f.Rules = "\n", rulesOf(13) }, api.ErrText},
		{func(f *api.Flag) { f.Rules = rulesOf(13) }, api.ErrTooMany}, {func(f *api.Flag) { f.Rules[0].Name = "" }, api.ErrKey}, {func(f *api.Flag) { f.Rules[1] = api.Rule{Name: "r2"} }, api.ErrDuplicate}, {func(f *api.Flag) { f.Rules[0].When = api.Expr{} }, api.ErrKind}, {func(f *api.Flag) { f.Rules[0].When, f.Rules[0].Serve = part(api.OpNot), api.Serve{} }, api.ErrShape}, {func(f *api.Flag) { f.Rules[0].Serve, f.Rules[1].Name = api.Serve{Variation: 4}, "r2" }, api.ErrRange}, {func(f *api.Flag) { f.Rules[1].Serve.Split[1].Variation = 4 }, api.ErrRange}, {func(f *api.Flag) { f.Rules = append(f.Rules, f.Rules[0]) }, api.ErrDuplicate}, {func(f *api.Flag) { f.Rules[1].Serve, f.Default = api.Serve{Variation: 1, Salt: "s"}, api.Serve{} }, api.ErrShape},
		{func(f *api.Flag) { f.Default = api.Serve{} }, api.ErrKey}, {func(f *api.Flag) { f.Default.Split = nil }, api.ErrRange}, {func(f *api.Flag) { f.Default = api.Serve{Variation: 4} }, api.ErrRange}, {func(f *api.Flag) { f.Default = api.Serve{Variation: 3} }, api.OK},
	} {
		f := sampleFlag()
		c.change(&f)
		if e := checkFlag(t, f); e != c.want {
			t.Errorf("P6.5: case %d: Flag = %d, want %d", i, e, c.want)
		}
	}
}

// TestFlagOfKinds has a flag of each Kind with values of each Kind, valid and not.
func TestFlagOfKinds(t *testing.T) {
	values := []api.Value{truth(0), truth(2), number(5), number(-1 << 41), textValue("x"), textValue("\n"), version("1.2.3"), version("1.2"), list("a"), list("b", "a"), {}, {Kind: 6}}
	for kind := -1; kind < 8; kind++ {
		for _, v := range values {
			for _, w := range values {
				f := api.Flag{Key: "f", Kind: kind, Variations: []api.Value{v, w}, Off: 2, Default: api.Serve{Variation: 1}}
				e := checkFlag(t, f)
				if ok := v.Kind == kind && w.Kind == kind && value.Check(v) == api.OK && value.Check(w) == api.OK; (e == api.OK) != ok {
					t.Errorf("P6.5: Flag(%s) = %d", show(f), e)
				}
			}
		}
	}
}

// Layers and experiments

// layerRules reads P6.6 literally.
func layerRules(l api.Layer) []rule {
	rules := []rule{
		{!text.Key(l.Key), api.ErrKey}, {!text.Key(l.Kind), api.ErrKey}, {!text.Valid(l.Salt), api.ErrText}, {outside(l.Holdout, 0, 10000), api.ErrRange}, {outside(l.Cool, 0, 1<<40), api.ErrRange}, {len(l.Cooling) > 32, api.ErrTooMany},
	}
	for i, c := range l.Cooling {
		rules = append(rules, rule{c.From < 0 || c.To <= c.From || c.To > 10000, api.ErrRange}, rule{outside(c.Until, 0, 1<<40), api.ErrRange}, rule{i > 0 && c.From < l.Cooling[max(i-1, 0)].To, api.ErrOrder})
	}
	return rules
}

func checkLayer(t *testing.T, l api.Layer) api.Errno {
	t.Helper()
	got, want := Layer(l), first(layerRules(l)...)
	if got != want {
		t.Fatalf("P6.6: Layer(%s) = %d, want %d", show(l), got, want)
	}
	return got
}

// cooling returns n spans that touch each other.
func cooling(n int) []api.Cool {
	var l []api.Cool
	for i := range n {
		l = append(l, api.Cool{From: 3 * i, To: 3*i + 3, Until: (n - i) % 5})
	}
	return l
}

func sampleLayer() api.Layer {
	return api.Layer{Key: "home", Kind: "user", Salt: "s", Holdout: 100, Cool: 60, Cooling: cools(0, 10, 5, 10, 20, 0, 30, 10000, 1<<40)}
}

func layerChanges() []func(*api.Layer) {
	l := []func(*api.Layer){
		func(l *api.Layer) { l.Cooling = nil }, func(l *api.Layer) { l.Cooling = cooling(32) }, func(l *api.Layer) { l.Cooling = cooling(33) }, func(l *api.Layer) { l.Cooling = make([]api.Cool, 33) },
	}
	for _, s := range append(wrongKeys(), "home") {
		l = append(l, func(l *api.Layer) { l.Key = s }, func(l *api.Layer) { l.Kind = s })
	}
	for _, s := range append(wrongTexts(), "", strings.Repeat("é", 100)) {
		l = append(l, func(l *api.Layer) { l.Salt = s })
	}
	for _, n := range []int{math.MinInt, -1, 0, 9, 10, 11, 9999, 10000, 10001, 1 << 40, 1<<40 + 1, math.MaxInt} {
		l = append(l, func(l *api.Layer) { l.Holdout = n }, func(l *api.Layer) { l.Cool = n })
		for i := range 3 {
			l = append(l, func(l *api.Layer) { change(l.Cooling, i).From = n }, func(l *api.Layer) { change(l.Cooling, i).To = n }, func(l *api.Layer) { change(l.Cooling, i).Until = n })
		}
	}
	return l
}

func TestLayerOfPairsOfChanges(t *testing.T) {
	seen := tally{}
	pairs(sampleLayer, layerChanges(), func(l api.Layer) { seen[checkLayer(t, l)]++ })
	seen.expect(t, api.ErrKey, api.ErrText, api.ErrRange, api.ErrTooMany, api.ErrOrder)
}

func TestLayerExamples(t *testing.T) {
	for i, c := range []struct {
		change func(*api.Layer)
		want   api.Errno
	}{
		{func(l *api.Layer) {}, api.OK}, {func(l *api.Layer) { *l = api.Layer{Key: "home", Kind: "user"} }, api.OK}, {func(l *api.Layer) { l.Holdout, l.Cool, l.Cooling = 10000, 1<<40, cooling(32) }, api.OK}, {func(l *api.Layer) { l.Cooling = cools(0, 10000, 1<<40) }, api.OK},
		{func(l *api.Layer) { *l = api.Layer{} }, api.ErrKey}, {func(l *api.Layer) { l.Key, l.Salt = "layer", "\n" }, api.ErrKey}, {func(l *api.Layer) { l.Kind, l.Salt = "", "\n" }, api.ErrKey}, {func(l *api.Layer) { l.Salt, l.Holdout = "\n", -1 }, api.ErrText}, {func(l *api.Layer) { l.Holdout, l.Cooling = -1, cooling(33) }, api.ErrRange}, {func(l *api.Layer) { l.Holdout = 10001 }, api.ErrRange}, {func(l *api.Layer) { l.Cool, l.Cooling = -1, cooling(33) }, api.ErrRange}, {func(l *api.Layer) { l.Cool = 1<<40 + 1 }, api.ErrRange}, {func(l *api.Layer) { l.Cooling = make([]api.Cool, 33) }, api.ErrTooMany},
		{func(l *api.Layer) { l.Cooling[0].From = -1 }, api.ErrRange}, {func(l *api.Layer) { l.Cooling[0].To = 0 }, api.ErrRange}, {func(l *api.Layer) { l.Cooling[2].To = 10001 }, api.ErrRange}, {func(l *api.Layer) { l.Cooling[1].Until = -1 }, api.ErrRange}, {func(l *api.Layer) { l.Cooling[1].Until = 1<<40 + 1 }, api.ErrRange}, {func(l *api.Layer) { l.Cooling[1].From = 9 }, api.ErrOrder}, {func(l *api.Layer) { l.Cooling[1].From, l.Cooling[1].Until = 9, -1 }, api.ErrRange}, {func(l *api.Layer) { l.Cooling[1].From, l.Cooling[2].Until = 9, -1 }, api.ErrOrder}, {func(l *api.Layer) { l.Cooling[2].From = 0 }, api.ErrOrder},
	} {
		l := sampleLayer()
		c.change(&l)
		if e := checkLayer(t, l); e != c.want {
			t.Errorf("P6.6: case %d: Layer = %d, want %d", i, e, c.want)
		}
	}
}

// experimentRules reads P6.6 literally.
func experimentRules(x api.Experiment) []rule {
	return inOrder(
		[]rule{{!text.Key(x.Key), api.ErrKey}, {!text.Key(x.Layer), api.ErrKey}, {!text.Key(x.Flag), api.ErrKey}, {!text.Valid(x.Salt), api.ErrText}, {outside(x.Status, 1, 3), api.ErrKind}},
		spansRules(x.Claims), splitRules(x.Arms, 8), []rule{{true, wantExpr(x.When)}})
}

func checkExperiment(t *testing.T, x api.Experiment) api.Errno {
	t.Helper()
	got, want := Experiment(x), first(experimentRules(x)...)
	if got != want {
		t.Fatalf("P6.6: Experiment(%s) = %d, want %d", show(x), got, want)
	}
	return got
}

func sampleExperiment() api.Experiment {
	return api.Experiment{Key: "trial", Layer: "home", Flag: "checkout", Salt: "s", Status: api.Running, Claims: spans(0, 5, 10, 20), Arms: split(0, 5000, 1, 5000, 10000, 8), When: has()}
}

func experimentChanges() []func(*api.Experiment) {
	l := []func(*api.Experiment){
		func(x *api.Experiment) { x.Claims = nil }, func(x *api.Experiment) { x.Claims = apart(16) }, func(x *api.Experiment) { x.Claims = apart(17) }, func(x *api.Experiment) { x.Arms = nil }, func(x *api.Experiment) { x.Arms = even(16) }, func(x *api.Experiment) { x.Arms = even(17) },
	}
	for _, s := range append(wrongKeys(), "home") {
		l = append(l, func(x *api.Experiment) { x.Key = s }, func(x *api.Experiment) { x.Layer = s }, func(x *api.Experiment) { x.Flag = s })
	}
	for _, s := range append(wrongTexts(), "", strings.Repeat("é", 100)) {
		l = append(l, func(x *api.Experiment) { x.Salt = s })
	}
	for _, n := range []int{math.MinInt, -1, 0, 1, 2, 3, 4, 5, 6, 8, 9, 5000, 10000, 10001, math.MaxInt} {
		l = append(l, func(x *api.Experiment) { x.Status = n })
		for i := range 2 {
			l = append(l, func(x *api.Experiment) { change(x.Claims, i).From = n }, func(x *api.Experiment) { change(x.Claims, i).To = n })
			l = append(l, func(x *api.Experiment) { change(x.Arms, i).From = n }, func(x *api.Experiment) { change(x.Arms, i).To = n }, func(x *api.Experiment) { change(x.Arms, i).Variation = n })
		}
	}
	for _, when := range someConditions() {
		l = append(l, func(x *api.Experiment) { x.When = when })
	}
	return l
}

func TestExperimentOfPairsOfChanges(t *testing.T) {
	seen := tally{}
	pairs(sampleExperiment, experimentChanges(), func(x api.Experiment) { seen[checkExperiment(t, x)]++ })
	seen.expect(t, exprErrors...)
}

func TestExperimentExamples(t *testing.T) {
	for i, c := range []struct {
		change func(*api.Experiment)
		want   api.Errno
	}{
		{func(x *api.Experiment) {}, api.OK}, {func(x *api.Experiment) { x.Salt, x.Status, x.Claims = "", api.Draft, nil }, api.OK}, {func(x *api.Experiment) { x.Status, x.Claims, x.Arms = api.Stopped, apart(16), even(16) }, api.OK},
		{func(x *api.Experiment) { *x = api.Experiment{} }, api.ErrKey}, {func(x *api.Experiment) { x.Key, x.Salt = "Trial", "\n" }, api.ErrKey}, {func(x *api.Experiment) { x.Layer, x.Salt = "", "\n" }, api.ErrKey}, {func(x *api.Experiment) { x.Flag, x.Salt = "flag", "\n" }, api.ErrKey}, {func(x *api.Experiment) { x.Salt, x.Status = "\xff", 0 }, api.ErrText}, {func(x *api.Experiment) { x.Status, x.Claims = 0, apart(17) }, api.ErrKind}, {func(x *api.Experiment) { x.Status = 4 }, api.ErrKind},
		{func(x *api.Experiment) { x.Claims, x.Arms = apart(17), nil }, api.ErrTooMany}, {func(x *api.Experiment) { x.Claims[1].From, x.Arms = 5, nil }, api.ErrOrder}, {func(x *api.Experiment) { x.Claims[1].To = 10 }, api.ErrRange}, {func(x *api.Experiment) { x.Arms, x.When = nil, api.Expr{} }, api.ErrRange}, {func(x *api.Experiment) { x.Arms[1].Variation = 9 }, api.ErrRange}, {func(x *api.Experiment) { x.Arms[1].Variation, x.When = 1, api.Expr{} }, api.ErrOrder}, {func(x *api.Experiment) { x.Arms = even(17) }, api.ErrTooMany},
		{func(x *api.Experiment) { x.When = api.Expr{} }, api.ErrKind}, {func(x *api.Experiment) { x.When = part(api.OpAnd, has()) }, api.ErrShape}, {func(x *api.Experiment) { x.When = part(api.OpTrue) }, api.OK},
	} {
		x := sampleExperiment()
		c.change(&x)
		if e := checkExperiment(t, x); e != c.want {
			t.Errorf("P6.6: case %d: Experiment = %d, want %d", i, e, c.want)
		}
	}
}

// Environments

// environmentRules reads P6.7 literally.
func environmentRules(v api.Environment) []rule {
	s := v.Settings
	rules := []rule{{!text.Valid(s.Salt), api.ErrText}, {outside(s.Holdout, 0, 10000), api.ErrRange}, {!text.Key(s.HoldoutKind) && !(s.HoldoutKind == "" && s.Holdout == 0), api.ErrKey}, {len(v.Attributes) > 30, api.ErrTooMany}}
	for i, d := range v.Attributes {
		rules = append(rules, rule{!text.Key(d.Kind), api.ErrKey}, rule{d.Name == "key" || !text.Key(d.Name), api.ErrKey}, rule{outside(d.Type, 1, 5), api.ErrKind})
		if i > 0 {
			b := v.Attributes[i-1]
			rules = append(rules, rule{d.Kind < b.Kind, api.ErrOrder}, rule{d.Kind == b.Kind && d.Name <= b.Name, api.ErrOrder})
		}
	}
	return inOrder(rules,
		elementRules(v.Segments, 20, segmentRules, func(i int) string { return v.Segments[i].Key }),
		elementRules(v.Flags, 30, flagRules, func(i int) string { return v.Flags[i].Key }),
		elementRules(v.Layers, 6, layerRules, func(i int) string { return v.Layers[i].Key }),
		elementRules(v.Experiments, 16, experimentRules, func(i int) string { return v.Experiments[i].Key }))
}

func elementRules[T any](l []T, most int, rulesOf func(T) []rule, key func(i int) string) []rule {
	rules := []rule{{len(l) > most, api.ErrTooMany}}
	for i, x := range l[:min(len(l), most)] {
		rules = append(inOrder(rules, rulesOf(x)), rule{i > 0 && key(max(i-1, 0)) >= key(i), api.ErrOrder})
	}
	return rules
}

func checkEnvironment(t *testing.T, v api.Environment) api.Errno {
	t.Helper()
	got, want := Environment(v), first(environmentRules(v)...)
	if got != want {
		t.Fatalf("P6.7: Environment(%s) = %d, want %d", show(v), got, want)
	}
	return got
}

// Each of the functions below returns n elements with ascending keys.

func declared(n int) []api.Declared {
	var l []api.Declared
	for i := range n {
		l = append(l, api.Declared{Kind: keyOf("k", i/3), Name: keyOf("n", i*7%31%(3*i+1)+100*(i%3)), Type: 1 + i%5})
	}
	return l
}

func segments(n int) []api.Segment {
	var l []api.Segment
	for i := range n {
		l = append(l, api.Segment{Key: keyOf("s", i), Kind: "user", Include: texts(i % 3), When: []api.Expr{{}, has()}[i%2]})
	}
	return l
}

func flags(n int) []api.Flag {
	var l []api.Flag
	for i := range n {
		f := sampleFlag()
		f.Key = keyOf("f", i)
		l = append(l, f)
	}
	return l
}

func layers(n int) []api.Layer {
	var l []api.Layer
	for i := range n {
		layer := sampleLayer()
		layer.Key = keyOf("l", i)
		l = append(l, layer)
	}
	return l
}

func experiments(n int) []api.Experiment {
	var l []api.Experiment
	for i := range n {
		x := sampleExperiment()
		x.Key = keyOf("x", i)
		l = append(l, x)
	}
	return l
}

func sampleEnvironment() api.Environment {
	return api.Environment{Settings: api.Settings{Salt: "s", HoldoutKind: "user", Holdout: 100}, Attributes: []api.Declared{{Kind: "device", Name: "model", Type: 3}, {Kind: "user", Name: "age", Type: 2}, {Kind: "user", Name: "roles", Type: 5}}, Segments: segments(3), Flags: flags(3), Layers: layers(3), Experiments: experiments(3)}
}

// largest is an environment that reaches every limit of a list.
func largest() api.Environment {
	f := api.Flag{Kind: api.List, Off: 8, Variations: times(8, list(texts(20)...)), Prerequisites: needs(4), Targets: targets(8), Rules: rulesOf(12), Default: api.Serve{Kind: "user", By: "key", Split: even(16)}}
	for i := range f.Rules {
		f.Rules[i].When = rows(60, ask(api.OpIn, times(20, textValue(strings.Repeat("x", 200)))...))
		f.Rules[i].Serve = f.Default
	}
	v := api.Environment{Settings: api.Settings{Salt: strings.Repeat("s", 200), HoldoutKind: strings.Repeat("k", 32), Holdout: 10000}, Attributes: declared(30), Segments: segments(20), Flags: times(30, f), Layers: layers(6), Experiments: experiments(16)}
	for i := range v.Segments {
		v.Segments[i].Include, v.Segments[i].Exclude, v.Segments[i].When = texts(40), texts(40), rows(60, has())
	}
	for i := range v.Flags {
		v.Flags[i].Key = keyOf("f", i)
	}
	for i := range v.Layers {
		v.Layers[i].Holdout, v.Layers[i].Cool, v.Layers[i].Cooling = 10000, 1<<40, cooling(32)
	}
	for i := range v.Experiments {
		v.Experiments[i].Claims, v.Experiments[i].Arms, v.Experiments[i].When = apart(16), even(16), chain(9, has())
	}
	return v
}

func environmentChanges() []func(*api.Environment) {
	l := []func(*api.Environment){
		func(v *api.Environment) { v.Settings = api.Settings{} }, func(v *api.Environment) { v.Attributes = nil }, func(v *api.Environment) { v.Segments = nil }, func(v *api.Environment) { v.Flags = nil }, func(v *api.Environment) { v.Layers = nil }, func(v *api.Environment) { v.Experiments = nil },
		func(v *api.Environment) { v.Attributes = declared(30) }, func(v *api.Environment) { v.Attributes = declared(31) }, func(v *api.Environment) { v.Attributes = make([]api.Declared, 31) }, func(v *api.Environment) { v.Segments = segments(20) }, func(v *api.Environment) { v.Segments = segments(21) }, func(v *api.Environment) { v.Segments = make([]api.Segment, 21) },
		func(v *api.Environment) { v.Flags = flags(30) }, func(v *api.Environment) { v.Flags = flags(31) }, func(v *api.Environment) { v.Flags = make([]api.Flag, 31) }, func(v *api.Environment) { v.Layers = layers(6) }, func(v *api.Environment) { v.Layers = layers(7) }, func(v *api.Environment) { v.Layers = make([]api.Layer, 7) }, func(v *api.Environment) { v.Experiments = experiments(16) }, func(v *api.Environment) { v.Experiments = experiments(17) }, func(v *api.Environment) { v.Experiments = make([]api.Experiment, 17) },
	}
	for _, n := range []int{math.MinInt, -1, 0, 5, 6, 10000, 10001} {
		l = append(l, func(v *api.Environment) { v.Settings.Holdout = n }, func(v *api.Environment) { change(v.Attributes, 0).Type = n }, func(v *api.Environment) { change(v.Attributes, 2).Type = n }, func(v *api.Environment) { change(v.Flags, 1).Off = n }, func(v *api.Environment) { change(v.Layers, 1).Cool = n }, func(v *api.Environment) { change(v.Experiments, 1).Status = n })
	}
	for _, s := range []string{"", "\n", "is", "key", "device", "user", "age"} {
		l = append(l, func(v *api.Environment) { v.Settings.Salt = s }, func(v *api.Environment) { v.Settings.HoldoutKind = s })
		for i := range 3 {
			l = append(l, func(v *api.Environment) { change(v.Attributes, i).Kind = s }, func(v *api.Environment) { change(v.Attributes, i).Name = s })
		}
	}
	for _, s := range []string{"", "a", "f001", "l000", "s000", "x001", "z"} {
		for i := range 3 {
			l = append(l, func(v *api.Environment) { change(v.Segments, i).Key = s }, func(v *api.Environment) { change(v.Flags, i).Key = s }, func(v *api.Environment) { change(v.Layers, i).Key = s }, func(v *api.Environment) { change(v.Experiments, i).Key = s })
		}
	}
	return append(l, func(v *api.Environment) { change(v.Segments, 2).When.Op = 99 }, func(v *api.Environment) { change(v.Flags, 0).Default = api.Serve{} }, func(v *api.Environment) { change(v.Layers, 0).Salt = "\n" }, func(v *api.Environment) { change(v.Experiments, 2).Arms = even(17) })
}

func TestEnvironmentOfPairsOfChanges(t *testing.T) {
	seen := tally{}
	pairs(sampleEnvironment, environmentChanges(), func(v api.Environment) { seen[checkEnvironment(t, v)]++ })
	seen.expect(t, api.ErrText, api.ErrRange, api.ErrKey, api.ErrTooMany, api.ErrKind, api.ErrOrder)
}

func TestEnvironmentExamples(t *testing.T) {
	for i, c := range []struct {
		change func(*api.Environment)
		want   api.Errno
	}{
		{func(v *api.Environment) {}, api.OK}, {func(v *api.Environment) { *v = api.Environment{} }, api.OK}, {func(v *api.Environment) { *v = largest() }, api.OK}, {func(v *api.Environment) { v.Settings = api.Settings{HoldoutKind: "user"} }, api.OK}, {func(v *api.Environment) { v.Settings = api.Settings{HoldoutKind: "user", Holdout: 10000} }, api.OK},
		{func(v *api.Environment) { v.Settings = api.Settings{Salt: "\n", Holdout: -1} }, api.ErrText}, {func(v *api.Environment) { v.Settings = api.Settings{Holdout: -1} }, api.ErrRange}, {func(v *api.Environment) { v.Settings = api.Settings{Holdout: 10001, HoldoutKind: "A"} }, api.ErrRange}, {func(v *api.Environment) { v.Settings.HoldoutKind, v.Attributes = "", declared(31) }, api.ErrKey}, {func(v *api.Environment) { v.Settings = api.Settings{HoldoutKind: "holdout"} }, api.ErrKey},
		{func(v *api.Environment) { v.Attributes = declared(31) }, api.ErrTooMany}, {func(v *api.Environment) { v.Attributes[0] = api.Declared{} }, api.ErrKey}, {func(v *api.Environment) { v.Attributes[0] = api.Declared{Kind: "device", Name: "", Type: 9} }, api.ErrKey}, {func(v *api.Environment) { v.Attributes[0] = api.Declared{Kind: "device", Name: "key", Type: 9} }, api.ErrKey}, {func(v *api.Environment) { v.Attributes[1] = api.Declared{Kind: "a", Name: "a", Type: 6} }, api.ErrKind}, {func(v *api.Environment) { v.Attributes[1] = api.Declared{Kind: "a", Name: "z", Type: 5} }, api.ErrOrder}, {func(v *api.Environment) { v.Attributes[2].Name = "age" }, api.ErrOrder}, {func(v *api.Environment) { v.Attributes[2].Name = "a" }, api.ErrOrder}, {func(v *api.Environment) { v.Attributes[1].Name = "a" }, api.OK}, {func(v *api.Environment) { v.Attributes[2].Name, v.Segments = "a", segments(21) }, api.ErrOrder}, {func(v *api.Environment) { v.Attributes[0].Kind = "key" }, api.OK},
		{func(v *api.Environment) { v.Segments, v.Flags = segments(21), flags(31) }, api.ErrTooMany}, {func(v *api.Environment) { v.Segments[1].Key, v.Flags = "s000", flags(31) }, api.ErrOrder}, {func(v *api.Environment) { v.Segments[1].Key, v.Segments[1].Include = "s000", []string{""} }, api.ErrText}, {func(v *api.Environment) { v.Segments[1].Key, v.Segments[2].Key = "s000", "" }, api.ErrOrder}, {func(v *api.Environment) { v.Segments[0].Kind, v.Segments[1].Key = "", "s000" }, api.ErrKey},
		{func(v *api.Environment) { v.Flags, v.Layers = flags(31), layers(7) }, api.ErrTooMany}, {func(v *api.Environment) { v.Flags[2].Key, v.Layers = "f001", layers(7) }, api.ErrOrder}, {func(v *api.Environment) { v.Flags[2].Key, v.Flags[2].Kind = "f001", 0 }, api.ErrKind}, {func(v *api.Environment) { v.Flags[0].Rules[1].Name, v.Layers[0].Key = "r2", "" }, api.ErrDuplicate},
		{func(v *api.Environment) { v.Layers, v.Experiments[0].Key = layers(7), "" }, api.ErrTooMany}, {func(v *api.Environment) { v.Layers[2].Key, v.Experiments[0].Key = "a", "" }, api.ErrOrder}, {func(v *api.Environment) { v.Layers[2].Key, v.Layers[2].Salt = "a", "\n" }, api.ErrText}, {func(v *api.Environment) { v.Experiments = experiments(17) }, api.ErrTooMany}, {func(v *api.Environment) { v.Experiments[1].Key = "x000" }, api.ErrOrder}, {func(v *api.Environment) { v.Experiments[1].Key, v.Experiments[1].When = "x000", api.Expr{} }, api.ErrKind},
	} {
		v := sampleEnvironment()
		c.change(&v)
		if e := checkEnvironment(t, v); e != c.want {
			t.Errorf("P6.7: case %d: Environment = %d, want %d", i, e, c.want)
		}
	}
}

func TestEnvironmentOfNumbersOfElements(t *testing.T) {
	for n := range 36 {
		for _, c := range []struct {
			v    api.Environment
			most int
		}{{api.Environment{Attributes: declared(n)}, 30}, {api.Environment{Segments: segments(n)}, 20}, {api.Environment{Flags: flags(n)}, 30}, {api.Environment{Layers: layers(n)}, 6}, {api.Environment{Experiments: experiments(n)}, 16}} {
			if e := checkEnvironment(t, c.v); (e == api.OK) != (n <= c.most) || e != api.OK && e != api.ErrTooMany {
				t.Errorf("P6.7: Environment with %d elements of at most %d = %d", n, c.most, e)
			}
		}
	}
}

func TestEnvironmentOfManyAttributes(t *testing.T) {
	pool := []api.Declared{{}, {Kind: "a", Name: "b", Type: 1}, {Kind: "a", Name: "c", Type: 5}, {Kind: "b", Name: "a", Type: 2}, {Kind: "b", Name: "a", Type: 3}, {Kind: "b", Name: "key", Type: 1}, {Kind: "key", Name: "a", Type: 1}, {Kind: "a", Name: "ab", Type: 1}, {Kind: "ab", Name: "a", Type: 1}, {Kind: "b", Name: "Z", Type: 1}, {Kind: "B", Name: "a", Type: 1}, {Kind: "b", Name: "aa", Type: 6}, {Kind: "b", Name: "aa", Type: 0}, {Kind: "", Name: "a", Type: 1}, {Kind: "a", Name: "", Type: 1}, {Kind: "is", Name: "a", Type: 1}, {Kind: "a", Name: "is", Type: -1}}
	seen := tally{}
	tuples(pool, 3, func(l []api.Declared) { seen[checkEnvironment(t, api.Environment{Attributes: l})]++ })
	seen.expect(t, api.ErrKey, api.ErrKind, api.ErrOrder)
}

// P6.8

func TestFirstElementsAreWellFormed(t *testing.T) {
	v := largest()
	for i := range len(v.Segments) + 1 {
		for j := range len(v.Experiments) + 1 {
			w := api.Environment{Segments: v.Segments[:i], Flags: v.Flags[:min(j, 3)], Layers: v.Layers[:min(j, 6)], Experiments: v.Experiments[:j]}
			if e := Environment(w); e != api.OK {
				t.Fatalf("P6.8: Environment with the first %d segments and %d experiments = %d", i, j, e)
			}
		}
	}
	for i := range len(v.Flags) + 1 {
		if e := Environment(api.Environment{Flags: v.Flags[:i]}); e != api.OK {
			t.Fatalf("P6.8: Environment with the first %d flags = %d", i, e)
		}
	}
}

// TestFirstElementsOfManyEnvironments also has the lists of environments that are well-formed by chance.
func TestFirstElementsOfManyEnvironments(t *testing.T) {
	found := 0
	pairs(sampleEnvironment, environmentChanges(), func(v api.Environment) {
		if Environment(v) != api.OK || len(v.Flags) > 3 {
			return
		}
		found++
		for i := range 4 {
			w := v
			w.Segments, w.Flags, w.Layers, w.Experiments = v.Segments[:min(i, len(v.Segments))], v.Flags[:min(i, len(v.Flags))], v.Layers[:min(i, len(v.Layers))], v.Experiments[:min(i, len(v.Experiments))]
			if e := Environment(w); e != api.OK {
				t.Fatalf("P6.8: Environment(%s) = %d", show(w), e)
			}
		}
	})
	if found < 1000 {
		t.Errorf("only %d environments are well-formed", found)
	}
}

func TestRangesContainEachBucketOnce(t *testing.T) {
	r := rand.New(rand.NewSource(3))
	for range 1000 {
		l := randomSplit(r)
		if e := Split(l, 8); e != api.OK {
			t.Fatalf("P6.2: Split(%s) = %d", show(l), e)
		}
		checkBuckets(t, l)
	}
}

// The general rules

// roomy returns a copy of x in which each list has spare capacity that is not zero.
func roomy(x reflect.Value) reflect.Value {
	switch x.Kind() {
	case reflect.Struct:
		c := reflect.New(x.Type()).Elem()
		for i := range x.NumField() {
			c.Field(i).Set(roomy(x.Field(i)))
		}
		return c
	case reflect.Slice:
		c := reflect.MakeSlice(x.Type(), 0, x.Len()+2)
		for i := range x.Len() {
			c = reflect.Append(c, roomy(x.Index(i)))
		}
		for i := range 2 {
			filler(c.Slice(0, c.Cap()).Index(x.Len() + i))
		}
		return c
	}
	return x
}

// filler writes something into the numbers and texts of x.
func filler(x reflect.Value) {
	switch x.Kind() {
	case reflect.Struct:
		for i := range x.NumField() {
			filler(x.Field(i))
		}
	case reflect.Int:
		x.SetInt(77)
	case reflect.String:
		x.SetString("spare")
	}
}

// memory shows all that x can reach, also in spare capacity.
func memory(b *strings.Builder, x reflect.Value) {
	switch x.Kind() {
	case reflect.Struct:
		for i := range x.NumField() {
			memory(b, x.Field(i))
		}
	case reflect.Slice:
		fmt.Fprintf(b, "[%d %d ", x.Len(), x.Cap())
		for i := range x.Cap() {
			memory(b, x.Slice(0, x.Cap()).Index(i))
		}
		b.WriteString("]")
	default:
		fmt.Fprintf(b, "%v,", x)
	}
}

func memoryOf(x any) string {
	var b strings.Builder
	memory(&b, reflect.ValueOf(x))
	return b.String()
}

func TestArgumentsAreNotModified(t *testing.T) {
	for _, plain := range []api.Environment{{}, sampleEnvironment(), largest(), {Segments: make([]api.Segment, 3), Flags: make([]api.Flag, 3), Layers: make([]api.Layer, 3), Experiments: make([]api.Experiment, 3)}} {
		v := roomy(reflect.ValueOf(plain)).Interface().(api.Environment)
		before := memoryOf(v)
		if e, want := Environment(v), Environment(plain); e != want {
			t.Errorf("G2: Environment depends on spare capacity: %d and %d", e, want)
		}
		for _, g := range v.Segments {
			Segment(g)
			Expr(g.When)
			Parts(g.When)
			None(g.When)
		}
		for _, f := range v.Flags {
			Flag(f)
			Serve(f.Default, 8)
		}
		for _, l := range v.Layers {
			Layer(l)
		}
		for _, x := range v.Experiments {
			Experiment(x)
			Spans(x.Claims)
			Split(x.Arms, 8)
		}
		if memoryOf(v) != before {
			t.Error("G2: a function modifies its argument")
		}
	}
}

// emptied returns a copy of x in which each nil list is an empty one, or the other way round.
func emptied(x reflect.Value, toNil bool) reflect.Value {
	switch {
	case x.Kind() == reflect.Struct:
		c := reflect.New(x.Type()).Elem()
		for i := range x.NumField() {
			c.Field(i).Set(emptied(x.Field(i), toNil))
		}
		return c
	case x.Kind() == reflect.Slice && x.Len() == 0 && toNil:
		return reflect.Zero(x.Type())
	case x.Kind() == reflect.Slice:
		c := reflect.MakeSlice(x.Type(), 0, x.Len())
		for i := range x.Len() {
			c = reflect.Append(c, emptied(x.Index(i), toNil))
		}
		return c
	}
	return x
}

func TestNilAndEmptyListsAreEquivalent(t *testing.T) {
	i := 0
	pairs(sampleEnvironment, environmentChanges(), func(v api.Environment) {
		i++
		if i%29 != 0 {
			return
		}
		x := reflect.ValueOf(v)
		withNil, withEmpty := emptied(x, true).Interface().(api.Environment), emptied(x, false).Interface().(api.Environment)
		if e, f := Environment(withNil), Environment(withEmpty); e != f {
			t.Fatalf("G3: Environment(%s) = %d with nil lists and %d with empty lists", show(v), e, f)
		}
	})
	alone(func(e api.Expr) {
		if len(e.Kids) == 0 && len(e.Values) == 0 {
			f := e
			f.Kids, f.Values = []api.Expr{}, []api.Value{}
			e.Kids, e.Values = nil, nil
			if Expr(e) != Expr(f) || None(e) != None(f) || Parts(e) != Parts(f) {
				t.Fatalf("G3: Expr, Parts or None of %s depends on nil", show(e))
			}
		}
	})
}

func TestLargeArguments(t *testing.T) {
	const n = 1 << 20
	long := strings.Repeat("k", n)
	s := sampleFlag()
	for name, e := range map[string]api.Errno{
		"Expr with many kids":              Expr(part(api.OpAnd, make([]api.Expr, n)...)),
		"Expr with many values":            Expr(ask(api.OpIn, make([]api.Value, n)...)),
		"Split":                            Split(make([]api.Range, n), 8),
		"Spans":                            Spans(make([]api.Span, n)),
		"Serve":                            Serve(api.Serve{Kind: "user", By: "key", Split: make([]api.Range, n)}, 8),
		"Segment":                          Segment(api.Segment{Key: "a", Kind: "user", Include: make([]string, n)}),
		"Flag with many variations":        Flag(api.Flag{Key: "a", Kind: 1, Variations: make([]api.Value, n)}),
		"Flag with many prerequisites":     Flag(api.Flag{Key: "a", Kind: 2, Variations: s.Variations, Off: 1, Prerequisites: make([]api.Prerequisite, n)}),
		"Flag with many targets":           Flag(api.Flag{Key: "a", Kind: 2, Variations: s.Variations, Off: 1, Targets: make([]api.Target, n)}),
		"Flag with many rules":             Flag(api.Flag{Key: "a", Kind: 2, Variations: s.Variations, Off: 1, Rules: make([]api.Rule, n)}),
		"Layer":                            Layer(api.Layer{Key: "a", Kind: "user", Cooling: make([]api.Cool, n)}),
		"Experiment":                       Experiment(api.Experiment{Key: "a", Layer: "b", Flag: "c", Status: 1, Claims: make([]api.Span, n)}),
		"Environment with many attributes": Environment(api.Environment{Attributes: make([]api.Declared, n)}),
		"Environment with many flags":      Environment(api.Environment{Flags: make([]api.Flag, n)}),
	} {
		if e != api.ErrTooMany {
			t.Errorf("G1: %s = %d", name, e)
		}
	}
	for i, e := range []api.Errno{Expr(api.Expr{Op: api.OpHas, Kind: long, Name: long}), Segment(api.Segment{Key: long}), Flag(api.Flag{Key: long}), Layer(api.Layer{Key: long}), Experiment(api.Experiment{Key: long}), Environment(api.Environment{Settings: api.Settings{HoldoutKind: long}})} {
		if e != api.ErrKey {
			t.Errorf("G1: function %d returns %d for a long key", i, e)
		}
	}
}

func FuzzShape(f *testing.F) {
	f.Add(int64(1), 7, 3, "user", "age", "x", 0, 10000)
	f.Add(int64(2), 2, 0, "", "key", "\n", -1, 5)
	f.Fuzz(func(t *testing.T, seed int64, op, n int, kind, name, salt string, from, to int) {
		r := rand.New(rand.NewSource(seed))
		e := api.Expr{Op: op, Kind: kind, Name: name, Values: []api.Value{{Kind: n, Number: from, Text: salt}}}
		checkExpr(t, e)
		checkExpr(t, part(api.OpAnd, randomExpr(r, 4, api.OpAnd, 50), e))
		checkSplit(t, split(from, to, n), op)
		checkSplit(t, append(randomSplit(r), api.Range{From: from, To: to, Variation: n}), op)
		checkSpans(t, spans(from, to, to, n))
		checkServe(t, api.Serve{Variation: op, Kind: kind, By: name, Salt: salt, Split: randomSplit(r)}, n)
		checkSegment(t, api.Segment{Key: kind, Kind: name, Include: []string{salt, kind}, Exclude: []string{name}, When: e})
		checkLayer(t, api.Layer{Key: kind, Kind: name, Salt: salt, Holdout: from, Cool: to, Cooling: cools(from, to, n, to, n, from)})
		checkExperiment(t, api.Experiment{Key: kind, Layer: name, Flag: kind, Salt: salt, Status: n, Claims: spans(from, to), Arms: randomSplit(r), When: e})
		checkEnvironment(t, api.Environment{Settings: api.Settings{Salt: salt, HoldoutKind: kind, Holdout: from}, Attributes: []api.Declared{{Kind: kind, Name: name, Type: op}, {Kind: name, Name: kind, Type: n}}})
	})
}
