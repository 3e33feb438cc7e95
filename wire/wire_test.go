package wire

import (
	"bytes"
	"encoding/binary"
	"fmt"
	"math"
	"math/big"
	"math/rand"
	"slices"
	"strings"
	"testing"

	"flagstone/api"
)

// numbers are numbers at the edges of each size of encoding, and of their type.
func numbers() []int {
	list := []int{math.MinInt, math.MinInt + 1, math.MaxInt - 1, math.MaxInt, api.MaxNumber, -api.MaxNumber}
	for bit := range 63 {
		for d := -2; d <= 2; d++ {
			list = append(list, 1<<bit+d, -1<<bit+d)
		}
	}
	return list
}

// words are words at the edges of their type, and some with a different byte at each place.
func words() []uint64 {
	list := []uint64{0, math.MaxUint64, 0x0102030405060708, 0xfffefdfcfbfaf9f8, 0x8000000000000001}
	for bit := range 64 {
		list = append(list, 1<<bit, 1<<bit-1)
	}
	return list
}

// limits are arguments most.
var limits = []int{math.MinInt, -2, -1, 0, 1, 2, 3, 4, 63, 64, 65, 127, 128, 129, 200, 1 << 20, 1 << 40, math.MaxInt - 1, math.MaxInt}

func up(n int) []byte {
	b := make([]byte, n)
	for i := range b {
		b[i] = byte(i)
	}
	return b
}

// wantFold reads P4.1 literally, with numbers of any size.
func wantFold(n int) *big.Int {
	u := new(big.Int).Mul(big.NewInt(2), big.NewInt(int64(n)))
	if n < 0 {
		u.Neg(u).Sub(u, big.NewInt(1))
	}
	return u
}

// wantNumber reads P4.1 literally.
func wantNumber(n int) []byte {
	u, rest, size := wantFold(n), new(big.Int), big.NewInt(128)
	var b []byte
	for {
		u.DivMod(u, size, rest)
		b = append(b, byte(rest.Int64()))
		if u.Sign() == 0 {
			return b
		}
		b[len(b)-1] += 128
	}
}

func wantText(s string) []byte { return append(wantNumber(len(s)), s...) }

func wantBool(v bool) []byte { return map[bool][]byte{true: {1}, false: {0}}[v] }

func wantWord(w uint64) []byte { return binary.BigEndian.AppendUint64(nil, w) }

// model reads P4.2 and P4.3 literally: the bytes b from at on, which are left even after an error.
type model struct {
	b   []byte
	at  int
	err api.Errno
}

// number returns the number at the beginning of the rest, and its size.
func (m *model) number() (int, int, api.Errno) {
	rest := m.b[m.at:]
	last := slices.IndexFunc(rest, func(x byte) bool { return x < 128 })
	switch {
	case len(rest) >= 10 && (last < 0 || last >= 9) && rest[9] > 1:
		return 0, 0, api.ErrRange
	case last < 0:
		return 0, 0, api.ErrTruncated
	case last > 0 && rest[last] == 0:
		return 0, 0, api.ErrSyntax
	}
	u := new(big.Int)
	for i := last; i >= 0; i-- {
		u.Mul(u, big.NewInt(128)).Add(u, big.NewInt(int64(rest[i]%128)))
	}
	half, odd := new(big.Int).DivMod(u, big.NewInt(2), new(big.Int))
	if odd.Sign() != 0 {
		half.Neg(half).Sub(half, big.NewInt(1))
	}
	if !half.IsInt64() {
		panic(fmt.Sprintf("%v is not a number of 64 bits", half))
	}
	return int(half.Int64()), last + 1, api.OK
}

// sized returns the number at the beginning of the rest, with the errors of Text and Count, and its size.
func (m *model) sized(most int, excess api.Errno) (int, int, api.Errno) {
	n, size, e := m.number()
	switch {
	case e != api.OK:
		return 0, 0, e
	case n < 0:
		return 0, 0, api.ErrRange
	case n > most:
		return 0, 0, excess
	}
	return n, size, api.OK
}

// call is a call of a method: its letter, and its argument.
type call struct {
	method byte
	arg    int
}

func (c call) String() string { return fmt.Sprintf("%c(%d)", c.method, c.arg) }

// read returns the result of a method that reads, how many bytes it reads, and its error.
func (m *model) read(c call) (any, int, api.Errno) {
	rest := m.b[m.at:]
	switch c.method {
	case 'N':
		n, size, e := m.number()
		return n, size, e
	case 'C':
		n, size, e := m.sized(c.arg, api.ErrTooMany)
		return n, size, e
	case 'W':
		if len(rest) < 8 {
			return uint64(0), 0, api.ErrTruncated
		}
		return binary.BigEndian.Uint64(rest), 8, api.OK
	case 'B':
		if len(rest) == 0 {
			return false, 0, api.ErrTruncated
		}
		if rest[0] > 1 {
			return false, 0, api.ErrSyntax
		}
		return rest[0] == 1, 1, api.OK
	default:
		n, size, e := m.sized(c.arg, api.ErrTooLong)
		if e == api.OK && n > len(rest)-size {
			e = api.ErrTruncated
		}
		if e != api.OK {
			return "", 0, e
		}
		return string(rest[size : size+n]), size + n, api.OK
	}
}

// zeros are the results of the methods that read after an error.
var zeros = map[byte]any{'N': 0, 'C': 0, 'W': uint64(0), 'B': false, 'T': ""}

func (m *model) run(c call) any {
	switch c.method {
	case 'F':
		if m.err == api.OK {
			m.err = api.Errno(c.arg)
		}
		return nil
	case 'E':
		return m.err
	case 'Z':
		if m.err == api.OK && m.at < len(m.b) {
			return api.ErrTrailing
		}
		return m.err
	}
	if m.err != api.OK {
		return zeros[c.method]
	}
	result, size, e := m.read(c)
	m.at, m.err = m.at+size, e
	return result
}

func run(r *Reader, c call) any {
	switch c.method {
	case 'N':
		return r.Number()
	case 'C':
		return r.Count(c.arg)
	case 'W':
		return r.Word()
	case 'B':
		return r.Bool()
	case 'T':
		return r.Text(c.arg)
	case 'F':
		r.Fail(api.Errno(c.arg))
		return nil
	case 'E':
		return r.Err()
	default:
		return r.End()
	}
}

// checkCalls compares a Reader of b with the model, call by call, with its error and its end behind each call.
func checkCalls(t *testing.T, b []byte, calls ...call) {
	t.Helper()
	r, m := New(b), &model{b: b}
	for i, c := range calls {
		for _, c := range []call{c, {'E', 0}, {'Z', 0}} {
			if got, want := run(r, c), m.run(c); got != want {
				t.Fatalf("P4.2: of %x, behind %v, %v = %v, want %v", b, calls[:i], c, got, want)
			}
		}
	}
}

// item is a value that was written, and the call that reads it.
type item struct {
	value any
	read  call
}

func (it item) String() string {
	if s, ok := it.value.(string); ok {
		return fmt.Sprintf("%d bytes %.20q", len(s), s)
	}
	return fmt.Sprintf("%T %v", it.value, it.value)
}

func put(b []byte, it item) []byte {
	switch v := it.value.(type) {
	case int:
		return PutNumber(b, v)
	case uint64:
		return PutWord(b, v)
	case bool:
		return PutBool(b, v)
	default:
		return PutText(b, v.(string))
	}
}

func wantPut(it item) []byte {
	switch v := it.value.(type) {
	case int:
		return wantNumber(v)
	case uint64:
		return wantWord(v)
	case bool:
		return wantBool(v)
	default:
		return wantText(v.(string))
	}
}

func numberItem(n int) item { return item{n, call{'N', 0}} }

func randomText(r *rand.Rand) string {
	b := make([]byte, r.Intn(140)>>r.Intn(8))
	r.Read(b)
	return string(b)
}

func randomItem(r *rand.Rand) item {
	switch r.Intn(5) {
	case 0:
		return numberItem(int(r.Uint64()) >> r.Intn(64))
	case 1:
		n := int(r.Uint64()>>1) >> r.Intn(63)
		most := n
		if r.Intn(2) == 0 {
			most = math.MaxInt
		}
		return item{n, call{'C', most}}
	case 2:
		return item{r.Uint64(), call{'W', 0}}
	case 3:
		return item{r.Intn(2) == 1, call{'B', 0}}
	default:
		s := randomText(r)
		return item{s, call{'T', len(s) + r.Intn(2)*1000}}
	}
}

func randomItems(r *rand.Rand) []item {
	items := make([]item, r.Intn(8))
	for i := range items {
		items[i] = randomItem(r)
	}
	return items
}

func putAll(items []item) []byte {
	var b []byte
	for _, it := range items {
		b = put(b, it)
	}
	return b
}

// P4.1

func checkPut(t *testing.T, it item) {
	t.Helper()
	for _, head := range [][]byte{nil, {}, {7}, {0x80}, up(300)} {
		want := slices.Concat(head, wantPut(it))
		if got := put(head, it); !bytes.Equal(got, want) {
			t.Errorf("P4.1: %v behind %d bytes is written as %.40x, want %.40x", it, len(head), got, want)
		}
	}
}

func TestPutNumber(t *testing.T) {
	for _, n := range numbers() {
		checkPut(t, numberItem(n))
	}
	for n := -70000; n <= 70000; n++ {
		if got, want := PutNumber(nil, n), wantNumber(n); !bytes.Equal(got, want) {
			t.Errorf("P4.1: PutNumber of %d = %x, want %x", n, got, want)
		}
	}
	r := rand.New(rand.NewSource(1))
	for range 20000 {
		checkPut(t, numberItem(int(r.Uint64())>>r.Intn(64)))
	}
}

func TestNumbersHaveAsFewBytesAsPossible(t *testing.T) {
	for _, n := range numbers() {
		b := PutNumber(nil, n)
		if want := max(1, (wantFold(n).BitLen()+6)/7); len(b) != want {
			t.Errorf("P4.1: PutNumber of %d has %d bytes, want %d", n, len(b), want)
		}
		for i, x := range b {
			if (x >= 128) != (i < len(b)-1) {
				t.Errorf("P4.1: byte %d of PutNumber of %d is %d", i, n, x)
			}
		}
	}
}

func TestPutWordAndBool(t *testing.T) {
	for _, w := range words() {
		checkPut(t, item{w, call{'W', 0}})
	}
	for _, v := range []bool{true, false} {
		checkPut(t, item{v, call{'B', 0}})
	}
}

func TestPutText(t *testing.T) {
	for _, s := range []string{"", "a", "\x00", "\xff\xfe", "é", "\n\"", "\x80\x80\x00", string(up(256))} {
		checkPut(t, item{s, call{'T', len(s)}})
	}
	for _, n := range []int{63, 64, 65, 8191, 8192, 1048575, 1048576, 1 << 24} {
		checkPut(t, item{string(up(n)), call{'T', n}})
	}
}

func TestPutOfNilAndOfNoBytes(t *testing.T) {
	for _, it := range []item{numberItem(5), {uint64(5), call{'W', 0}}, {true, call{'B', 0}}, {"a", call{'T', 1}}} {
		if a, b := put(nil, it), put([]byte{}, it); !bytes.Equal(a, b) {
			t.Errorf("G3: %v behind nil and behind no bytes is %x and %x", it, a, b)
		}
	}
}

func TestPutKeepsItsArgument(t *testing.T) {
	r := rand.New(rand.NewSource(2))
	for range 3000 {
		it, backing := randomItem(r), bytes.Repeat([]byte{0xee}, 400)
		b := backing[3 : r.Intn(20)+3]
		got := put(b, it)
		want := slices.Clone(got)
		other := put(b, randomItem(r))
		if !bytes.Equal(backing, bytes.Repeat([]byte{0xee}, 400)) {
			t.Fatalf("G2: the argument behind which %v is written, or its spare capacity, became %x", it, backing)
		}
		clear(other)
		clear(backing)
		if !bytes.Equal(got, want) {
			t.Fatalf("G2: %v shares memory with an argument or with another result: %x, want %x", it, got, want)
		}
	}
}

func TestResultsHaveNoSpareCapacityInCommon(t *testing.T) {
	for n := range 200 {
		base := PutText(nil, string(up(n)))
		a, b := append(base, 1), append(base, 2)
		if a[len(base)] != 1 || b[len(base)] != 2 {
			t.Fatalf("G2: two extensions of an encoding of %d bytes share memory", len(base))
		}
		c, d := PutBool(base, true), PutBool(base, false)
		if c[len(base)] != 1 || d[len(base)] != 0 {
			t.Fatalf("G2: two encodings behind the same %d bytes share memory", len(base))
		}
	}
}

// P4.2

// followers are bytes behind an encoding.
var followers = [][]byte{nil, {0}, {1}, {0x7f}, {0x80}, {0xff, 0xff}, bytes.Repeat([]byte{0x80}, 12)}

func TestNumber(t *testing.T) {
	for _, n := range numbers() {
		for _, behind := range followers {
			r := New(slices.Concat(wantNumber(n), behind))
			if got := r.Number(); got != n || r.Err() != api.OK || len(r.rest) != len(behind) {
				t.Errorf("P4.2: Number of %d = %d, %d", n, got, r.Err())
			}
		}
	}
}

func TestNumberErrors(t *testing.T) {
	first := func(n int, last ...byte) []byte { return append(bytes.Repeat([]byte{0x81}, n), last...) }
	for _, c := range []struct {
		b []byte
		e api.Errno
	}{
		{nil, api.ErrTruncated}, {first(1), api.ErrTruncated}, {first(8), api.ErrTruncated}, {first(9), api.ErrTruncated},
		{first(9, 2), api.ErrRange}, {first(9, 0x7f), api.ErrRange}, {first(10), api.ErrRange}, {first(9, 0x80), api.ErrRange}, {first(9, 0x80, 0), api.ErrRange}, {first(11), api.ErrRange}, {first(1000), api.ErrRange}, {first(9, 0xff), api.ErrRange},
		{first(1, 0), api.ErrSyntax}, {first(2, 0), api.ErrSyntax}, {first(8, 0), api.ErrSyntax}, {first(9, 0), api.ErrSyntax}, {first(9, 0, 0), api.ErrSyntax},
		{[]byte{0x80, 0}, api.ErrSyntax}, {[]byte{0x80, 0x80, 0, 5}, api.ErrSyntax}, {[]byte{0x80, 0x80}, api.ErrTruncated},
	} {
		for _, read := range []call{{'N', 0}, {'C', math.MaxInt}, {'C', -1}, {'T', math.MaxInt}, {'T', -1}} {
			r := New(c.b)
			if got := run(r, read); got != zeros[read.method] || r.Err() != c.e || r.End() != c.e {
				t.Errorf("P4.2: %v of %.24x = %v, %d, want the error %d", read, c.b, got, r.Err(), c.e)
			}
		}
	}
}

// eachString calls visit with every list of at most length bytes of an alphabet.
func eachString(alphabet []byte, length int, visit func([]byte)) {
	var extend func(b []byte)
	extend = func(b []byte) {
		visit(b)
		if len(b) == length {
			return
		}
		for _, x := range alphabet {
			extend(append(slices.Clip(b), x))
		}
	}
	extend(nil)
}

func TestReadingOfShortStrings(t *testing.T) {
	all := up(256)
	eachString(all, 2, func(b []byte) {
		for _, c := range []call{{'N', 0}, {'B', 0}, {'W', 0}, {'T', 1}, {'C', 20}} {
			checkCalls(t, b, c, c)
		}
	})
	eachString([]byte{0, 1, 2, 4, 0x80, 0xff}, 5, func(b []byte) {
		for _, c := range []call{{'N', 0}, {'B', 0}, {'T', 0}, {'T', 1}, {'T', 2}, {'C', 0}, {'C', 1}, {'C', 300}} {
			checkCalls(t, b, c, c, c)
		}
	})
}

func TestNumberOfEachTail(t *testing.T) {
	for size := 6; size <= 9; size++ {
		for _, fill := range []byte{0x80, 0xff, 0xaa} {
			eachString([]byte{0, 1, 2, 3, 0x7f, 0x80, 0x81, 0xff}, 4, func(tail []byte) {
				b := append(bytes.Repeat([]byte{fill}, size), tail...)
				checkCalls(t, b, call{'N', 0}, call{'B', 0})
				checkCalls(t, b, call{'C', 1 << 60}, call{'B', 0})
			})
		}
	}
}

func TestWord(t *testing.T) {
	for _, w := range words() {
		for n := range 8 {
			checkCalls(t, wantWord(w)[:n], call{'W', 0}, call{'B', 0})
		}
		r := New(append(wantWord(w), 9))
		if got := r.Word(); got != w || r.Err() != api.OK || r.End() != api.ErrTrailing {
			t.Errorf("P4.2: Word of %#x = %#x, %d", w, got, r.Err())
		}
	}
	r := New(make([]byte, 7))
	if r.Word() != 0 || r.Err() != api.ErrTruncated {
		t.Errorf("P4.2: Word of seven bytes gives %d", r.Err())
	}
}

func TestBool(t *testing.T) {
	for x := range 256 {
		want, e := x == 1, api.OK
		if x > 1 {
			e = api.ErrSyntax
		}
		r := New([]byte{byte(x), 1})
		if got := r.Bool(); got != want || r.Err() != e {
			t.Errorf("P4.2: Bool of %d = %v, %d", x, got, r.Err())
		}
	}
	r := New(nil)
	if r.Bool() || r.Err() != api.ErrTruncated {
		t.Errorf("P4.2: Bool of no bytes gives %d", r.Err())
	}
}

func TestTextAndCountOfEachLimit(t *testing.T) {
	for _, n := range append(numbers(), limits...) {
		for _, most := range limits {
			for _, room := range []int{0, 1, 2, 63, 64, 130} {
				b := append(wantNumber(n), up(room)...)
				checkCalls(t, b, call{'T', most}, call{'B', 0})
				checkCalls(t, b, call{'C', most}, call{'B', 0})
			}
		}
	}
}

func TestTextErrors(t *testing.T) {
	for _, c := range []struct {
		b    []byte
		most int
		e    api.Errno
	}{
		{[]byte{6, 97, 98, 99}, 2, api.ErrTooLong},
		{[]byte{6, 97}, 2, api.ErrTooLong},
		{[]byte{6, 97, 98}, 3, api.ErrTruncated},
		{[]byte{6}, 3, api.ErrTruncated},
		{[]byte{0}, -1, api.ErrTooLong},
		{[]byte{0}, math.MinInt, api.ErrTooLong},
		{[]byte{1, 97}, -5, api.ErrRange},
		{[]byte{1, 97}, 5, api.ErrRange},
		{wantNumber(math.MinInt), math.MinInt, api.ErrRange},
		{wantNumber(math.MaxInt), math.MaxInt, api.ErrTruncated},
		{append(wantNumber(math.MaxInt), 1), math.MaxInt, api.ErrTruncated},
		{wantNumber(math.MaxInt), math.MaxInt - 1, api.ErrTooLong},
	} {
		r := New(c.b)
		if got := r.Text(c.most); got != "" || r.Err() != c.e {
			t.Errorf("P4.2: Text(%d) of %x = %q, %d, want the error %d", c.most, c.b, got, r.Err(), c.e)
		}
	}
}

func TestCountErrors(t *testing.T) {
	for _, c := range []struct {
		n, most int
		e       api.Errno
	}{
		{4, 3, api.ErrTooMany}, {0, -1, api.ErrTooMany}, {0, math.MinInt, api.ErrTooMany}, {math.MaxInt, math.MaxInt - 1, api.ErrTooMany},
		{-1, 3, api.ErrRange}, {-1, -5, api.ErrRange}, {math.MinInt, math.MinInt, api.ErrRange}, {math.MinInt, math.MaxInt, api.ErrRange},
	} {
		r := New(wantNumber(c.n))
		if got := r.Count(c.most); got != 0 || r.Err() != c.e {
			t.Errorf("P4.2: Count(%d) of %d = %d, %d, want the error %d", c.most, c.n, got, r.Err(), c.e)
		}
	}
	for _, n := range []int{0, 1, 63, 64, math.MaxInt} {
		r := New(wantNumber(n))
		if got := r.Count(n); got != n || r.End() != api.OK {
			t.Errorf("P4.2: Count(%d) of %d = %d, %d", n, n, got, r.Err())
		}
	}
}

func TestTextsAreBytes(t *testing.T) {
	for _, s := range []string{"", "\x00", "\xff", "a\xc3", "\x7f\x1f\n", "\ufffd", strings.Repeat("\xff", 300)} {
		r := New(wantText(s))
		if got := r.Text(len(s)); got != s || r.End() != api.OK {
			t.Errorf("P4.2: Text of %q = %q, %d", s, got, r.Err())
		}
	}
}

// failing are calls that lead to each error.
var failing = []struct {
	b []byte
	c call
	e api.Errno
}{
	{nil, call{'N', 0}, api.ErrTruncated}, {bytes.Repeat([]byte{0xff}, 30), call{'N', 0}, api.ErrRange}, {[]byte{0x80, 0, 0, 0, 0, 0, 0, 0, 0, 0}, call{'N', 0}, api.ErrSyntax},
	{[]byte{1, 1, 1}, call{'W', 0}, api.ErrTruncated},
	{nil, call{'B', 0}, api.ErrTruncated}, {[]byte{2, 1, 1, 1, 1, 1, 1, 1, 1, 1}, call{'B', 0}, api.ErrSyntax},
	{[]byte{1, 0, 0, 0, 0, 0, 0, 0, 0, 0}, call{'T', 9}, api.ErrRange}, {[]byte{4, 0, 0, 0, 0, 0, 0, 0, 0, 0}, call{'T', 1}, api.ErrTooLong}, {[]byte{80, 0, 0, 0, 0, 0, 0, 0, 0, 0}, call{'T', 90}, api.ErrTruncated},
	{[]byte{1, 0, 0, 0, 0, 0, 0, 0, 0, 0}, call{'C', 9}, api.ErrRange}, {[]byte{4, 0, 0, 0, 0, 0, 0, 0, 0, 0}, call{'C', 1}, api.ErrTooMany},
	{[]byte{0, 0, 0, 0, 0, 0, 0, 0, 0, 0}, call{'F', int(api.ErrShape)}, api.ErrShape}, {nil, call{'F', int(api.ErrTrailing)}, api.ErrTrailing},
}

func TestFirstErrorIsKept(t *testing.T) {
	later := []call{{'N', 0}, {'W', 0}, {'B', 0}, {'T', 9}, {'C', 9}, {'T', -1}, {'C', -1}, {'F', int(api.ErrKind)}, {'F', 0}}
	for _, f := range failing {
		r := New(f.b)
		run(r, f.c)
		left := len(r.rest)
		for range 2 {
			for _, c := range later {
				if got := run(r, c); got != zeros[c.method] {
					t.Errorf("P4.2: %v = %v after the error %d", c, got, f.e)
				}
				if r.Err() != f.e || r.End() != f.e || len(r.rest) != left {
					t.Errorf("P4.2: %v changes the error %d to %d", c, f.e, r.Err())
				}
			}
		}
	}
}

func TestNewKeepsNoArgument(t *testing.T) {
	own := append(wantText("abc"), wantNumber(5)...)
	r, other := New(own), New(own)
	want := slices.Clone(own)
	if got := other.Text(3); got != "abc" || !bytes.Equal(own, want) {
		t.Errorf("G2: reading %q changes the argument to %x", got, own)
	}
	clear(own)
	if got := r.Text(3); got != "abc" || r.Number() != 5 || other.Number() != 5 || r.End() != api.OK {
		t.Errorf("G2: a Reader reads %q from an argument that has changed", got)
	}
}

func TestReaderStopsAtTheEndOfItsArgument(t *testing.T) {
	backing := append(bytes.Repeat([]byte{0x80}, 3), 1, 1, 1, 1, 1, 1, 1, 1)
	for n := range 4 {
		for _, c := range []call{{'N', 0}, {'W', 0}, {'T', 1 << 30}, {'C', 1 << 30}} {
			r := New(backing[:n])
			if got := run(r, c); got != zeros[c.method] || r.Err() != api.ErrTruncated {
				t.Errorf("P4.2: %v of %d bytes reads behind them: %v", c, n, got)
			}
		}
	}
}

// P4.3

func TestFail(t *testing.T) {
	for _, e := range []api.Errno{api.ErrSyntax, api.ErrTrailing, api.ErrCooling, api.ErrDead, 99, -1, math.MinInt, math.MaxInt} {
		r := New([]byte{2, 4})
		r.Fail(api.OK)
		if r.Err() != api.OK || r.Number() != 1 {
			t.Errorf("P4.3: Fail(OK) sets the error %d", r.Err())
		}
		r.Fail(e)
		if r.Err() != e || r.End() != e {
			t.Errorf("P4.3: Fail(%d) sets the error %d", e, r.Err())
		}
		r.Fail(e + 1)
		r.Fail(api.OK)
		if r.Err() != e || r.End() != e || r.Number() != 0 {
			t.Errorf("P4.3: the error %d became %d", e, r.Err())
		}
	}
}

func TestEnd(t *testing.T) {
	r := New([]byte{2, 4})
	for range 2 {
		if r.End() != api.ErrTrailing || r.Err() != api.OK {
			t.Error("P4.3: End with two bytes left, or the error behind it")
		}
	}
	if r.Number() != 1 || r.End() != api.ErrTrailing || r.Number() != 2 {
		t.Error("P4.3: End changes what is read behind it")
	}
	if r.End() != api.OK || r.Err() != api.OK {
		t.Errorf("P4.3: End with no bytes left = %d", r.End())
	}
	if r.Bool() || r.End() != api.ErrTruncated {
		t.Errorf("P4.3: End after an error = %d", r.End())
	}
	for _, b := range [][]byte{nil, {}} {
		if r := New(b); r.End() != api.OK || r.Err() != api.OK {
			t.Errorf("G3: End of no bytes = %d", r.End())
		}
	}
}

func TestReadersAreIndependent(t *testing.T) {
	a, b := New([]byte{2}), New([]byte{2})
	a.Fail(api.ErrKind)
	if b.Err() != api.OK || b.Number() != 1 {
		t.Error("G2: an error of one Reader is one of another")
	}
}

// randomCalls prefers arguments near those that the bytes contain.
func randomCalls(r *rand.Rand) []call {
	calls := make([]call, 1+r.Intn(12))
	for i := range calls {
		calls[i] = call{"NNCCWBTTTEZF"[r.Intn(12)], r.Intn(40) - 2}
		if r.Intn(20) == 0 {
			calls[i].arg = limits[r.Intn(len(limits))]
		}
		if calls[i].method == 'F' && r.Intn(3) > 0 {
			calls[i].arg = 0
		}
	}
	return calls
}

// randomBytes prefers bytes of which short texts and small numbers consist.
func randomBytes(r *rand.Rand) []byte {
	b := make([]byte, r.Intn(50))
	for i := range b {
		b[i] = []byte{0, 1, 2, 4, 8, 0x80, 0xff, byte(r.Intn(256)), byte(r.Intn(32)), byte(2 * r.Intn(8))}[r.Intn(10)]
	}
	return b
}

func TestRandomCalls(t *testing.T) {
	r := rand.New(rand.NewSource(3))
	for range 100000 {
		checkCalls(t, randomBytes(r), randomCalls(r)...)
	}
}

// P4.4

func checkBack(t *testing.T, items []item, b []byte) {
	t.Helper()
	for _, behind := range followers {
		r := New(slices.Concat(b, behind))
		for _, it := range items {
			if got := run(r, it.read); got != it.value || r.Err() != api.OK {
				t.Fatalf("P4.4: %v in %x is read as %v, %d", it, b, got, r.Err())
			}
		}
		if len(r.rest) != len(behind) || (r.End() == api.OK) != (len(behind) == 0) {
			t.Fatalf("P4.4: %d bytes are left behind %x, want %d", len(r.rest), b, len(behind))
		}
	}
}

func TestWhatWasWrittenIsRead(t *testing.T) {
	r := rand.New(rand.NewSource(4))
	for range 20000 {
		items := randomItems(r)
		var want []byte
		for _, it := range items {
			want = append(want, wantPut(it)...)
		}
		b := putAll(items)
		if !bytes.Equal(b, want) {
			t.Fatalf("P4.1: %v is written as %x, want %x", items, b, want)
		}
		checkBack(t, items, b)
	}
}

func checkPrefixes(t *testing.T, items []item, b []byte) {
	t.Helper()
	for n := range b {
		r := New(b[:n])
		for _, it := range items {
			if got := run(r, it.read); r.Err() == api.OK && got != it.value {
				t.Fatalf("P4.4: %v is read as %v from the first %d bytes of %x", it, got, n, b)
			}
		}
		if r.Err() != api.ErrTruncated || r.End() != api.ErrTruncated {
			t.Fatalf("P4.4: the first %d bytes of %x, %v, give the error %d", n, b, items, r.Err())
		}
	}
}

func TestPrefixesAreTruncated(t *testing.T) {
	for _, n := range numbers() {
		checkPrefixes(t, []item{numberItem(n)}, wantNumber(n))
	}
	r := rand.New(rand.NewSource(5))
	for range 3000 {
		items := randomItems(r)
		checkPrefixes(t, items, putAll(items))
	}
}

func TestDifferentArgumentsGiveDifferentBytes(t *testing.T) {
	choices := map[byte][]item{
		'N': {numberItem(0), numberItem(-1), numberItem(1), numberItem(63), numberItem(64), numberItem(-65), numberItem(8192)},
		'B': {{false, call{'B', 0}}, {true, call{'B', 0}}},
		'W': {{uint64(0), call{'W', 0}}, {uint64(1), call{'W', 0}}, {uint64(1 << 56), call{'W', 0}}},
		'T': {{"", call{'T', 9}}, {"\x00", call{'T', 9}}, {"\x02", call{'T', 9}}, {"\x00\x00", call{'T', 9}}, {"\x04a", call{'T', 9}}},
	}
	for _, methods := range []string{"N", "NN", "NNN", "TTT", "TN", "NT", "BN", "NB", "TB", "WT", "TW", "NTN", "TNT", "TWB"} {
		seen := map[string]string{}
		var extend func(at int, items []item, b []byte)
		extend = func(at int, items []item, b []byte) {
			if at == len(methods) {
				name := fmt.Sprintf("%#v", items)
				if other, ok := seen[string(b)]; ok {
					t.Errorf("P4.4: %s and %s are both written as %x", other, name, b)
				}
				seen[string(b)] = name
				return
			}
			for _, it := range choices[methods[at]] {
				extend(at+1, append(slices.Clip(items), it), put(b, it))
			}
		}
		extend(0, nil, nil)
	}
}

// TestEncodingIsTheOnlyOne writes what was read from any bytes, which gives the same bytes.
func TestEncodingIsTheOnlyOne(t *testing.T) {
	r := rand.New(rand.NewSource(6))
	for range 50000 {
		b := randomBytes(r)
		reader := New(b)
		var again []byte
		for reader.Err() == api.OK {
			c := call{"NWBT"[r.Intn(4)], 1 << 20}
			got := run(reader, c)
			if reader.Err() != api.OK {
				break
			}
			again = put(again, item{got, c})
			if !bytes.HasPrefix(b, again) || len(again)+len(reader.rest) != len(b) {
				t.Fatalf("P4.4: what was read from %x is written as %x", b, again)
			}
		}
	}
}

func TestExamplesOfTheDocument(t *testing.T) {
	if got := PutNumber(nil, -1); !bytes.Equal(got, []byte{1}) {
		t.Errorf("example: PutNumber of -1 = %v", got)
	}
	if got := PutNumber(nil, 64); !bytes.Equal(got, []byte{128, 1}) {
		t.Errorf("example: PutNumber of 64 = %v", got)
	}
	r := New([]byte{6, 97, 98, 99})
	if got := r.Text(2); got != "" || r.Err() != api.ErrTooLong {
		t.Errorf("example: Text(2) = %q, %d", got, r.Err())
	}
}

func FuzzWire(f *testing.F) {
	f.Add([]byte{6, 97, 98, 99}, []byte("TNBW"), 3, uint64(1), "a")
	f.Add(bytes.Repeat([]byte{0xff}, 12), []byte("NZE"), -1, uint64(math.MaxUint64), "")
	f.Add([]byte{0x80, 0, 1}, []byte("CF"), math.MinInt, uint64(0), "\x00")
	f.Fuzz(func(t *testing.T, b, methods []byte, n int, w uint64, s string) {
		var calls []call
		for i, x := range methods {
			c := call{"NCWBTEZF"[x%8], n >> (8 * (i % 8))}
			calls = append(calls, c)
		}
		checkCalls(t, b, calls...)
		items := []item{numberItem(n), {w, call{'W', 0}}, {s, call{'T', len(s)}}, {w%2 == 1, call{'B', 0}}, {len(s), call{'C', len(s)}}}
		for _, it := range items {
			checkPut(t, it)
		}
		checkBack(t, items, putAll(items))
		checkPrefixes(t, items, putAll(items))
	})
}
