package digest

import (
	"bytes"
	"encoding/binary"
	"errors"
	"fmt"
	"math"
	"math/big"
	"math/rand"
	"slices"
	"testing"
)

// stepsInDocument are the steps of a round, as chapter 2 writes them: the operation, its target, and the other word or the distance.
var stepsInDocument = []struct {
	op, to string
	by     any
}{
	{"+=", "v0", "v1"}, {"rotl", "v1", 13}, {"^=", "v1", "v0"}, {"rotl", "v0", 32},
	{"+=", "v2", "v3"}, {"rotl", "v3", 16}, {"^=", "v3", "v2"},
	{"+=", "v0", "v3"}, {"rotl", "v3", 21}, {"^=", "v3", "v0"},
	{"+=", "v2", "v1"}, {"rotl", "v1", 17}, {"^=", "v1", "v2"}, {"rotl", "v2", 32},
}

// vectors are the hash values that the authors of SipHash published: those of the bytes 0 to n - 1 for each n, with the key words of the bytes 0 to 15.
var vectors = []uint64{
	0x726fdb47dd0e0e31, 0x74f839c593dc67fd, 0x0d6c8009d9a94f5a, 0x85676696d7fb7e2d,
	0xcf2794e0277187b7, 0x18765564cd99a68d, 0xcbc9466e58fee3ce, 0xab0200f58b01d137,
	0x93f5f5799a932462, 0x9e0082df0ba9e4b0, 0x7a5dbbc594ddb9f3, 0xf4b32f46226bada7,
	0x751e8fbc860ee5fb, 0x14ea5627c0843d90, 0xf723ca908e7af2ee, 0xa129ca6149be45e5,
	0x3f2acc7f57c29bdb, 0x699ae9f52cbe4794, 0x4bc1b3f0968dd39c, 0xbb6dc91da77961bd,
	0xbed65cf21aa2ee98, 0xd0f2cbb02e3b67c7, 0x93536795e3a33e88, 0xa80c038ccd5ccec8,
	0xb8ad50c6f649af94, 0xbce192de8a85b8ea, 0x17d835b85bbb15f3, 0x2f2e6163076bcfad,
	0xde4daaaca71dc9a5, 0xa6a2506687956571, 0xad87a3535c49ef28, 0x32d892fad841c342,
	0x7127512f72f27cce, 0xa7f32346f95978e3, 0x12e0b01abb051238, 0x15e034d40fa197ae,
	0x314dffbe0815a3b4, 0x027990f029623981, 0xcadcd4e59ef40c4d, 0x9abfd8766a33735c,
	0x0e3ea96b5304a7d0, 0xad0c42d6fc585992, 0x187306c89bc215a9, 0xd4a60abcf3792b95,
	0xf935451de4f21df2, 0xa9538f0419755787, 0xdb9acddff56ca510, 0xd06c98cd5c0975eb,
	0xe612a3cb9ecba951, 0xc766e62cfcadaf96, 0xee64435a9752fe72, 0xa192d576b245165a,
	0x0a8787bf8ecb74b2, 0x81b3e73d20b49b6f, 0x7fa8220ba3b2ecea, 0x245731c13ca42499,
	0xb78dbfaf3a8d83bd, 0xea1ad565322a1a0b, 0x60e61c23a3795013, 0x6606d7e446282b93,
	0x6ca4ecb15c5f91e1, 0x9f626da15c9625f3, 0xe51b38608ef25f57, 0x958a324ceb064572,
}

// sixtyFour is 2^64.
var sixtyFour = new(big.Int).Lsh(big.NewInt(1), 64)

type words map[string]*big.Int

// round carries out the steps of the document with numbers of any size.
func (v words) round() {
	for _, step := range stepsInDocument {
		x := v[step.to]
		switch by := step.by.(type) {
		case int:
			high := new(big.Int).Rsh(x, uint(64-by))
			x.Lsh(x, uint(by)).Add(x, high)
		case string:
			if step.op == "+=" {
				x.Add(x, v[by])
			} else {
				x.Xor(x, v[by])
			}
		}
		x.Mod(x, sixtyFour)
	}
}

func number(x uint64) *big.Int { return new(big.Int).SetUint64(x) }

// wantSum reads P2.1 literally.
func wantSum(k0, k1 uint64, b []byte) uint64 {
	v := words{
		"v0": number(k0 ^ 0x736f6d6570736575),
		"v1": number(k1 ^ 0x646f72616e646f6d),
		"v2": number(k0 ^ 0x6c7967656e657261),
		"v3": number(k1 ^ 0x7465646279746573),
	}
	padded := slices.Concat(b, make([]byte, 7-len(b)%8), []byte{byte(len(b) % 256)})
	for block := range slices.Chunk(padded, 8) {
		m := number(binary.LittleEndian.Uint64(block))
		v["v3"].Xor(v["v3"], m)
		v.round()
		v.round()
		v["v0"].Xor(v["v0"], m)
	}
	v["v2"].Xor(v["v2"], number(0xff))
	for range 4 {
		v.round()
	}
	result := new(big.Int)
	for _, name := range []string{"v0", "v1", "v2", "v3"} {
		result.Xor(result, v[name])
	}
	return result.Uint64()
}

// wantFrame reads P2.2 literally.
func wantFrame(fields [][]byte) []byte {
	frame := []byte{}
	for _, field := range fields {
		frame = binary.BigEndian.AppendUint64(frame, uint64(len(field)))
		frame = append(frame, field...)
	}
	return frame
}

// unframe is the inverse of Frame that P2.4 promises.
func unframe(frame []byte) ([][]byte, error) {
	var fields [][]byte
	for len(frame) > 0 {
		if len(frame) < 8 {
			return nil, errors.New("half a number")
		}
		n := binary.BigEndian.Uint64(frame)
		frame = frame[8:]
		if n > uint64(len(frame)) {
			return nil, errors.New("half a field")
		}
		fields = append(fields, frame[:n])
		frame = frame[n:]
	}
	return fields, nil
}

// up returns the bytes 0 to n - 1, modulo 256.
func up(n int) []byte {
	b := make([]byte, n)
	for i := range b {
		b[i] = byte(i)
	}
	return b
}

func randomBytes(r *rand.Rand, n int) []byte {
	b := make([]byte, n)
	r.Read(b)
	return b
}

// keys are key words and domains at the edges of their type.
var keys = []uint64{0, 1, 2, 255, 256, math.MaxInt64, 1 << 63, math.MaxUint64 - 1, math.MaxUint64}

// eachList calls visit with every list of at most length of these fields.
func eachList(fields [][]byte, length int, visit func([][]byte)) {
	var extend func(list [][]byte)
	extend = func(list [][]byte) {
		visit(list)
		if len(list) == length {
			return
		}
		for _, field := range fields {
			extend(append(slices.Clip(list), field))
		}
	}
	extend(nil)
}

// P2.1

func TestSumOfPublishedVectors(t *testing.T) {
	for n, want := range vectors {
		if got := Sum(0x0706050403020100, 0x0f0e0d0c0b0a0908, up(n)); got != want {
			t.Errorf("P2.1: Sum of the bytes 0 to %d - 1 = %#x, want %#x", n, got, want)
		}
	}
}

func TestSumOfEachLength(t *testing.T) {
	r := rand.New(rand.NewSource(1))
	for n := range 530 {
		k0, k1, b := r.Uint64(), r.Uint64(), randomBytes(r, n)
		if got, want := Sum(k0, k1, b), wantSum(k0, k1, b); got != want {
			t.Errorf("P2.1: Sum(%#x, %#x, %x) = %#x, want %#x", k0, k1, b, got, want)
		}
	}
	for _, n := range []int{1023, 1024, 4095, 4096, 65535, 65536, 65537, 99999} {
		b := randomBytes(r, n)
		if got, want := Sum(uint64(n), 1, b), wantSum(uint64(n), 1, b); got != want {
			t.Errorf("P2.1: Sum of %d bytes = %#x, want %#x", n, got, want)
		}
	}
}

func TestSumOfEachByteAtEachPlace(t *testing.T) {
	for n := 1; n <= 17; n++ {
		for at := range n {
			for _, x := range []byte{1, 0x7f, 0x80, 0xff} {
				b := make([]byte, n)
				b[at] = x
				if got, want := Sum(3, 4, b), wantSum(3, 4, b); got != want {
					t.Errorf("P2.1: Sum(3, 4, %x) = %#x, want %#x", b, got, want)
				}
			}
		}
	}
}

func TestSumOfKeysAtTheEdges(t *testing.T) {
	for _, k0 := range keys {
		for _, k1 := range keys {
			for _, n := range []int{0, 7, 8, 9, 16} {
				for _, fill := range []byte{0, 0xff} {
					b := bytes.Repeat([]byte{fill}, n)
					if got, want := Sum(k0, k1, b), wantSum(k0, k1, b); got != want {
						t.Errorf("P2.1: Sum(%#x, %#x, %x) = %#x, want %#x", k0, k1, b, got, want)
					}
				}
			}
		}
	}
}

func TestSumDependsOnTheNumberOfZeroBytes(t *testing.T) {
	seen := map[uint64]int{}
	for n := range 1030 {
		sum := Sum(1, 2, make([]byte, n))
		if m, ok := seen[sum]; ok {
			t.Errorf("P2.1: Sum of %d and of %d zero bytes are equal", m, n)
		}
		seen[sum] = n
	}
}

func TestSumOfNoBytes(t *testing.T) {
	if a, b := Sum(5, 6, nil), Sum(5, 6, []byte{}); a != b || a != wantSum(5, 6, nil) {
		t.Errorf("G3: Sum of nil and of no bytes = %#x and %#x, want %#x", a, b, wantSum(5, 6, nil))
	}
}

func TestSumReadsNothingBehindItsArgument(t *testing.T) {
	for n := range 25 {
		b := append(up(n), 0xee, 0xee, 0xee, 0xee, 0xee, 0xee, 0xee, 0xee)
		if got, want := Sum(7, 8, b[:n]), Sum(7, 8, up(n)); got != want {
			t.Errorf("P2.1: Sum of %d bytes depends on those behind them", n)
		}
		if want := append(up(n), bytes.Repeat([]byte{0xee}, 8)...); !bytes.Equal(b, want) {
			t.Errorf("G2: Sum of %d bytes changes its argument to %x", n, b)
		}
	}
}

// P2.2

func TestFrameOfLists(t *testing.T) {
	fields := [][]byte{nil, {}, {0}, {8}, {0, 0, 0, 0, 0, 0, 0, 0}, {0, 0, 0, 0, 0, 0, 0, 1}, up(9)}
	eachList(fields, 4, func(list [][]byte) {
		if got, want := Frame(list...), wantFrame(list); !bytes.Equal(got, want) {
			t.Errorf("P2.2: Frame(%x) = %x, want %x", list, got, want)
		}
	})
}

func TestFrameOfLongFields(t *testing.T) {
	for _, n := range []int{127, 128, 255, 256, 257, 65535, 65536, 1<<24 - 1, 1 << 24} {
		long := up(n)
		list := [][]byte{{1}, long, {2}}
		if got := Frame(list...); !bytes.Equal(got, wantFrame(list)) {
			t.Errorf("P2.2: Frame of a field of %d bytes begins with %x", n, got[:min(len(got), 32)])
		}
	}
}

func TestFrameOfManyFields(t *testing.T) {
	list := make([][]byte, 3000)
	for i := range list {
		list[i] = up(i % 11)
	}
	if !bytes.Equal(Frame(list...), wantFrame(list)) {
		t.Error("P2.2: Frame of 3000 fields")
	}
}

func TestFrameOfNoFields(t *testing.T) {
	if got := Frame(); len(got) != 0 {
		t.Errorf("P2.2: Frame() = %x", got)
	}
	if got := Frame([][]byte{}...); len(got) != 0 {
		t.Errorf("P2.2: Frame of an empty list = %x", got)
	}
}

func TestFrameIsNewMemory(t *testing.T) {
	backing := []byte{1, 2, 3, 4, 5, 6, 7, 8, 9, 10, 11, 12}
	fields := [][]byte{backing[:2], backing[4:6:6], nil, backing[8:9]}
	spare := append(fields, []byte("spare"))
	got := Frame(spare[:3]...)
	for i := range got {
		got[i] = 0xaa
	}
	_ = append(got, 0xbb)
	if !bytes.Equal(backing, []byte{1, 2, 3, 4, 5, 6, 7, 8, 9, 10, 11, 12}) {
		t.Errorf("G2: Frame shares memory with its fields: %x", backing)
	}
	if string(spare[4]) != "spare" || spare[2] != nil {
		t.Error("G2: Frame changes its list of fields")
	}
	if again := Frame(spare[:3]...); !bytes.Equal(again, wantFrame(spare[:3])) {
		t.Errorf("G2: Frame depends on an earlier result: %x", again)
	}
}

// P2.3

func checkHashes(t *testing.T, key, domain uint64, list [][]byte) {
	t.Helper()
	frame := wantFrame(list)
	if got, want := Hash(domain, list...), wantSum(domain, 0, frame); got != want {
		t.Errorf("P2.3: Hash(%#x, %x) = %#x, want %#x", domain, list, got, want)
	}
	// In Go the sum of two uint64 is the one modulo 2^64, as chapter 2 asks for.
	if got, want := Mac(key, domain, list...), wantSum(key, domain+1, frame); got != want {
		t.Errorf("P2.3: Mac(%#x, %#x, %x) = %#x, want %#x", key, domain, list, got, want)
	}
}

func TestHashAndMacOfDomainsAtTheEdges(t *testing.T) {
	for _, list := range [][][]byte{nil, {nil}, {{5}}, {[]byte("salt"), nil, up(9)}} {
		for _, key := range keys {
			for _, domain := range keys {
				checkHashes(t, key, domain, list)
			}
		}
	}
}

func TestHashAndMacOfRandomLists(t *testing.T) {
	r := rand.New(rand.NewSource(2))
	for range 500 {
		list := make([][]byte, r.Intn(6))
		for i := range list {
			list[i] = randomBytes(r, r.Intn(20))
		}
		checkHashes(t, r.Uint64(), r.Uint64(), list)
	}
}

func TestMacOfTheLastDomain(t *testing.T) {
	if got, want := Mac(9, math.MaxUint64, []byte("x")), Sum(9, 0, Frame([]byte("x"))); got != want {
		t.Errorf("P2.3: Mac in the last domain = %#x, want %#x", got, want)
	}
}

func TestHashAndMacDoNotChangeTheirArguments(t *testing.T) {
	backing := append(up(5), 0xee, 0xee)
	fields := [][]byte{backing[:5], nil, backing[2:4]}
	Hash(1, fields...)
	Mac(1, 2, fields...)
	if !bytes.Equal(backing, append(up(5), 0xee, 0xee)) || fields[1] != nil || len(fields[2]) != 2 {
		t.Errorf("G2: Hash or Mac changes its argument to %x", fields)
	}
}

// P2.4

func TestFramesOfDifferentListsDiffer(t *testing.T) {
	zeros := make([]byte, 8)
	one := []byte{0, 0, 0, 0, 0, 0, 0, 1}
	fields := [][]byte{{}, {0}, {1}, {0, 0}, {1, 0}, zeros, one, append(one, 0), append(zeros, one...)}
	seen := map[string]string{}
	eachList(fields, 4, func(list [][]byte) {
		frame, name := string(Frame(list...)), fmt.Sprintf("%x", list)
		if other, ok := seen[frame]; ok {
			t.Errorf("P2.4: %s and %s have the same frame %x", other, name, frame)
		}
		seen[frame] = name
	})
}

func checkUnframed(t *testing.T, list [][]byte) {
	t.Helper()
	got, err := unframe(Frame(list...))
	if err != nil || !slices.EqualFunc(got, list, bytes.Equal) {
		t.Errorf("P2.4: the frame of %x is that of %x (%v)", list, got, err)
	}
}

func TestFrameDeterminesItsList(t *testing.T) {
	r := rand.New(rand.NewSource(3))
	for range 2000 {
		list := make([][]byte, r.Intn(8))
		for i := range list {
			list[i] = randomBytes(r, r.Intn(300))
			if r.Intn(2) == 0 {
				// A field that looks like a frame itself is the one most likely to be misread.
				list[i] = Frame(list[:i+1]...)[:r.Intn(len(list[i])+1)]
			}
		}
		checkUnframed(t, list)
	}
}

func TestExamplesOfTheDocument(t *testing.T) {
	if got := Sum(0x0706050403020100, 0x0f0e0d0c0b0a0908, up(15)); got != 0xa129ca6149be45e5 {
		t.Errorf("example: Sum = %#x", got)
	}
	if got := Frame([]byte{5}); !bytes.Equal(got, []byte{0, 0, 0, 0, 0, 0, 0, 1, 5}) {
		t.Errorf("example: Frame = %x", got)
	}
}

func FuzzDigest(f *testing.F) {
	f.Add(uint64(0), uint64(0), []byte(nil), []byte("a"), []byte("bc"))
	f.Add(uint64(math.MaxUint64), uint64(1), up(8), up(16), up(300))
	f.Fuzz(func(t *testing.T, key, domain uint64, a, b, c []byte) {
		if got, want := Sum(key, domain, a), wantSum(key, domain, a); got != want {
			t.Errorf("P2.1: Sum(%#x, %#x, %x) = %#x, want %#x", key, domain, a, got, want)
		}
		list := [][]byte{a, b, c}
		if got, want := Frame(list...), wantFrame(list); !bytes.Equal(got, want) {
			t.Errorf("P2.2: Frame(%x) = %x, want %x", list, got, want)
		}
		checkHashes(t, key, domain, list)
		checkUnframed(t, list)
	})
}
