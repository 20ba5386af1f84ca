package sum

import (
	"bytes"
	"hash/crc32"
	"math"
	"math/bits"
	"strings"
	"testing"

	"lapstone/api"
)

// samples returns byte strings of many lengths: plain ones, and ones of mixed bytes.
func samples() []string {
	l := []string{"", "a", "ab", "123456789", "\x00", "\xff", "\x80", "\x01", "\x00\x00\x00\x00", "\xff\xff\xff\xff", "\x04\xc1\x1d\xb7", strings.Repeat("\x00", 600), strings.Repeat("\xff", 513), strings.Repeat("lapstone", 300)}
	for n := range 70 {
		l = append(l, string(mixed(n, uint32(n))))
	}
	return l
}

// mixed returns n bytes of a fixed sequence that the seed selects.
func mixed(n int, seed uint32) []byte {
	b := make([]byte, n)
	for i := range b {
		seed = seed*1664525 + 1013904223
		b[i] = byte(seed >> 24)
	}
	return b
}

var sums = []uint32{0, 1, 2, 0x7fffffff, 0x80000000, 0x80000001, 0xfffffffe, math.MaxUint32, 0x04c11db7, 0xfb3ee248, 0x12345678, 0xfc891918}

// mirrored is what More answers, worked out by the library's CRC: it has the same polynomial, but takes the bits of everything the other way round.
func mirrored(sum uint32, s string) uint32 {
	b := []byte(s)
	for i := range b {
		b[i] = bits.Reverse8(b[i])
	}
	return bits.Reverse32(crc32.Update(bits.Reverse32(sum), crc32.IEEETable, b))
}

// stepped is what More answers, bit by bit.
func stepped(sum uint32, s string) uint32 {
	for i := range len(s) {
		for k := 7; k >= 0; k-- {
			sum = Step(sum, s[i]>>k&1 == 1)
		}
	}
	return sum
}

// P2.1

func TestOf(t *testing.T) {
	for s, want := range map[string]uint32{
		"":                 0,
		"123456789":        0xfc891918,
		"\x00":             0xb1f7404b,
		"\xff":             0x000000ff, // the register only shifts: the bits removed are those of the string
		"\xff\xff\xff\xff": 0xffffffff,
		"a":                0x19939b6b,
		"abc":              0x648cbb73,
	} {
		if got := Of([]byte(s)); got != want {
			t.Errorf("Of(%q) = %#x; want %#x", s, got, want)
		}
	}
	for _, s := range samples() {
		if got, want := Of([]byte(s)), mirrored(0, s); got != want {
			t.Errorf("Of(%q) = %#x; want %#x", s, got, want)
		}
	}
}

func TestOfEveryByte(t *testing.T) {
	for x := range 256 {
		for _, s := range []string{string([]byte{byte(x)}), string([]byte{0, byte(x)}), string([]byte{byte(x), 0xff})} {
			if got, want := Of([]byte(s)), mirrored(0, s); got != want {
				t.Errorf("Of(%q) = %#x; want %#x", s, got, want)
			}
		}
	}
}

func TestMorePieces(t *testing.T) {
	for _, s := range samples() {
		want := Of([]byte(s))
		for i := 0; i <= len(s); i += 1 + len(s)/40 {
			if got := More(Of([]byte(s[:i])), []byte(s[i:])); got != want {
				t.Errorf("More(Of(%q), %q) = %#x; want %#x", s[:i], s[i:], got, want)
			}
		}
		sum := Of(nil)
		for i := range len(s) {
			sum = More(sum, []byte{s[i]})
		}
		if sum != want {
			t.Errorf("byte after byte of %q: %#x; want %#x", s, sum, want)
		}
	}
}

func TestMoreAnySum(t *testing.T) {
	for _, sum := range sums {
		if got := More(sum, nil); got != sum {
			t.Errorf("More(%#x, nothing) = %#x", sum, got)
		}
		for _, s := range samples() {
			if got, want := More(sum, []byte(s)), mirrored(sum, s); got != want {
				t.Errorf("More(%#x, %q) = %#x; want %#x", sum, s, got, want)
			}
		}
	}
}

func TestStep(t *testing.T) {
	for _, x := range []struct {
		sum  uint32
		bit  bool
		want uint32
	}{
		{0, true, 1}, // register of ones only: 1 is removed
		{0, false, 0x04c11db6},
		{0xffffffff, false, 0xffffffff}, // register of zeros only
		{0xffffffff, true, 0xfb3ee248},
		{0x7fffffff, true, 0xffffffff}, // register with the top bit alone
		{0x7fffffff, false, 0xfb3ee248},
		{0x80000000, false, 0x00000001},
		{0x80000000, true, 0x04c11db6},
		{0xfffffffe, false, 0xfffffffd}, // register with the bottom bit alone
		{0xfffffffe, true, 0xfb3ee24a},
	} {
		if got := Step(x.sum, x.bit); got != x.want {
			t.Errorf("Step(%#x, %t) = %#x; want %#x", x.sum, x.bit, got, x.want)
		}
	}
}

func TestStepAgain(t *testing.T) {
	for _, sum := range sums {
		for _, s := range samples() {
			if got, want := stepped(sum, s), More(sum, []byte(s)); got != want {
				t.Errorf("steps from %#x over %q: %#x; want %#x", sum, s, got, want)
			}
		}
	}
}

// P2.2

func TestSeal(t *testing.T) {
	for s, want := range map[string]string{
		"":                 "\x00\x00\x00\x00",
		"123456789":        "123456789\xfc\x89\x19\x18",
		"a":                "a\x19\x93\x9b\x6b",
		"\xff":             "\xff\x00\x00\x00\xff",
		"\xff\xff\xff\xff": "\xff\xff\xff\xff\xff\xff\xff\xff",
	} {
		if got := Seal([]byte(s)); string(got) != want {
			t.Errorf("Seal(%q) = %q; want %q", s, got, want)
		}
	}
}

func TestSealAgain(t *testing.T) {
	for _, s := range samples() {
		b := Seal([]byte(s))
		if len(b) != len(s)+4 || string(b[:len(s)]) != s {
			t.Errorf("Seal(%q) = %q", s, b)
		}
		if got, e := Open(b); string(got) != s || e != api.OK {
			t.Errorf("Open(%q) = %q, %d; want %q", b, got, e, s)
		}
		twice := Seal(b)
		if got, e := Open(twice); string(got) != string(b) || e != api.OK {
			t.Errorf("Open(%q) = %q, %d; want %q", twice, got, e, b)
		}
	}
}

func TestOpenShort(t *testing.T) {
	for _, s := range []string{"", "\x00", "\x00\x00", "\x00\x00\x00", "a", "ab", "abc", "\xff\xff\xff"} {
		if b, e := Open([]byte(s)); b != nil || e != api.ErrSumShort {
			t.Errorf("Open(%q) = %q, %d; want ErrSumShort", s, b, e)
		}
	}
}

func TestOpenWrong(t *testing.T) {
	for _, s := range []string{
		"\x00\x00\x00\x01", // the sum of nothing is 0
		"\x01\x00\x00\x00",
		"\xff\xff\xff\xff",
		"abcd",
		"123456789\x18\x19\x89\xfc",     // the bytes of the sum turned round
		"123456789\x03\x76\xe6\xe7",     // the register, not inverted
		"123456789\xcb\xf4\x39\x26",     // the sum of another CRC
		"123456789\xfc\x89\x19",         // a byte too few
		"123456789\xfc\x89\x19\x18 ",    // a byte too many
		"\xfc\x89\x19\x18123456789",     // the sum in front
		"\x00123456789\xfc\x89\x19\x18", // a zero in front
		"123456798\xfc\x89\x19\x18",     // bytes exchanged
	} {
		if b, e := Open([]byte(s)); b != nil || e != api.ErrSumWrong {
			t.Errorf("Open(%q) = %q, %d; want ErrSumWrong", s, b, e)
		}
	}
}

func TestOpenEverySum(t *testing.T) {
	for _, s := range samples() {
		for _, sum := range append(sums, Of([]byte(s))+1, Of([]byte(s))-1) {
			b := []byte{byte(sum >> 24), byte(sum >> 16), byte(sum >> 8), byte(sum)}
			got, e := Open(append([]byte(s), b...))
			if sum == Of([]byte(s)) {
				if string(got) != s || e != api.OK {
					t.Errorf("%q with its sum: %q, %d", s, got, e)
				}
			} else if got != nil || e != api.ErrSumWrong {
				t.Errorf("%q with the sum %#x: %q, %d; want ErrSumWrong", s, sum, got, e)
			}
		}
	}
}

// P2.3

// sealedSamples returns sealed strings: short ones, since every place in them is tried.
func sealedSamples() [][]byte {
	var l [][]byte
	for _, s := range []string{"", "a", "ab", "\x00\x00\x00\x00\x00", "\xff\xff\xff\xff", "123456789", "lapstone, a store"} {
		l = append(l, Seal([]byte(s)))
	}
	return l
}

// turn inverts bits of a copy of b: bit k of burst, from its top bit on, is for the bit at from + k.
func turn(b []byte, from int, burst uint64) []byte {
	c := bytes.Clone(b)
	for k := range bits.Len64(burst) {
		if burst>>(bits.Len64(burst)-1-k)&1 == 1 {
			c[(from+k)/8] ^= 0x80 >> ((from + k) % 8)
		}
	}
	return c
}

func checkBurst(t *testing.T, b []byte, burst uint64) {
	t.Helper()
	for from := 0; from+bits.Len64(burst) <= 8*len(b); from++ {
		c := turn(b, from, burst)
		if got, e := Open(c); got != nil || e != api.ErrSumWrong {
			t.Fatalf("%q with the burst %#x at bit %d: %q, %d; want ErrSumWrong", b, burst, from, got, e)
		}
	}
}

func TestSingleBits(t *testing.T) {
	for _, s := range samples() {
		checkBurst(t, Seal([]byte(s)), 1)
	}
}

// TestShortBursts tries all bursts of up to ten bits.
func TestShortBursts(t *testing.T) {
	for _, b := range sealedSamples() {
		for burst := range uint64(1<<10 - 1) {
			checkBurst(t, b, burst+1)
		}
	}
}

// TestLongBursts tries, of every length, the ends alone, all bits, the ends with one bit or two between, and mixed ones.
func TestLongBursts(t *testing.T) {
	for _, b := range sealedSamples() {
		for n := 11; n <= 32; n++ {
			ends := uint64(1)<<(n-1) | 1
			checkBurst(t, b, ends)
			checkBurst(t, b, 1<<n-1)
			for k := 1; k < n-1; k++ {
				checkBurst(t, b, ends|1<<k)
				checkBurst(t, b, ends|1<<k|1<<(n/2))
				checkBurst(t, b, (1<<n-1)&^(1<<k))
			}
			for seed := range uint32(40) {
				m := mixed(4, seed)
				inner := uint64(m[0])<<24 | uint64(m[1])<<16 | uint64(m[2])<<8 | uint64(m[3])
				checkBurst(t, b, ends|inner&(1<<n-1))
			}
			checkBurst(t, b, ends|polynomial&(1<<n-1))
		}
	}
}

// TestBurstOf33 turns one bit more, as the polynomial says: that is another sealed string.
func TestBurstOf33(t *testing.T) {
	b := Seal([]byte("123456789"))
	for from := range 8*len(b) - 32 {
		c := turn(b, from, 1<<32|polynomial)
		if got, e := Open(c); string(got) != string(c[:9]) || string(got) == "123456789" || e != api.OK {
			t.Errorf("at bit %d: %q, %d", from, got, e)
		}
	}
}

// P1: every call ends without a panic, leaves what it is given alone, and answers new memory.

func TestMemory(t *testing.T) {
	for size := range 13 {
		whole := append(Seal(mixed(size, 3)), bytes.Repeat([]byte{0x55}, 30)...)
		before := bytes.Clone(whole)
		for _, b := range [][]byte{whole[:size], whole[:size+4]} { // with unused capacity, which isn't to be written either
			opened, _ := Open(b)
			Of(b)
			More(7, b)
			for _, got := range [][]byte{Seal(b), opened} {
				for i := range got[:cap(got)] {
					got[:cap(got)][i] = 0xaa
				}
			}
			if !bytes.Equal(whole, before) {
				t.Fatalf("what was given was changed, or answered, at size %d", size)
			}
		}
	}
}

func TestAnswersApart(t *testing.T) {
	b := Seal([]byte("ab"))
	first, _ := Open(b)
	second, _ := Open(b)
	first[0] = 'x'
	if string(second) != "ab" {
		t.Error("two answers of Open share memory")
	}
	if again := Seal([]byte("ab")); !bytes.Equal(again, b) {
		t.Errorf("Seal(ab) = %q, then %q", b, again)
	}
}

func TestNil(t *testing.T) {
	if Of(nil) != 0 || Of([]byte{}) != 0 || More(5, nil) != 5 || More(5, []byte{}) != 5 {
		t.Error("nothing has a sum of its own")
	}
	if !bytes.Equal(Seal(nil), Seal([]byte{})) || len(Seal(nil)) != 4 {
		t.Errorf("Seal: nil %q, empty %q", Seal(nil), Seal([]byte{}))
	}
	if b, e := Open(Seal(nil)); len(b) != 0 || e != api.OK {
		t.Errorf("the sealed empty string: %q, %d", b, e)
	}
}
