package record

import (
	"bytes"
	"math"
	"slices"
	"strings"
	"testing"
	"time"

	"lapstone/api"
	"lapstone/sum"
)

// one, two and three are records with consecutive numbers; oneBytes is the encoding of the first of them, by hand.
var (
	one   = api.Record{Seq: 1, Body: "a"}
	two   = api.Record{Seq: 2, Body: "a"}
	three = api.Record{Seq: 3, Body: "segment\x00\xff"}
)

const (
	oneBytes    = "\x00\x00\x00\x07\x01\x01a\x33\x3e\x34\x84"
	greatestVar = "\xff\xff\xff\xff\xff\xff\xff\xff\xff\x01" // the varint of the greatest number
)

// seqs are numbers at the edges of their encodings' lengths.
var seqs = []uint64{0, 1, 2, 127, 128, 300, 16383, 16384, 1<<32 - 1, 1 << 32, 1<<63 - 1, 1 << 63, math.MaxUint64 - 1, math.MaxUint64}

// lengths are those of bodies at the edges of their lengths' encodings, up to MaxBody.
var lengths = []int{0, 1, 2, 127, 128, 129, 16383, 16384, 16385, 32767, 32768}

func body(n int) string { return strings.Repeat("y", n) }

// variant is the varint encoding of a number, by its definition.
func variant(v uint64) string {
	if v < 128 {
		return string([]byte{byte(v)})
	}
	return string([]byte{byte(v%128) + 128}) + variant(v/128)
}

// sealed puts the checksum behind fields and the length in front of both, whatever the fields are.
func sealed(fields string) string {
	s := string(sum.Seal([]byte(fields)))
	n := len(s)
	return string([]byte{byte(n >> 24), byte(n >> 16), byte(n >> 8), byte(n)}) + s
}

// encoded is the encoding of a record, by its definition, for a body of any length.
func encoded(r api.Record) string {
	return sealed(variant(r.Seq) + variant(uint64(len(r.Body))) + r.Body)
}

// checkGet holds Get of a string against what it is to find: nothing if r is nil.
func checkGet(t *testing.T, b string, r *api.Record) {
	t.Helper()
	got, n, ok := Get([]byte(b))
	if r == nil {
		if got != (api.Record{}) || n != 0 || ok {
			t.Fatalf("Get(%.40q) of %d bytes = %d %.20q, %d, %t; want no record", b, len(b), got.Seq, got.Body, n, ok)
		}
		return
	}
	if want := len(encoded(*r)); got != *r || n != want || !ok {
		t.Fatalf("Get(%.40q) of %d bytes = %d %.20q, %d, %t; want %d %.20q, %d", b, len(b), got.Seq, got.Body, n, ok, r.Seq, r.Body, want)
	}
}

// checkScan holds Scan of a string against the records that it is to find.
func checkScan(t *testing.T, b string, first uint64, want ...api.Record) {
	t.Helper()
	size := 0
	for _, r := range want {
		size += len(encoded(r))
	}
	if got, n := Scan([]byte(b), first); !slices.Equal(got, want) || n != size {
		t.Fatalf("Scan(%.40q, %d) of %d bytes = %d records, %d; want %d records, %d", b, first, len(b), len(got), n, len(want), size)
	}
}

// P7.1

func TestPutExample(t *testing.T) {
	if b, e := Put(one); string(b) != oneBytes || e != api.OK || Size(one) != 11 {
		t.Errorf("%q, %d, size %d; want %q, size 11", b, e, Size(one), oneBytes)
	}
	if b, e := Put(api.Record{}); string(b) != "\x00\x00\x00\x06\x00\x00\xff\x48\x9b\x82" || e != api.OK {
		t.Errorf("%q, %d", b, e)
	}
	if b, e := Put(api.Record{Seq: 300, Body: "abc"}); string(b) != "\x00\x00\x00\x0a\xac\x02\x03abc\x63\x96\xea\x5f" || e != api.OK {
		t.Errorf("%q, %d", b, e)
	}
	b, e := Put(api.Record{Seq: math.MaxUint64, Body: body(32768)}) // the longest of all encodings
	if string(b[:17]) != "\x00\x00\x80\x11"+greatestVar+"\x80\x80\x02" || len(b) != 32789 || e != api.OK {
		t.Errorf("%q and so on, %d bytes, %d", b[:17], len(b), e)
	}
}

func TestPut(t *testing.T) {
	for _, seq := range seqs {
		for _, n := range lengths {
			r := api.Record{Seq: seq, Body: body(n)}
			b, e := Put(r)
			if string(b) != encoded(r) || e != api.OK {
				t.Errorf("Seq %d, %d bytes: %.40q, %d", seq, n, b, e)
			}
			if Size(r) != len(encoded(r)) {
				t.Errorf("Seq %d, %d bytes: size %d; want %d", seq, n, Size(r), len(encoded(r)))
			}
		}
	}
	for _, s := range []string{"\x00", "\xff\x80", "\x00\x00\x00\x07\x01\x01a", "é", oneBytes + oneBytes} {
		if b, e := Put(api.Record{Seq: 5, Body: s}); string(b) != encoded(api.Record{Seq: 5, Body: s}) || e != api.OK {
			t.Errorf("%q: %q, %d", s, b, e)
		}
	}
}

func TestPutLong(t *testing.T) {
	for _, seq := range []uint64{0, 1, 300, math.MaxUint64} {
		for _, n := range []int{32769, 32770, 65535, 65536, 65537, 1 << 20} {
			if b, e := Put(api.Record{Seq: seq, Body: body(n)}); b != nil || e != api.ErrRecordLong {
				t.Errorf("Seq %d, %d bytes: %.40q, %d; want ErrRecordLong", seq, n, b, e)
			}
		}
	}
}

func TestSizeLong(t *testing.T) {
	for _, seq := range seqs {
		for _, n := range []int{32769, 65535, 65536, 65537, 1<<21 - 1, 1 << 21, 1<<21 + 1} {
			r := api.Record{Seq: seq, Body: body(n)}
			if want := len(encoded(r)); Size(r) != want {
				t.Errorf("Seq %d, %d bytes: size %d; want %d", seq, n, Size(r), want)
			}
		}
	}
	if n := Size(api.Record{Body: body(1 << 21)}); n != 4+1+4+1<<21+4 {
		t.Errorf("size %d", n)
	}
}

// P7.2

func TestGet(t *testing.T) {
	for _, seq := range seqs {
		for _, n := range lengths {
			r := api.Record{Seq: seq, Body: body(n)}
			for _, behind := range []string{"", "\x00", "\xff\xff\xff\xff\xff", oneBytes, body(40000)} {
				checkGet(t, encoded(r)+behind, &r)
			}
		}
	}
	checkGet(t, oneBytes, &one)
}

func TestGetNone(t *testing.T) {
	for _, x := range []string{
		"", "\x00", "\x00\x00\x00", "\x00\x00\x00\x00", "\x00\x00\x00\x07", "\xff\xff\xff\xff", // no more than a head
		"\x00" + oneBytes, oneBytes[1:], // not at the beginning
		"\x07\x00\x00\x00" + oneBytes[4:],       // the length with its bytes turned round
		"\x00\x00\x00\x06" + oneBytes[4:],       // a length that is too small
		"\x00\x00\x00\x08" + oneBytes[4:] + "x", // and one too great
		"\x01\x00\x00\x07" + oneBytes[4:],
		"\x80\x00\x00\x07" + oneBytes[4:],
		"\xff\xff\xff\xff" + oneBytes[4:],
		"\x00\x00\x00\x0b" + oneBytes[4:] + oneBytes[:4],
		"\x00\x00\x00\x03\x01\x01a",          // no checksum
		oneBytes[:7] + "\x84\x34\x3e\x33",    // the checksum with its bytes turned round
		oneBytes[:7] + "\x00\x00\x00\x00",    // another one
		"\x00\x00\x00\x00" + oneBytes,        // an empty one in front
		sealed(""),                           // no field
		sealed("\x01"),                       // no body
		sealed("\x81"),                       // half a number
		sealed("\x01\x81"),                   // half a length
		sealed("\x01\x01"),                   // a body that is short
		sealed("\x01\x02a"),                  //
		sealed("\x01\x01ab"),                 // more than two fields
		sealed("\x01\x01a\x00"),              //
		sealed("\x00\x00\x00"),               //
		sealed("\x81\x00\x01a"),              // a number with a needless byte
		sealed("\x01\x81\x00a"),              // a length with one
		sealed("\x80\x00\x00"),               //
		sealed("\x00\x80\x00"),               //
		sealed(greatestVar[:9] + "\x02\x00"), // a number of more than 64 bits
		sealed(greatestVar[:9] + "\x81\x00\x00"),
		sealed("\x01" + greatestVar + "a"),
		sealed("\x01" + greatestVar[:9] + "\x02a"),
	} {
		checkGet(t, x, nil)
		checkGet(t, x+"\x00\x00", nil)
		checkScan(t, x, 1)
		checkScan(t, x+"\x00"+oneBytes, 1)
	}
	checkGet(t, oneBytes[:7]+oneBytes, nil) // the checksum of the first is not there
	if r, n, ok := Get(nil); r != (api.Record{}) || n != 0 || ok {
		t.Errorf("Get(nil) = %v, %d, %t", r, n, ok)
	}
}

// TestGetLong holds that no body longer than MaxBody is a record's, though a field may be longer.
func TestGetLong(t *testing.T) {
	for _, seq := range []uint64{0, 1, math.MaxUint64} {
		for _, n := range []int{32769, 32770, 32777, 32778, 40000, 65536, 65537, 1 << 20} {
			b := encoded(api.Record{Seq: seq, Body: body(n)})
			checkGet(t, b, nil)
			checkGet(t, b+oneBytes, nil)
			checkScan(t, b+oneBytes, seq)
		}
	}
}

// TestGetFields seals all strings of some bytes: those that are the fields of a record are decoded, no other one is.
func TestGetFields(t *testing.T) {
	found := 0
	for n := range 6 {
		for _, fields := range words(n, "\x00\x01\x02\x80\x81\xff") {
			b := sealed(fields)
			r := recordOf(fields)
			checkGet(t, b, r)
			checkGet(t, b+"\x01", r)
			if r != nil {
				found++
			}
		}
	}
	if found < 200 {
		t.Errorf("only %d of the strings are the fields of a record", found)
	}
}

// recordOf tries all places at which the number, the body's length and the body may part: nil if none yields a record.
func recordOf(fields string) *api.Record {
	for i := range len(fields) + 1 {
		for j := i; j <= len(fields); j++ {
			r := api.Record{Body: fields[j:]}
			for k := range i {
				r.Seq |= uint64(fields[k]&127) << (7 * k)
			}
			if variant(r.Seq)+variant(uint64(len(r.Body))) == fields[:j] && len(variant(r.Seq)) == i {
				return &r
			}
		}
	}
	return nil
}

// words returns all strings of n of the given bytes.
func words(n int, of string) []string {
	if n == 0 {
		return []string{""}
	}
	var out []string
	for _, s := range words(n-1, of) {
		for i := range len(of) {
			out = append(out, s+of[i:i+1])
		}
	}
	return out
}

// TestGetTorn changes every byte to every other value, alone and with more bytes behind.
func TestGetTorn(t *testing.T) {
	for _, r := range []api.Record{one, three, {}, {Seq: math.MaxUint64, Body: body(130)}} {
		whole := encoded(r)
		for i := range len(whole) {
			checkGet(t, whole[:i], nil)
			for x := range 256 {
				b := []byte(whole)
				b[i] = byte(x)
				if b[i] == whole[i] {
					checkGet(t, string(b), &r)
					continue
				}
				checkGet(t, string(b), nil)
				checkGet(t, string(b)+body(300), nil)
				checkGet(t, string(b)+strings.Repeat("\x00", 300), nil)
			}
		}
	}
}

func TestScan(t *testing.T) {
	all := encoded(one) + encoded(two) + encoded(three)
	checkScan(t, all, 1, one, two, three)
	checkScan(t, all[11:], 2, two, three)
	checkScan(t, all[22:], 3, three)
	checkScan(t, all[33:], 4)
	for _, first := range []uint64{0, 2, 3, 4, math.MaxUint64} {
		checkScan(t, all, first) // a later record with the first number is not searched for
	}
	checkScan(t, all[11:], 1)
	checkScan(t, all[1:], 1)
	checkScan(t, all+"\x00", 1, one, two, three)
	checkScan(t, all+strings.Repeat("\x00", 600), 1, one, two, three)
	checkScan(t, all+all, 1, one, two, three)
	checkScan(t, encoded(one)+encoded(three), 1, one)              // one is left out
	checkScan(t, encoded(one)+encoded(three)+encoded(two), 1, one) // and comes later
	checkScan(t, encoded(one)+encoded(one)+encoded(two), 1, one)   // one is there twice
	checkScan(t, encoded(two)+encoded(one), 2, two)                // backwards
	checkScan(t, encoded(one)+"\x00"+encoded(two), 1, one)         // a byte between them
	checkScan(t, encoded(one)+sealed("\x02\x01ab")+encoded(two), 1, one)
	checkScan(t, "", 0)
	checkScan(t, "", 1)
	checkScan(t, strings.Repeat("\x00", 1000), 0)
	checkScan(t, encoded(api.Record{})+strings.Repeat("\x00", 1000), 0, api.Record{})
}

// TestScanEnds scans what has just one record's bytes and less: the shortest record is found, too.
func TestScanEnds(t *testing.T) {
	var all string
	var want []api.Record
	for seq := range uint64(200) {
		checkScan(t, all, 0, want...)
		r := api.Record{Seq: seq}
		all, want = all+encoded(r), append(want, r)
	}
	checkScan(t, all, 0, want...)
	checkScan(t, all[10:], 1, want[1:]...)
	checkScan(t, all[:len(all)-1], 0, want[:199]...)
}

// TestScanWrap goes on from the greatest number to 0.
func TestScanWrap(t *testing.T) {
	var all []string
	var want []api.Record
	for _, seq := range []uint64{math.MaxUint64 - 1, math.MaxUint64, 0, 1} {
		r := api.Record{Seq: seq, Body: variant(seq)}
		all, want = append(all, encoded(r)), append(want, r)
	}
	checkScan(t, strings.Join(all, ""), math.MaxUint64-1, want...)
	checkScan(t, strings.Join(all[1:], ""), math.MaxUint64, want[1:]...)
	checkScan(t, strings.Join(all[2:], ""), 0, want[2:]...)
	checkScan(t, all[1]+all[3], math.MaxUint64, want[1])
	checkScan(t, all[1]+all[1], math.MaxUint64, want[1])
}

// TestScanAll scans all sequences of up to four records with some numbers, from all of these.
func TestScanAll(t *testing.T) {
	seqs := []uint64{math.MaxUint64, 0, 1, 2}
	for n := range 5 {
		for _, w := range words(n, "\x00\x01\x02\x03") {
			var all string
			var records []api.Record
			for i := range len(w) {
				r := api.Record{Seq: seqs[w[i]], Body: body(i)}
				all, records = all+encoded(r), append(records, r)
			}
			for _, first := range seqs {
				want := 0
				for want < len(records) && records[want].Seq == first+uint64(want) {
					want++
				}
				checkScan(t, all, first, records[:want]...)
			}
		}
	}
}

// P7.3

func TestRoundTrip(t *testing.T) {
	for _, seq := range seqs {
		for _, n := range lengths {
			r := api.Record{Seq: seq, Body: strings.Repeat("\x00\xffab", n)[:n]}
			b, _ := Put(r)
			for _, behind := range []string{"", "\x00", oneBytes, string(b)} {
				got, size, ok := Get([]byte(string(b) + behind))
				if got != r || size != len(b) || size != Size(r) || !ok {
					t.Fatalf("Seq %d, %d bytes: %d %.20q, %d, %t", seq, n, got.Seq, got.Body, size, ok)
				}
			}
		}
	}
}

// TestCut truncates sequences at every byte: just the records that are whole are left.
func TestCut(t *testing.T) {
	for _, first := range []uint64{0, 1, 126, math.MaxUint64 - 3} {
		var all string
		var records []api.Record
		for i, n := range []int{0, 1, 3, 0, 127, 128, 200, 2} {
			r := api.Record{Seq: first + uint64(i), Body: strings.Repeat(oneBytes, n)[:n]} // bodies that look like records, too
			b, _ := Put(r)
			for cut := range len(b) {
				checkScan(t, all+string(b[:cut]), first, records...)
			}
			all, records = all+string(b), append(records, r)
		}
		checkScan(t, all, first, records...)
	}
}

func TestCutLong(t *testing.T) {
	r := api.Record{Seq: 1, Body: body(api.MaxBody)}
	b, _ := Put(r)
	for _, cut := range []int{0, 1, 3, 4, 5, 100, 32768, 32775} {
		checkScan(t, string(b[:cut]), 1)
		checkScan(t, string(b)+encoded(two)[:min(cut, 10)], 1, r)
	}
	checkScan(t, string(b)+encoded(two), 1, r, two)
}

// P1: every call ends without a panic, leaves what it is given alone, and answers new memory.

func TestMemory(t *testing.T) {
	whole := []byte(encoded(one) + encoded(two) + encoded(three))
	before := bytes.Clone(whole)
	b := whole[:22] // with unused capacity, which isn't to be read or written either
	r, n, ok := Get(b)
	l, size := Scan(b, 1)
	if !bytes.Equal(whole, before) {
		t.Fatalf("what was given was changed to %q", whole)
	}
	if _, _, ok := Get(whole[:5]); ok {
		t.Error("Get read unused capacity")
	}
	for i := range whole {
		whole[i] = 0xaa
	}
	if r != one || n != 11 || !ok || !slices.Equal(l, []api.Record{one, two}) || size != 22 {
		t.Errorf("what was given was kept: %v, %d, %t; %v, %d", r, n, ok, l, size)
	}
}

func TestNew(t *testing.T) {
	b, _ := Put(one)
	again, _ := Put(one)
	for i := range b[:cap(b)] {
		b[:cap(b)][i] = 0xaa
	}
	if third, _ := Put(one); string(again) != oneBytes || string(third) != oneBytes {
		t.Errorf("answers share memory: %q, %q", again, third)
	}
	all := []byte(oneBytes + encoded(two))
	l, _ := Scan(all, 1)
	other, _ := Scan(all, 1)
	for i := range l[:cap(l)] {
		l[:cap(l)][i] = three
	}
	if !slices.Equal(other, []api.Record{one, two}) {
		t.Errorf("lists share memory: %v", other)
	}
}

// TestMany holds that a call costs what it decodes: not what follows, and a scan each byte but once.
func TestMany(t *testing.T) {
	start := time.Now()
	var all []byte
	const n = 100000
	for seq := range uint64(n) {
		b, _ := Put(api.Record{Seq: seq, Body: "abc"})
		all = append(all, b...)
	}
	if l, size := Scan(all, 0); len(l) != n || size != len(all) || l[n-1].Seq != n-1 {
		t.Errorf("%d records, %d of %d bytes", len(l), size, len(all))
	}
	for _, head := range []string{oneBytes, "\xff\xff\xff\xff", "\x00\x10\x00\x00", "\x00\x00\x00\x00"} {
		long := append([]byte(head), make([]byte, 1<<24)...)
		for range 10000 {
			if _, _, ok := Get(long); ok != (head == oneBytes) {
				t.Fatalf("Get of %q and many bytes: %t", head, ok)
			}
		}
	}
	if d := time.Since(start); d > 20*time.Second {
		t.Errorf("it took %s", d)
	}
}
