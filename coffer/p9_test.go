package coffer_test

import (
	"fmt"
	"math/rand"
	"slices"
	"strings"
	"testing"

	"coffer/api"
	"coffer/coffer"
)

func plainBeginning(chain, version int, s string) string {
	return plainRecord("B" + u(chain) + u(version) + s)
}

// checkOpen opens a log of which so many bytes are whole.
func checkOpen(t *testing.T, log string, want int) *coffer.Vault {
	t.Helper()
	v, e, got := coffer.Open(log)
	if v == nil || e != api.OK {
		t.Fatalf("P9: Open(%.60x), %d bytes = %t, %d, %d", log, len(log), v != nil, e, got)
	}
	if got != want {
		t.Errorf("P9: Open(%.60x), %d bytes, tells %d, want %d", log, len(log), got, want)
	}
	checkLog(t, v, log[:want])
	return v
}

// checkChain looks at all versions of a chain, and at what stands on both sides of them.
func checkChain(t *testing.T, v *coffer.Vault, chain, first int, texts ...string) {
	t.Helper()
	last := first + len(texts) - 1
	checkVersions(t, v, chain, first, max(last, 0), api.OK)
	for i, s := range texts {
		checkRestore(t, v, chain, first+i, s, api.OK)
	}
	checkRestore(t, v, chain, first-1, "", api.ErrNone)
	checkRestore(t, v, chain, max(last, 0)+1, "", api.ErrNone)
}

func TestP9TheExample(t *testing.T) {
	v := coffer.New()
	checkBackup(t, v, 0, "a", 1, api.OK)
	log := v.Log()
	if !strings.HasPrefix(log, "\x03F\x00a") || len(log) != 8 {
		t.Errorf("P8: Log = %x", log)
	}
	cut := checkOpen(t, log[:len(log)-1], 0)
	for chain := range api.MaxChains {
		checkChain(t, cut, chain, 0)
	}
	checkChain(t, checkOpen(t, log, len(log)), 0, 1, "a")
}

func TestP9TheEmptyLog(t *testing.T) {
	v := checkOpen(t, "", 0)
	if got := allTold(v); got != (told{}) {
		t.Errorf("P9: of an empty log: %v", got)
	}
	checkBackup(t, v, 3, "a", 1, api.OK)
}

func TestP9ALogThatIsTooLong(t *testing.T) {
	whole := filled(t, 0).Log()
	checkOpen(t, whole, api.MaxLog)
	checkOpen(t, strings.Repeat("\x00", api.MaxLog), 0)
	short := filled(t, 1).Log()
	checkOpen(t, short, api.MaxLog-1)
	checkOpen(t, short+"\x00", api.MaxLog-1)
	for _, log := range []string{whole + "\x00", short + plainFull(0, ""), whole + whole, strings.Repeat("x", api.MaxLog+1)} {
		if v, e, n := coffer.Open(log); v != nil || e != api.ErrLong || n != 0 {
			t.Errorf("P9: Open of %d bytes = %t, %d, %d", len(log), v != nil, e, n)
		}
	}
}

func TestP9WhatTheKindsDo(t *testing.T) {
	long := strings.Repeat("x", api.MaxText)
	log := plainFull(0, "") + plainFull(0, long) +
		plainDifference(0, []api.Op{part(1, api.MaxText-1), text("y")}) + plainDifference(0, nil) +
		plainBeginning(1, 1, "") + plainFull(1, "more") +
		plainBeginning(2, 1<<31-3, "a text") + plainDifference(2, []api.Op{part(5, 1), part(0, 1)}) + plainPrune(2, 1<<31-2) + plainFull(2, "last") +
		plainBeginning(3, 128, long) + plainPrune(3, 128)
	v := checkOpen(t, log, len(log))
	checkChain(t, v, 0, 1, "", long, long[1:]+"y", "")
	checkChain(t, v, 1, 1, "", "more")
	checkChain(t, v, 2, 1<<31-2, "ta", "last")
	checkChain(t, v, 3, 128, long)
}

func TestP9ADifferenceNeedNotBeTheOneThatBackupAdds(t *testing.T) {
	log := plainFull(0, "abc") + plainDifference(0, []api.Op{text("a"), part(1, 1), text("c")}) + plainDifference(0, []api.Op{text("abc")})
	checkChain(t, checkOpen(t, log, len(log)), 0, 1, "abc", "abc", "abc")
}

// ahead is a log with something in the chains 0, 1 and 3; chain 3 ends at the greatest number, and of chain 0 two are gone.
func ahead() string {
	return plainFull(0, "one") + plainFull(0, "two") + plainFull(0, "three") + plainFull(0, "four") + plainPrune(0, 3) +
		plainBeginning(1, 5, "abcdefgh") + plainDifference(1, []api.Op{part(0, 4)}) + plainBeginning(3, 1<<31-1, "last")
}

func checkAhead(t *testing.T, v *coffer.Vault) {
	t.Helper()
	checkChain(t, v, 0, 3, "three", "four")
	checkChain(t, v, 1, 5, "abcdefgh", "abcd")
	checkChain(t, v, 2, 0)
	checkChain(t, v, 3, 1<<31-1, "last")
}

// checkNone lays bytes behind a log, and good records behind those, none of which counts.
func checkNone(t *testing.T, name, bytes string) {
	t.Helper()
	before := ahead()
	for _, behind := range []string{"", plainFull(0, "more"), plainFull(2, "more") + plainFull(2, "and more")} {
		v, e, n := coffer.Open(before + bytes + behind)
		if v == nil || e != api.OK || n != len(before) || v.Log() != before {
			t.Fatalf("P9: with %s (%.40x) Open = %t, %d, %d, want %d", name, bytes, v != nil, e, n, len(before))
		}
		checkAhead(t, v)
	}
}

// checkOne lays a good record behind a log.
func checkOne(t *testing.T, record string) *coffer.Vault {
	t.Helper()
	log := ahead() + record
	return checkOpen(t, log, len(log))
}

func TestP9ALengthThatIsNone(t *testing.T) {
	good := plainFull(0, "x")
	checkNone(t, "a length that is too long by a byte", "\x83\x00"+good[1:])
	checkNone(t, "a length that is too long by four bytes", "\x83\x80\x80\x80\x00"+good[1:])
	checkNone(t, "a length of five bytes, and more", "\x83\x80\x80\x80\x80\x00"+good[1:])
	checkNone(t, "a length above the greatest number", "\x83\x80\x80\x80\x08"+good[1:])
	checkNone(t, "a great length", "\xff\xff\xff\xff\x07"+good[1:])
	checkNone(t, "a length that is one less", "\x02"+good[1:])
	checkNone(t, "a length that is one more", "\x04"+good[1:])
	checkNone(t, "a record without a body", plainRecord(""))
	checkNone(t, "a length of 0", "\x00")
	checkNone(t, "a length alone", "\x7f")
	checkNone(t, "a length that goes on", "\x80")
}

func TestP9ASumThatIsNone(t *testing.T) {
	good := plainFull(0, "x")
	body, sum := good[:4], good[4:]
	checkOne(t, body+sum)
	checkNone(t, "no sum but 0", body+"\x00\x00\x00\x00")
	turned := []byte(sum)
	slices.Reverse(turned)
	checkNone(t, "the sum with its highest byte first", body+string(turned))
	checkNone(t, "the sum of another body", body+plainFull(0, "y")[4:])
	checkNone(t, "the sum of length and body", body+plainRecord(body)[5:])
	for i := range sum {
		for bit := range 8 {
			other := []byte(sum)
			other[i] ^= 1 << bit
			checkNone(t, fmt.Sprintf("bit %d of byte %d of the sum", bit, i), body+string(other))
		}
	}
}

func TestP9ALetterThatIsNone(t *testing.T) {
	for letter := range 256 {
		body := string([]byte{byte(letter)}) + "\x02\x01"
		switch letter {
		case 'F', 'B':
			checkOne(t, plainRecord(body))
		default:
			// a D and a P of an empty chain are none, too
			checkNone(t, fmt.Sprintf("the letter %x", letter), plainRecord(body))
		}
	}
	checkNone(t, "a letter alone", plainRecord("F"))
}

func TestP9AChainThatIsNone(t *testing.T) {
	for _, behind := range []string{"F%s", "Fabcd%s", "D%s\x00", "D%s\x01\x02a", "B%s\x01a", "P%s\x03", "P%s\x05"} {
		for _, chain := range []string{"", "\x04", "\x05", "\x7f", "\x80", "\x80\x00", "\x81\x00", "\x82\x80\x80\x80\x00", "\x80\x01", "\x80\x80\x80\x80\x80", "\xff\xff\xff\xff\x07", "\x80\x80\x80\x80\x08"} {
			if body := fmt.Sprintf(behind, chain); !slices.Contains([]string{"B\x01a", "D\x00", "P\x03", "P\x05", "D\x01\x02a"}, body) {
				checkNone(t, fmt.Sprintf("the chain %x", chain), plainRecord(body))
			}
		}
	}
	for chain := range 3 {
		checkOne(t, plainFull(chain, "x"))
	}
}

func TestP9ATextThatIsNone(t *testing.T) {
	long := strings.Repeat("x", api.MaxText)
	checkOne(t, plainFull(0, long))
	checkNone(t, "a long text", plainFull(0, long+"x"))
	checkNone(t, "a longer text", plainFull(0, long+long))
	checkOne(t, plainBeginning(2, 1, long))
	checkOne(t, plainBeginning(2, 1<<31-1, long))
	checkNone(t, "a beginning with a long text", plainBeginning(2, 1, long+"x"))
	checkNone(t, "a beginning at a great number with a long text", plainBeginning(2, 1<<31-1, long+"x"))
}

func TestP9ADifferenceThatIsNone(t *testing.T) {
	long := strings.Repeat("x", api.MaxText)
	for _, code := range []string{
		"", "\x01", "\x80", "\x80\x00", "\x01\x00", "\x01\x01\x00", "\x01\x03", "\x01\x03\x80", "\x01\x04a", "\x02\x02a",
		"\x02\x02a\x02b", "\x02\x03\x00\x03\x01", "\xc9\x01" + strings.Repeat("\x03\x00", 201), "\x01\xa2\x1f" + long + "x",
		"\x02\x03\x00\xa0\x1f" + long, "\x00\x00", "\x01\x02ab", "\x01\x03\x00\x80",
	} {
		checkNone(t, fmt.Sprintf("a difference by %.20x", code), plainRecord("D\x01"+code))
	}
	checkOne(t, plainRecord("D\x01\xc8\x01"+strings.Repeat("\x03\x00", 200)))
	checkOne(t, plainRecord("D\x01\x01\xa0\x1f"+long))
}

func TestP9ADifferenceThatReachesTooFar(t *testing.T) {
	// the last one has four bytes, though the one ahead of it has eight
	v := checkOne(t, plainDifference(1, []api.Op{part(3, 1), part(0, 4)}))
	checkChain(t, v, 1, 5, "abcdefgh", "abcd", "dabcd")
	for _, ops := range [][]api.Op{{part(0, 5)}, {part(4, 1)}, {part(3, 2)}, {text("a"), part(4, 4)}, {part(0, 4), part(1999, 1)}, {part(0, api.MaxText)}} {
		checkNone(t, "a difference that reaches too far", plainDifference(1, ops))
	}
}

func TestP9ADifferenceWithoutAVersion(t *testing.T) {
	for _, ops := range [][]api.Op{nil, {text("a")}, {part(0, 1)}} {
		checkNone(t, "a difference from none", plainDifference(2, ops))
		checkOpen(t, plainDifference(0, ops), 0)
	}
	v := checkOne(t, plainFull(2, "")+plainDifference(2, []api.Op{text("a")}))
	checkChain(t, v, 2, 1, "", "a")
	checkNone(t, "a COPY of nothing", plainDifference(3, []api.Op{part(0, 5)}))
}

func TestP9ABeginningThatIsNone(t *testing.T) {
	checkNone(t, "a beginning without a number", plainRecord("B\x02"))
	checkNone(t, "a beginning with half a number", plainRecord("B\x02\x80"))
	for _, number := range []string{"\x00", "\x80\x00", "\x81\x00", "\x80\x80\x80\x80\x08", "\xff\xff\xff\xff\x0f", "\xff\xff\xff\xff\xff\x01"} {
		checkNone(t, fmt.Sprintf("a beginning at %x", number), plainRecord("B\x02"+number))
		checkNone(t, fmt.Sprintf("a beginning at %x with a text", number), plainRecord("B\x02"+number+"a"))
	}
	for _, number := range []int{1, 2, 127, 128, 1<<31 - 2, 1<<31 - 1} {
		checkChain(t, checkOne(t, plainBeginning(2, number, "a")), 2, number, "a")
	}
}

func TestP9ABeginningOfAChainThatHasHadAVersion(t *testing.T) {
	for _, chain := range []int{0, 1, 3} {
		for _, number := range []int{1, 2, 3, 5, 6, 7, 1<<31 - 1} {
			checkNone(t, "a second beginning", plainBeginning(chain, number, "a"))
		}
	}
	log := plainFull(2, "a")
	checkOpen(t, log+plainBeginning(2, 1, "a"), len(log))
	checkOpen(t, log+plainBeginning(2, 2, "a"), len(log))
	log += plainBeginning(1, 2, "a")
	checkOpen(t, log+plainBeginning(1, 2, "a"), len(log))
}

func TestP9APruneThatIsNone(t *testing.T) {
	for _, number := range []string{"", "\x80", "\x83\x00", "\x83\x80\x80\x80\x08", "\x03\x00", "\x03a", "\xff\xff\xff\xff\x0f"} {
		checkNone(t, fmt.Sprintf("a prune at %x", number), plainRecord("P\x00"+number))
	}
	for chain, versions := range [][]int{{0, 1, 2, 5, 6, 1<<31 - 1}, {0, 1, 4, 7, 1<<31 - 1}, {0, 1, 1<<31 - 1}, {0, 1, 1<<31 - 2}} {
		for _, version := range versions {
			checkNone(t, "a prune of no such version", plainPrune(chain, version))
		}
	}
	checkChain(t, checkOne(t, plainPrune(0, 3)), 0, 3, "three", "four")
	checkChain(t, checkOne(t, plainPrune(0, 4)), 0, 4, "four")
	checkChain(t, checkOne(t, plainPrune(1, 5)), 1, 5, "abcdefgh", "abcd")
	checkChain(t, checkOne(t, plainPrune(3, 1<<31-1)), 3, 1<<31-1, "last")
}

func TestP9NoVersionBehindTheGreatestNumber(t *testing.T) {
	checkNone(t, "a text behind the greatest number", plainFull(3, "x"))
	checkNone(t, "a difference behind the greatest number", plainDifference(3, nil))
	log := plainBeginning(2, 1<<31-2, "a") + plainFull(2, "b")
	v := checkOpen(t, log+plainFull(2, "c"), len(log))
	checkChain(t, v, 2, 1<<31-2, "a", "b")
	log += plainPrune(2, 1<<31-1)
	v = checkOpen(t, log+plainDifference(2, []api.Op{part(0, 1)}), len(log))
	checkChain(t, v, 2, 1<<31-1, "b")
}

func TestP9ErrorsOfAnOpenedVault(t *testing.T) {
	v := checkOne(t, "")
	was := allTold(v)
	long := strings.Repeat("x", api.MaxText+1)
	for _, chain := range noChains() {
		checkBackup(t, v, chain, long, 0, api.ErrChain)
		checkRestore(t, v, chain, 1<<31-1, "", api.ErrChain)
		checkVersions(t, v, chain, 0, 0, api.ErrChain)
		checkPrune(t, v, chain, 1<<31-1, api.ErrChain)
	}
	checkBackup(t, v, 3, long, 0, api.ErrLong)
	checkBackup(t, v, 3, "", 0, api.ErrFull)
	checkBackup(t, v, 3, "last", 0, api.ErrFull)
	for _, version := range []int{least, -1, 0, 1, 1<<31 - 2, 1 << 31, greatest} {
		checkRestore(t, v, 3, version, "", api.ErrNone)
		checkPrune(t, v, 3, version, api.ErrNone)
	}
	if allTold(v) != was {
		t.Error("P1: an error changed something of an opened Vault")
	}
	full := checkOpen(t, filled(t, 0).Log(), api.MaxLog)
	was = allTold(full)
	checkBackup(t, full, 0, "", 0, api.ErrFull)
	checkPrune(t, full, 1, 2, api.ErrFull)
	if allTold(full) != was {
		t.Error("P1: an error changed something of a full opened Vault")
	}
}

// someCalls makes calls of a Vault, at random, and tells all that they answered.
func someCalls(r *rand.Rand, v *coffer.Vault, count int) string {
	var answers strings.Builder
	for range count {
		chain := r.Intn(api.MaxChains+2) - 1
		first, last, e := v.Versions(chain)
		version := first - 1 + r.Intn(last-first+3)
		fmt.Fprint(&answers, first, last, e)
		s, e := v.Restore(chain, last)
		fmt.Fprint(&answers, s, e)
		switch r.Intn(8) {
		case 0:
			fmt.Fprint(&answers, v.Prune(chain, version))
		case 1:
			s, e := v.Restore(chain, version)
			fmt.Fprint(&answers, s, e)
		case 2:
			v.Squash()
		case 3:
			n, e := v.Backup(chain, someText(r, r.Intn(api.MaxText+10), 1+r.Intn(200)))
			fmt.Fprint(&answers, n, e)
		default:
			n, e := v.Backup(chain, someEdit(r, s, 1+r.Intn(20)))
			fmt.Fprint(&answers, n, e)
		}
		fmt.Fprintf(&answers, " %x\n", v.Log())
	}
	return answers.String()
}

func TestP9WhatIsOpenedGoesOnAsTheVaultThatItWas(t *testing.T) {
	for seed := range int64(30) {
		r := rand.New(rand.NewSource(seed))
		v := coffer.New()
		if r.Intn(2) == 0 {
			v = checkOne(t, "")
		}
		for range 5 {
			someCalls(r, v, r.Intn(25))
			w := checkOpen(t, v.Log(), len(v.Log()))
			if allTold(w) != allTold(v) {
				t.Fatalf("P9: of seed %d another Vault is opened", seed)
			}
			next := r.Int63()
			calls := r.Intn(20)
			if someCalls(rand.New(rand.NewSource(next)), v, calls) != someCalls(rand.New(rand.NewSource(next)), w, calls) {
				t.Fatalf("P9: of seed %d what was opened goes on otherwise", seed)
			}
			if allTold(w) != allTold(v) {
				t.Fatalf("P9: of seed %d what was opened became another Vault", seed)
			}
		}
	}
}

// plainChain has its versions by their numbers.
type plainChain struct {
	first, last int
	texts       map[int]string
}

func (c *plainChain) put(version int, s string) bool {
	if c.texts == nil {
		c.texts, c.first = map[int]string{}, version
	}
	c.texts[version], c.last = s, version
	return version < 1<<31
}

// plainDo does what a body says, and tells false where it is none; what it has done then is of no use.
func plainDo(chains *[api.MaxChains]plainChain, body string) bool {
	if body == "" {
		return false
	}
	chain, rest, _, ok := plainNumber(body[1:])
	if !ok || chain >= api.MaxChains {
		return false
	}
	c := &chains[chain]
	number, behind, _, isNumber := plainNumber(rest)
	switch body[0] {
	case 'F':
		return len(rest) <= api.MaxText && c.last < 1<<31-1 && c.put(c.last+1, rest)
	case 'D':
		ops, _, ok := plainDecode(rest)
		s, e, _ := coffer.Apply(c.texts[c.last], ops)
		return ok && e == api.OK && c.last > 0 && c.last < 1<<31-1 && c.put(c.last+1, s)
	case 'B':
		return isNumber && number > 0 && c.last == 0 && len(behind) <= api.MaxText && c.put(number, behind)
	case 'P':
		if !isNumber || behind != "" || number == 0 || number < c.first || number > c.last {
			return false
		}
		c.first = number
		return true
	}
	return false
}

// plainOpen follows the document's words; a record is one if it is what would be made of its body.
func plainOpen(log string) (chains [api.MaxChains]plainChain, whole int) {
	for {
		length, behind, _, ok := plainNumber(log[whole:])
		if !ok || length > len(behind) {
			return chains, whole
		}
		record := plainRecord(behind[:length])
		if !strings.HasPrefix(log[whole:], record) || !plainDo(&chains, behind[:length]) {
			return chains, whole
		}
		whole += len(record)
	}
}

// someBody is one of a record that is mostly good behind what the chains have.
func someBody(r *rand.Rand, chains *[api.MaxChains]plainChain) string {
	chain := r.Intn(api.MaxChains)
	c := &chains[chain]
	last := c.texts[c.last]
	numbers := []int{0, 1, 2, c.first, c.first, c.last, c.last, c.first + r.Intn(c.last-c.first+1), min(c.last+1, 1<<31-1), 1<<31 - 1 - r.Intn(5)}
	number := numbers[r.Intn(len(numbers))]
	body := ""
	switch r.Intn(10) {
	case 0:
		body = "P" + u(chain) + u(number)
	case 1, 2:
		body = "B" + u(chain) + u(number) + someText(r, r.Intn(40), 3)
	case 3, 4:
		body = "F" + u(chain) + someText(r, r.Intn(40), 3)
	default:
		ops := someDelta(r, max(len(last), 1))
		ops = ops[:min(len(ops), 5)]
		if r.Intn(2) == 0 {
			ops = plainDiff(last, someEdit(r, last, 3))
		}
		code, _, _ := coffer.Encode(ops)
		body = "D" + u(chain) + code
	}
	if r.Intn(20) == 0 {
		bytes := []byte(body)
		bytes[r.Intn(len(bytes))] = []byte{0, 1, 2, 3, 4, 0x7f, 0x80, 0x81, 0xff, 'F', 'D', 'B', 'P'}[r.Intn(13)]
		body = string(bytes)
	}
	if r.Intn(60) == 0 {
		body = body[:r.Intn(len(body))]
	}
	if r.Intn(60) == 0 {
		body += "\x00"
	}
	return body
}

// someLog has mostly good records: of those that are none, few are left in.
func someLog(r *rand.Rand) string {
	log := ""
	for range 1 + r.Intn(30) {
		chains, _ := plainOpen(log)
		with := log + plainRecord(someBody(r, &chains))
		if _, whole := plainOpen(with); whole == len(with) || r.Intn(20) == 0 {
			log = with
		}
	}
	return log
}

// checkAsPlain opens a log, and looks whether the document's words make the same of it.
func checkAsPlain(t *testing.T, log string) (whole int) {
	t.Helper()
	// what the body that is none has done must not be seen
	_, whole = plainOpen(log)
	chains, _ := plainOpen(log[:whole])
	v := checkOpen(t, log, whole)
	for chain := range chains {
		c := &chains[chain]
		checkVersions(t, v, chain, c.first, c.last, api.OK)
		for version := c.first; version <= c.last && version > 0; version++ {
			checkRestore(t, v, chain, version, c.texts[version], api.OK)
		}
		checkRestore(t, v, chain, c.first-1, "", api.ErrNone)
		checkRestore(t, v, chain, c.last+1, "", api.ErrNone)
	}
	return whole
}

func TestP9OpenIsWhatTheWordsSay(t *testing.T) {
	r := rand.New(rand.NewSource(9))
	whole, stopped := 0, 0
	for range 1500 {
		log := someLog(r)
		if log != "" && r.Intn(4) == 0 {
			bytes := []byte(log)
			bytes[r.Intn(len(bytes))] ^= byte(1 + r.Intn(255))
			log = string(bytes)
		}
		if checkAsPlain(t, log) == len(log) {
			whole++
		} else {
			stopped++
		}
	}
	if whole < 200 || stopped < 200 {
		t.Errorf("P9: of what was drawn %d logs are whole, and %d are not", whole, stopped)
	}
}
