package coffer_test

import (
	"hash/crc32"
	"math/rand"
	"slices"
	"strings"
	"testing"

	"coffer/api"
	"coffer/coffer"
)

func u(number int) string {
	if number < 128 {
		return string([]byte{byte(number)})
	}
	return string([]byte{byte(number%128 + 128)}) + u(number/128)
}

// plainRecord lays a length and a sum around a body.
func plainRecord(body string) string {
	sum := crc32.ChecksumIEEE([]byte(body))
	return u(len(body)) + body + string([]byte{byte(sum), byte(sum >> 8), byte(sum >> 16), byte(sum >> 24)})
}

func plainFull(chain int, s string) string { return plainRecord("F" + u(chain) + s) }

func plainDifference(chain int, ops []api.Op) string {
	body := "D" + u(chain) + u(len(ops))
	for _, op := range ops {
		if op.Len > 0 {
			body += u(2*op.Len+1) + u(op.From)
		} else {
			body += u(2*len(op.Text)) + op.Text
		}
	}
	return plainRecord(body)
}

func plainPrune(chain, version int) string { return plainRecord("P" + u(chain) + u(version)) }

func checkLog(t *testing.T, v *coffer.Vault, want string) {
	t.Helper()
	if got := v.Log(); got != want {
		t.Errorf("P8: Log, %d bytes = %.100x, want %d bytes, %.100x", len(got), got, len(want), want)
	}
}

// checkAdds backs a text up behind another one, in a new Vault, and looks at the record that this adds.
func checkAdds(t *testing.T, ahead, s string, want string) {
	t.Helper()
	v := coffer.New()
	v.Backup(2, ahead)
	v.Backup(2, s)
	checkLog(t, v, plainFull(2, ahead)+want)
	checkRestore(t, v, 2, 2, s, api.OK)
}

func TestP8TheLogOfNewIsEmpty(t *testing.T) {
	checkLog(t, coffer.New(), "")
}

func TestP8TheExample(t *testing.T) {
	v := coffer.New()
	checkBackup(t, v, 0, "a", 1, api.OK)
	log := v.Log()
	if len(log) != 8 || log[:4] != "\x03F\x00a" {
		t.Errorf("P8: Log = %x", log)
	}
	checkLog(t, v, "\x03F\x00a"+"\xae\x79\xe3\xb1")
}

func TestP8TheFirstVersionIsFull(t *testing.T) {
	for chain := range api.MaxChains {
		for _, s := range []string{"", "a", "\x00\xff", hundred, strings.Repeat("x", 125), strings.Repeat("x", 126), strings.Repeat("x", api.MaxText)} {
			v := coffer.New()
			// what stands in another chain is not ahead
			other := (chain + 1) % api.MaxChains
			v.Backup(other, s)
			v.Backup(chain, s)
			checkLog(t, v, plainFull(other, s)+plainFull(chain, s))
		}
	}
}

func TestP8ADifferenceWhereItIsShorter(t *testing.T) {
	checkAdds(t, "12345678", "12345678", plainDifference(2, []api.Op{part(0, 8)}))
	checkAdds(t, "12345678", "12345678x", plainDifference(2, []api.Op{part(0, 8), text("x")}))
	checkAdds(t, "hello world, hello", "hello world: hello", plainDifference(2, []api.Op{part(0, 11), text(": hello")}))
	full := strings.Repeat("x", api.MaxText)
	checkAdds(t, full, full, plainDifference(2, []api.Op{part(0, api.MaxText)}))
	pairs := strings.Repeat("01234567-", api.MaxOps/2)
	checkAdds(t, "01234567", pairs, plainDifference(2, slices.Repeat([]api.Op{part(0, 8), text("-")}, api.MaxOps/2)))
}

func TestP8TheTextWhereItsDifferenceIsNotShorter(t *testing.T) {
	for _, c := range [][2]string{{"", ""}, {"a", "a"}, {"a", ""}, {hundred, ""}, {"", "12345678"}, {"1234567", "1234567"}, {hundred, "something else"}} {
		checkAdds(t, c[0], c[1], plainFull(2, c[1]))
	}
	many := strings.Repeat("01234567-", api.MaxOps/2) + "01234567"
	checkAdds(t, "01234567", many, plainFull(2, many))
}

func TestP8BothOfOneLength(t *testing.T) {
	// From needs two bytes, and so do the lengths of the TEXTs on both sides from 64 bytes on: what the COPY spares
	ahead := strings.Repeat("-", 128) + "12345678" + "9"
	sides := func(n, m int, copied string) (string, []api.Op) {
		front, back := strings.Repeat("a", n), strings.Repeat("b", m)
		return front + copied + back, []api.Op{text(front), part(128, len(copied)), text(back)}
	}
	s, ops := sides(64, 64, "12345678")
	if len(plainDifference(2, ops)) != len(plainFull(2, s)) {
		t.Fatal("the two records are not of one length")
	}
	checkAdds(t, ahead, s, plainFull(2, s))
	for _, c := range []struct {
		n, m   int
		copied string
	}{{63, 64, "12345678"}, {64, 63, "12345678"}, {64, 64, "123456789"}} {
		s, ops := sides(c.n, c.m, c.copied)
		if len(plainDifference(2, ops)) != len(plainFull(2, s))-1 {
			t.Fatal("the difference is not one byte shorter")
		}
		checkAdds(t, ahead, s, plainDifference(2, ops))
	}
}

func TestP8TheDifferenceIsFromTheLastVersion(t *testing.T) {
	v := coffer.New()
	v.Backup(1, "0123456789")
	v.Backup(1, "abcdefghijk")
	v.Backup(0, "0123456789")
	v.Backup(1, "0123456789")
	log := plainFull(1, "0123456789") + plainFull(1, "abcdefghijk") + plainFull(0, "0123456789") + plainFull(1, "0123456789")
	checkLog(t, v, log)
	v.Backup(1, "!123456789")
	checkLog(t, v, log+plainDifference(1, []api.Op{text("!"), part(1, 9)}))
}

func TestP8PruneAddsARecord(t *testing.T) {
	v := coffer.New()
	log := ""
	for i := range 300 {
		v.Backup(3, "")
		log += plainFull(3, "")
		checkBackup(t, v, 0, "12345678", i+1, api.OK)
		if i == 0 {
			log += plainFull(0, "12345678")
		} else {
			log += plainDifference(0, []api.Op{part(0, 8)})
		}
	}
	checkLog(t, v, log)
	for _, version := range []int{1, 1, 2, 127, 128, 129, 300, 300} {
		checkPrune(t, v, 0, version, api.OK)
		log += plainPrune(0, version)
		checkLog(t, v, log)
	}
	checkPrune(t, v, 3, 300, api.OK)
	log += plainPrune(3, 300)
	// the version that stays is still the one ahead
	checkBackup(t, v, 0, "12345678", 301, api.OK)
	log += plainDifference(0, []api.Op{part(0, 8)})
	checkLog(t, v, log)
}

func TestP8NothingElseChangesTheLog(t *testing.T) {
	v := coffer.New()
	v.Backup(0, "some text")
	v.Backup(0, "some text, and more")
	v.Prune(0, 2)
	want := plainFull(0, "some text") + plainDifference(0, []api.Op{part(0, 9), text(", and more")}) + plainPrune(0, 2)
	for _, number := range oddNumbers() {
		v.Versions(number)
		v.Backup(number, strings.Repeat("x", api.MaxText+1))
		for _, version := range oddNumbers() {
			v.Restore(number, version)
			if version != 2 {
				v.Prune(number, version)
			}
		}
		v.Log()
	}
	checkLog(t, v, want)
}

// plainVault follows the document's words with every version there has been, none of which is forgotten.
type plainVault struct {
	log   string
	texts [api.MaxChains][]string
	first [api.MaxChains]int
}

func (p *plainVault) backup(chain int, s string) (int, api.Errno) {
	if chain < 0 || chain >= api.MaxChains {
		return 0, api.ErrChain
	}
	if len(s) > api.MaxText {
		return 0, api.ErrLong
	}
	added := plainFull(chain, s)
	if len(p.log+added) > api.MaxLog {
		return 0, api.ErrFull
	}
	if n := len(p.texts[chain]); n == 0 {
		p.first[chain] = 1
	} else if by := plainDifference(chain, plainDiff(p.texts[chain][n-1], s)); len(by) < len(added) {
		added = by
	}
	p.log += added
	p.texts[chain] = append(p.texts[chain], s)
	return len(p.texts[chain]), api.OK
}

func (p *plainVault) restore(chain, version int) (string, api.Errno) {
	if chain < 0 || chain >= api.MaxChains {
		return "", api.ErrChain
	}
	if version < 1 || version < p.first[chain] || version > len(p.texts[chain]) {
		return "", api.ErrNone
	}
	return p.texts[chain][version-1], api.OK
}

func (p *plainVault) prune(chain, version int) api.Errno {
	if _, e := p.restore(chain, version); e != api.OK {
		return e
	}
	added := plainPrune(chain, version)
	if len(p.log+added) > api.MaxLog {
		return api.ErrFull
	}
	p.log += added
	p.first[chain] = version
	return api.OK
}

// someStep makes one call of both, at random, and looks whether they tell the same.
func someStep(t *testing.T, r *rand.Rand, v *coffer.Vault, p *plainVault) {
	t.Helper()
	chain := r.Intn(api.MaxChains+2) - 1
	count, last := 0, ""
	if chain >= 0 && chain < api.MaxChains {
		count = len(p.texts[chain])
		last, _ = p.restore(chain, count)
	}
	version := r.Intn(count+3) - 1
	switch r.Intn(8) {
	case 0:
		checkPrune(t, v, chain, version, p.prune(chain, version))
	case 1:
		want, e := p.restore(chain, version)
		checkRestore(t, v, chain, version, want, e)
	case 2:
		s := someText(r, r.Intn(api.MaxText+10), 1+r.Intn(200))
		want, e := p.backup(chain, s)
		checkBackup(t, v, chain, s, want, e)
	default:
		s := someEdit(r, last, 1+r.Intn(20))
		want, e := p.backup(chain, s)
		checkBackup(t, v, chain, s, want, e)
	}
}

func TestP7AndP8AreWhatTheWordsSay(t *testing.T) {
	r := rand.New(rand.NewSource(8))
	for range 40 {
		v, p := coffer.New(), &plainVault{}
		for range 300 {
			someStep(t, r, v, p)
			checkLog(t, v, p.log)
		}
		for chain := range api.MaxChains {
			checkVersions(t, v, chain, p.first[chain], len(p.texts[chain]), api.OK)
			for version := range len(p.texts[chain]) + 2 {
				want, e := p.restore(chain, version)
				checkRestore(t, v, chain, version, want, e)
			}
		}
	}
}
