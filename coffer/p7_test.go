package coffer_test

import (
	"slices"
	"strings"
	"testing"

	"coffer/api"
	"coffer/coffer"
)

func checkBackup(t *testing.T, v *coffer.Vault, chain int, s string, want int, wantErr api.Errno) {
	t.Helper()
	if got, e := v.Backup(chain, s); got != want || e != wantErr {
		t.Errorf("P7: Backup(%d, %.20q), %d bytes = %d, %d, want %d, %d", chain, s, len(s), got, e, want, wantErr)
	}
}

func checkRestore(t *testing.T, v *coffer.Vault, chain, version int, want string, wantErr api.Errno) {
	t.Helper()
	if got, e := v.Restore(chain, version); got != want || e != wantErr {
		t.Errorf("P7: Restore(%d, %d) = %.20q, %d, want %.20q, %d", chain, version, got, e, want, wantErr)
	}
}

func checkVersions(t *testing.T, v *coffer.Vault, chain, wantFirst, wantLast int, wantErr api.Errno) {
	t.Helper()
	if first, last, e := v.Versions(chain); first != wantFirst || last != wantLast || e != wantErr {
		t.Errorf("P7: Versions(%d) = %d, %d, %d, want %d, %d, %d", chain, first, last, e, wantFirst, wantLast, wantErr)
	}
}

func checkPrune(t *testing.T, v *coffer.Vault, chain, version int, want api.Errno) {
	t.Helper()
	if e := v.Prune(chain, version); e != want {
		t.Errorf("P7: Prune(%d, %d) = %d, want %d", chain, version, e, want)
	}
}

// told is all that a Vault tells: its log, and of each chain its numbers and its texts.
type told struct {
	log     string
	numbers [api.MaxChains][2]int
	texts   [api.MaxChains]string
}

func allTold(v *coffer.Vault) told {
	all := told{log: v.Log()}
	for chain := range api.MaxChains {
		first, last, _ := v.Versions(chain)
		all.numbers[chain] = [2]int{first, last}
		var texts strings.Builder
		for version := max(first, 1); version <= last; version++ {
			s, _ := v.Restore(chain, version)
			texts.WriteString(s + "|")
		}
		all.texts[chain] = texts.String()
	}
	return all
}

// noChains: numbers that no chain has.
func noChains() []int {
	return slices.DeleteFunc(append(oddNumbers(), -2, 5), func(n int) bool { return n >= 0 && n < api.MaxChains })
}

// hundred is the last version of chain 1 in what filled makes: a difference of it is far shorter than it is.
var hundred = strings.Repeat("z", 100)

// filled is a Vault whose log lacks so many bytes of MaxLog.
func filled(t *testing.T, lacking int) *coffer.Vault {
	t.Helper()
	v := coffer.New()
	checkBackup(t, v, 1, "first", 1, api.OK)
	checkBackup(t, v, 1, hundred, 2, api.OK)
	fill(t, v, lacking)
	return v
}

// fill adds versions to chain 3 until the log lacks so many bytes of MaxLog.
func fill(t *testing.T, v *coffer.Vault, lacking int) {
	t.Helper()
	rest := func() int { return api.MaxLog - lacking - len(v.Log()) }
	// each of a letter of its own, so that none is kept by its difference; eight bytes stand around each
	letter := 'a'
	for ; rest() > api.MaxText+8; letter++ {
		v.Backup(3, strings.Repeat(string(letter), 1000))
	}
	v.Backup(3, strings.Repeat(string(letter), rest()-8))
	if rest() != 0 {
		t.Fatalf("P7: the log has %d bytes, want %d", len(v.Log()), api.MaxLog-lacking)
	}
}

func TestP7NewHasNoVersion(t *testing.T) {
	v := coffer.New()
	for chain := range api.MaxChains {
		checkVersions(t, v, chain, 0, 0, api.OK)
		for _, version := range oddNumbers() {
			checkRestore(t, v, chain, version, "", api.ErrNone)
			checkPrune(t, v, chain, version, api.ErrNone)
		}
	}
}

func TestP7BackupNumbersEachChain(t *testing.T) {
	v := coffer.New()
	checkBackup(t, v, 0, "a", 1, api.OK)
	checkBackup(t, v, 0, "b", 2, api.OK)
	checkBackup(t, v, 3, "c", 1, api.OK)
	checkBackup(t, v, 0, "b", 3, api.OK)
	checkBackup(t, v, 3, "", 2, api.OK)
	checkVersions(t, v, 0, 1, 3, api.OK)
	checkVersions(t, v, 1, 0, 0, api.OK)
	checkVersions(t, v, 2, 0, 0, api.OK)
	checkVersions(t, v, 3, 1, 2, api.OK)
}

func TestP7RestoreTellsEachText(t *testing.T) {
	v := coffer.New()
	texts := []string{
		"", "hello world", "hello there", "", "hello there", "hello there", "\x00\xff", strings.Repeat("x", api.MaxText),
		strings.Repeat("x", api.MaxText-1), "y" + strings.Repeat("x", api.MaxText-1), strings.Repeat("01234567-", 201),
	}
	for i, s := range texts {
		for chain := range api.MaxChains {
			checkBackup(t, v, chain, s, i+1, api.OK)
		}
	}
	for chain := range api.MaxChains {
		for i, s := range texts {
			checkRestore(t, v, chain, i+1, s, api.OK)
		}
		for _, version := range []int{least, -1, 0, len(texts) + 1, len(texts) + 2, greatest} {
			checkRestore(t, v, chain, version, "", api.ErrNone)
		}
	}
}

func TestP7PruneTakesTheVersionsAhead(t *testing.T) {
	v := coffer.New()
	texts := []string{"one of them", "one of them, and more", "another", "another one", "the last"}
	for i, s := range texts {
		checkBackup(t, v, 2, s, i+1, api.OK)
		checkBackup(t, v, 1, s, i+1, api.OK)
	}
	for _, first := range []int{1, 3, 3, 4, 5, 5} {
		checkPrune(t, v, 2, first, api.OK)
		checkVersions(t, v, 2, first, 5, api.OK)
		for version := range 7 {
			if version < first || version > 5 {
				checkRestore(t, v, 2, version, "", api.ErrNone)
				checkPrune(t, v, 2, version, api.ErrNone)
			} else {
				checkRestore(t, v, 2, version, texts[version-1], api.OK)
			}
		}
	}
	checkBackup(t, v, 2, "one more", 6, api.OK)
	checkVersions(t, v, 2, 5, 6, api.OK)
	checkRestore(t, v, 2, 5, "the last", api.OK)
	checkRestore(t, v, 2, 6, "one more", api.OK)
	checkVersions(t, v, 1, 1, 5, api.OK)
	checkRestore(t, v, 1, 1, texts[0], api.OK)
}

func TestP7PruneOfNoSuchVersion(t *testing.T) {
	v := coffer.New()
	for i := range 4 {
		checkBackup(t, v, 0, "text", i+1, api.OK)
	}
	checkPrune(t, v, 0, 2, api.OK)
	for _, version := range []int{least, -1, 0, 1, 5, 6, 1<<31 - 1, 1 << 31, greatest} {
		checkPrune(t, v, 0, version, api.ErrNone)
	}
	checkVersions(t, v, 0, 2, 4, api.OK)
}

func TestP7TextsAroundTheBound(t *testing.T) {
	v := coffer.New()
	full := strings.Repeat("x", api.MaxText)
	checkBackup(t, v, 0, full+"x", 0, api.ErrLong)
	checkVersions(t, v, 0, 0, 0, api.OK)
	checkBackup(t, v, 0, full, 1, api.OK)
	checkBackup(t, v, 0, full+"x", 0, api.ErrLong)
	checkBackup(t, v, 0, full, 2, api.OK)
}

func TestP7ErrorsInTheirOrder(t *testing.T) {
	v := filled(t, 0)
	long := strings.Repeat("x", api.MaxText+1)
	for _, chain := range noChains() {
		checkBackup(t, v, chain, long, 0, api.ErrChain)
		checkBackup(t, v, chain, "", 0, api.ErrChain)
		checkVersions(t, v, chain, 0, 0, api.ErrChain)
		for _, version := range oddNumbers() {
			checkRestore(t, v, chain, version, "", api.ErrChain)
			checkPrune(t, v, chain, version, api.ErrChain)
		}
	}
	for chain := range api.MaxChains {
		checkBackup(t, v, chain, long, 0, api.ErrLong)
		checkBackup(t, v, chain, "", 0, api.ErrFull)
	}
	checkPrune(t, v, 0, 1, api.ErrNone)
	checkPrune(t, v, 1, 0, api.ErrNone)
	checkPrune(t, v, 1, 3, api.ErrNone)
	checkPrune(t, v, 1, 1, api.ErrFull)
	checkPrune(t, v, 1, 2, api.ErrFull)
}

func TestP7AnErrorChangesNothing(t *testing.T) {
	long := strings.Repeat("x", api.MaxText+1)
	for _, lacking := range []int{0, 6, 7} {
		v := filled(t, lacking)
		was := allTold(v)
		wrong := map[string]func() api.Errno{
			"Backup of a long text":      func() api.Errno { _, e := v.Backup(1, long); return e },
			"Backup without room":        func() api.Errno { _, e := v.Backup(1, hundred); return e },
			"Backup of a first version":  func() api.Errno { _, e := v.Backup(0, "x"); return e },
			"Prune without room":         func() api.Errno { return v.Prune(1, 2) },
			"Prune of a version ahead":   func() api.Errno { return v.Prune(1, 0) },
			"Prune of a version behind":  func() api.Errno { return v.Prune(1, 3) },
			"Prune of an empty chain":    func() api.Errno { return v.Prune(0, 0) },
			"Restore of a version ahead": func() api.Errno { _, e := v.Restore(1, 0); return e },
			"Restore behind the last":    func() api.Errno { _, e := v.Restore(1, 3); return e },
		}
		for _, chain := range noChains() {
			wrong["Backup without a chain"] = func() api.Errno { _, e := v.Backup(chain, ""); return e }
			wrong["Prune without a chain"] = func() api.Errno { return v.Prune(chain, 1) }
			wrong["Restore without a chain"] = func() api.Errno { _, e := v.Restore(chain, 1); return e }
			wrong["Versions without a chain"] = func() api.Errno { _, _, e := v.Versions(chain); return e }
			for name, call := range wrong {
				if e := call(); e == api.OK {
					t.Errorf("P7: %s = OK, with %d bytes lacking", name, lacking)
				}
				if allTold(v) != was {
					t.Fatalf("P1: %s changed something, with %d bytes lacking", name, lacking)
				}
			}
		}
	}
}

func TestP7BackupNeedsRoomForTheFullRecord(t *testing.T) {
	// of 100 bytes: U, letter, chain, sum
	const size = 1 + 2 + 100 + 4
	for _, lacking := range []int{11, 12, size - 2, size - 1} {
		v := filled(t, lacking)
		checkBackup(t, v, 1, hundred, 0, api.ErrFull) // though its difference has room
		checkBackup(t, v, 0, hundred, 0, api.ErrFull)
		checkBackup(t, v, 0, hundred[:lacking-7], 1, api.OK)
		if got := len(v.Log()); got != api.MaxLog {
			t.Errorf("P7: the log has %d bytes, want %d", got, api.MaxLog)
		}
	}
	v := filled(t, size)
	checkBackup(t, v, 1, hundred, 3, api.OK)
	if got := len(v.Log()); got != api.MaxLog-size+11 {
		t.Errorf("P8: the log has %d bytes, want %d", got, api.MaxLog-size+11)
	}
	v = filled(t, size)
	checkBackup(t, v, 0, hundred, 1, api.OK)
	checkBackup(t, v, 0, "", 0, api.ErrFull)
	checkRestore(t, v, 0, 1, hundred, api.OK)
	checkRestore(t, v, 1, 2, hundred, api.OK)
}

func TestP7BackupOfNothingNeedsRoomToo(t *testing.T) {
	v := filled(t, 6)
	checkBackup(t, v, 0, "", 0, api.ErrFull)
	v = filled(t, 7)
	checkBackup(t, v, 0, "", 1, api.OK)
	checkBackup(t, v, 0, "", 0, api.ErrFull)
}

func TestP7PruneNeedsRoom(t *testing.T) {
	v := filled(t, 7)
	checkPrune(t, v, 1, 2, api.ErrFull)
	checkVersions(t, v, 1, 1, 2, api.OK)
	checkRestore(t, v, 1, 1, "first", api.OK)
	v = filled(t, 8)
	checkPrune(t, v, 1, 2, api.OK)
	checkVersions(t, v, 1, 2, 2, api.OK)
	checkPrune(t, v, 1, 2, api.ErrFull)
}

func TestP7PruneOfAGreatNumberNeedsMoreRoom(t *testing.T) {
	v := coffer.New()
	for i := range 128 {
		checkBackup(t, v, 0, "", i+1, api.OK)
	}
	fill(t, v, 8)
	checkPrune(t, v, 0, 128, api.ErrFull)
	checkPrune(t, v, 0, 127, api.OK)
	if got := len(v.Log()); got != api.MaxLog {
		t.Errorf("P7: the log has %d bytes, want %d", got, api.MaxLog)
	}
}
