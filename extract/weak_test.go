package extract_test

import (
	"os"
	"os/exec"
	"path/filepath"
	"strings"
	"testing"

	"custumal/sha2"
)

// Of sums as they are nobody has two unlike texts of one sum, so that nothing could be forged. A copy of the program in which the first 14 bits alone of a sum are kept, and all others are noughts, is one in which all is forged soon: there the tests of forge_test.go are run.

// weakSums is layer 1 in the copy.
const weakSums = `package sha2

import "crypto/sha256"

type Hash struct{ all []byte }

func Sum(parts ...[]byte) (sum [32]byte) {
	h := New()
	for _, p := range parts {
		h.Write(p)
	}
	return h.Sum()
}

func New() *Hash { return &Hash{} }

func (h *Hash) Write(b []byte) { h.all = append(h.all, b...) }

func (h *Hash) Sum() (sum [32]byte) {
	whole := sha256.Sum256(h.all)
	copy(sum[:2], whole[:])
	sum[1] &= 0xfc
	return sum
}

func (h *Hash) Len() int { return len(h.all) }

func (h *Hash) Fork() *Hash { return &Hash{all: append([]byte(nil), h.all...)} }
`

// inCopy is set where the tests run in the copy.
const inCopy = "CUSTUMAL_WEAK_SUMS"

// needWeakSums: a test is of use in the copy alone.
func needWeakSums(t *testing.T) {
	t.Helper()
	if sum := sha2.Sum([]byte("abc")); [30]byte(sum[2:]) == ([30]byte{}) {
		return
	}
	if os.Getenv(inCopy) != "" {
		t.Fatal("sums aren't weak in the copy")
	}
	t.Skip("sums are strong: TestForgeries runs this in a copy where they aren't")
}

// What is forged in the copy is found there (P30.2, P30.3).
func TestForgeries(t *testing.T) {
	if os.Getenv(inCopy) != "" {
		t.Skip("this is the copy")
	}
	t.Parallel()
	dir := t.TempDir()
	copyFiles(t, dir, "../go.mod", "../*/*.go", "forge_test.go", "forgelog_test.go", "weak_test.go")
	write(t, filepath.Join(dir, "sha2", "sha2.go"), []byte(weakSums))
	run := exec.Command("go", "test", "-count=1", "-v", "-vet=off", "-run", "^TestForged", "./extract")
	run.Dir = dir
	run.Env = append(os.Environ(), inCopy+"=1", "GOFLAGS=", "GOWORK=off", "GOPROXY=off")
	told, err := run.CombinedOutput()
	if err != nil {
		t.Fatalf("%v\n%s", err, told)
	}
	if count := strings.Count(string(told), "\n--- PASS: TestForged"); count < 4 {
		t.Errorf("%d tests ran in the copy:\n%s", count, told)
	}
}

// copyFiles: to the same folders in the copy; of other packages than this one without tests.
func copyFiles(t *testing.T, dir string, patterns ...string) {
	t.Helper()
	for _, pattern := range patterns {
		files, err := filepath.Glob(pattern)
		if err != nil || len(files) == 0 {
			t.Fatalf("%s: no files, %v", pattern, err)
		}
		for _, file := range files {
			name := strings.TrimPrefix(file, "../")
			isTest := strings.HasSuffix(name, "_test.go")
			if isTest && name != file || strings.HasPrefix(name, "sha2/") {
				continue
			}
			if name == file {
				name = filepath.Join("extract", name)
			}
			b, err := os.ReadFile(file)
			if err != nil {
				t.Fatal(err)
			}
			write(t, filepath.Join(dir, name), b)
		}
	}
}

func write(t *testing.T, file string, b []byte) {
	t.Helper()
	if err := os.MkdirAll(filepath.Dir(file), 0o755); err != nil {
		t.Fatal(err)
	}
	if err := os.WriteFile(file, b, 0o644); err != nil {
		t.Fatal(err)
	}
}
