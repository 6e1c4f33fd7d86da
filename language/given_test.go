package language

import (
	"crypto/sha256"
	"encoding/hex"
	"os"
	"testing"
)

// Package api is given: one file, and that to the byte.
func TestPackageAPIIsAsGiven(t *testing.T) {
	files, err := os.ReadDir("../api")
	if err != nil || len(files) != 1 || files[0].Name() != "api.go" {
		t.Fatalf("the files of package api: %v, %v", files, err)
	}
	text, err := os.ReadFile("../api/api.go")
	if err != nil {
		t.Fatal(err)
	}
	sum := sha256.Sum256(text)
	if got := hex.EncodeToString(sum[:]); got != given {
		t.Errorf("api.go is changed: its SHA-256 is %s", got)
	}
}

const given = "366b2494d938e1eff8ac233e614fc3f5afd7c77b1cabc1ca8d5d78115a0e1a21"
