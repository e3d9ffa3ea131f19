package identity_test

import (
	"go/parser"
	"go/token"
	"io/fs"
	"os"
	"path/filepath"
	"slices"
	"strings"
	"testing"
)

// elsewhere returns the Go files of the packages that make artifacts and diagnostics, without tests.
func elsewhere(t *testing.T) []string {
	var out []string
	err := filepath.WalkDir("..", func(path string, d fs.DirEntry, err error) error {
		switch {
		case err != nil:
			return err
		case d.IsDir() && (slices.Contains([]string{"api", "identity", "sharedtests"}, d.Name()) || strings.HasPrefix(d.Name(), ".") && path != ".."):
			return fs.SkipDir
		case strings.HasSuffix(path, ".go") && !strings.HasSuffix(path, "_test.go"):
			out = append(out, path)
		}
		return nil
	})
	if err != nil {
		t.Fatal(err)
	}
	return out
}

// No layer calls this one, or takes what it makes: so no ID gets into an artifact or a diagnostic.
func TestArtifactsAndDiagnosticsContainNoIDs(t *testing.T) {
	files := elsewhere(t)
	if len(files) == 0 {
		t.Error("there are no other packages")
	}
	for _, path := range files {
		text, err := os.ReadFile(path)
		if err != nil {
			t.Fatal(err)
		}
		file, err := parser.ParseFile(token.NewFileSet(), path, text, parser.ImportsOnly)
		if err != nil {
			t.Fatal(err)
		}
		for _, i := range file.Imports {
			if i.Path.Value == `"recompile/identity"` {
				t.Errorf("%s calls layer 5", path)
			}
		}
		if strings.Contains(string(text), "api.Identit") {
			t.Errorf("%s takes identities", path)
		}
	}
}
