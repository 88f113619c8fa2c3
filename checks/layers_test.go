package checks

import (
	"go/parser"
	"go/token"
	"path/filepath"
	"slices"
	"strconv"
	"strings"
	"testing"
)

// layers is the packages in their order, api ahead of all.
var layers = []string{"api", "ieee", "text", "acc", "fn", "date", "cal", "count", "sched", "rate", "interp", "curve", "solve", "boot", "flow",
	"price", "risk", "deal", "code", "vm", "book", "desk", "bond", "fx", "life", "grid", "save"}

// onApiAlone is the layers whose chapters say that they stand on nothing else.
var onApiAlone = []string{"ieee", "date"}

// A layer leans on none but those ahead of it.
func TestLayers(t *testing.T) {
	for _, name := range sources(t) {
		layer := filepath.Base(filepath.Dir(name))
		place := slices.Index(layers, layer)
		if place < 0 {
			continue
		}
		ahead := layers[:place]
		if slices.Contains(onApiAlone, layer) {
			ahead = layers[:1]
		}
		file, err := parser.ParseFile(token.NewFileSet(), name, nil, parser.ImportsOnly)
		if err != nil {
			t.Fatal(err)
		}
		for _, i := range file.Imports {
			path, _ := strconv.Unquote(i.Path.Value)
			if other, own := strings.CutPrefix(path, "tenor/"); own && !slices.Contains(ahead, other) {
				t.Errorf("%s imports %s", name, path)
			}
		}
	}
}
