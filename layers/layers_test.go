// Package layers has no code: its tests hold every layer to the map of shared/DOC.md and to the imports of shared/LANGUAGE.md.
package layers

import (
	"go/ast"
	"go/parser"
	"go/token"
	"path/filepath"
	"slices"
	"strconv"
	"strings"
	"testing"
)

// calls is the map's column of that name: which packages a layer may stand on.
func calls() map[string]string {
	return map[string]string{
		"api":    "",
		"num":    "",
		"sha":    "num",
		"mac":    "num sha",
		"kdf":    "api num sha mac",
		"hexa":   "api",
		"text":   "api",
		"fill":   "api",
		"head":   "api",
		"http":   "api num head",
		"resp":   "api num head http",
		"cookie": "api num head",
		"disk":   "api",
		"crc":    "api num",
		"wal":    "api disk crc",
		"clock":  "api num",
		"code":   "api num hexa text",
		"store":  "api clock code",
		"sess":   "api mac kdf hexa text clock store",
		"gate":   "api mac text fill head http resp cookie sess",
		"world":  "api mac disk wal clock code store gate",
		"watch":  "api cookie fill head http resp world",
		"play":   "api num hexa fill http resp watch",
	}
}

const library = "bytes cmp container/heap errors iter maps math math/bits slices sort strconv strings sync sync/atomic unicode unicode/utf8"

func TestImports(t *testing.T) {
	for layer, below := range calls() {
		files := sources(t, layer)
		if len(files) == 0 {
			t.Errorf("%s: no Go file", layer)
		}
		for _, f := range files {
			for _, i := range f.Imports {
				path, err := strconv.Unquote(i.Path.Value)
				if err != nil {
					t.Fatal(err)
				}
				if !allowed(path, below) {
					t.Errorf("%s imports %s", layer, path)
				}
			}
		}
	}
}

func TestNoDirectives(t *testing.T) {
	for layer := range calls() {
		for _, f := range sources(t, layer) {
			for _, g := range f.Comments {
				for _, c := range g.List {
					if strings.HasPrefix(c.Text, "//go:") || strings.HasPrefix(c.Text, "// +build") {
						t.Errorf("%s has the line %s", layer, c.Text)
					}
				}
			}
		}
	}
}

func allowed(path, below string) bool {
	if layer, own := strings.CutPrefix(path, "wicketman/"); own {
		_, known := calls()[layer]
		// A package that the map does not know is the project's own, and no layer.
		return !known || slices.Contains(strings.Fields(below), layer)
	}
	return slices.Contains(strings.Fields(library), path)
}

func sources(t *testing.T, layer string) []*ast.File {
	t.Helper()
	names, err := filepath.Glob(filepath.Join("..", layer, "*.go"))
	if err != nil {
		t.Fatal(err)
	}
	var files []*ast.File
	for _, name := range names {
		if strings.HasSuffix(name, "_test.go") {
			continue
		}
		f, err := parser.ParseFile(token.NewFileSet(), name, nil, parser.ParseComments)
		if err != nil {
			t.Fatal(err)
		}
		files = append(files, f)
	}
	return files
}
