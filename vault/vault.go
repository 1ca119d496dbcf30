// Package vault: objects packed into volumes that can lose parts of themselves: see DOC.md.
package vault

import (
	"sync"

	"vault/api"
	"vault/digest"
	"vault/draft"
	"vault/fault"
	"vault/proof"
	"vault/stock"
	"vault/stripe"
)

// Digest gives the digest of bytes (P3).
func Digest(s string) string { return digest.Of(s) }

// Parity gives the parity of blocks (P4).
func Parity(k int, m int, data []string) ([]string, error) {
	return stripe.Parity(k, m, data)
}

// Restore gives all blocks of a stripe (P5).
func Restore(k int, m int, blocks []string, has []bool) ([]string, error) {
	return stripe.Restore(k, m, blocks, has)
}

// Top gives the top of a tree (P6).
func Top(leaves []string) string { return proof.Top(leaves) }

// Path gives the path of a leaf (P6).
func Path(leaves []string, i int) ([]string, error) {
	return proof.Path(leaves, i)
}

// Follows tells whether a leaf and its path lead to a top (P6).
func Follows(top string, n int, i int, leaf string, path []string) bool {
	return proof.Follows(top, n, i, leaf, path)
}

// Writer packs objects. Its calls may come from several goroutines: the mutex is held while one of them works.
type Writer struct {
	mutex sync.Mutex
	draft *draft.Draft
}

// NewWriter begins a vault (P7).
func NewWriter(p api.Params) (*Writer, error) {
	begun, err := draft.New(p)
	if err != nil {
		return nil, err
	}
	return &Writer{draft: begun}, nil
}

// Begin begins an object (P8).
func (w *Writer) Begin(name string) error {
	w.mutex.Lock()
	defer w.mutex.Unlock()
	return w.draft.Begin(name)
}

// Write puts bytes behind those of the object that was begun last (P9).
func (w *Writer) Write(data string) (int, error) {
	w.mutex.Lock()
	defer w.mutex.Unlock()
	return w.draft.Write(data)
}

// Close gives the volumes and the root (P10).
func (w *Writer) Close() ([]string, string, error) {
	w.mutex.Lock()
	defer w.mutex.Unlock()
	return w.draft.Close()
}

// Vault is a vault that was opened. Its calls may come from several goroutines: the mutex is held while one of them works.
type Vault struct {
	mutex sync.Mutex
	stock *stock.Stock
}

// Open opens a vault (P12).
func Open(volumes []string, root string) (*Vault, error) {
	opened, err := stock.Open(volumes, root)
	if err != nil {
		return nil, err
	}
	return &Vault{stock: opened}, nil
}

// Params tells the vault's params (P13).
func (v *Vault) Params() api.Params {
	v.mutex.Lock()
	defer v.mutex.Unlock()
	return v.stock.Params()
}

// Root tells the vault's root (P13).
func (v *Vault) Root() string {
	v.mutex.Lock()
	defer v.mutex.Unlock()
	return v.stock.Root()
}

// Objects tells which objects there are (P13).
func (v *Vault) Objects() []api.Entry {
	v.mutex.Lock()
	defer v.mutex.Unlock()
	return v.stock.Objects()
}

// Verify tells what is there (P14).
func (v *Vault) Verify() api.Report {
	v.mutex.Lock()
	defer v.mutex.Unlock()
	return v.stock.Verify()
}

// Unpack gives the objects (P15).
func (v *Vault) Unpack() ([]api.Object, error) {
	v.mutex.Lock()
	defer v.mutex.Unlock()
	return v.stock.Unpack()
}

// Repair gives the volumes as they were (P16).
func (v *Vault) Repair() ([]string, error) {
	v.mutex.Lock()
	defer v.mutex.Unlock()
	return v.stock.Repair()
}

// Faults lists an error and those that it wraps (P17).
func Faults(err error) []api.Mark { return fault.Marks(err) }

// Lost gives the names that an error tells as lost (P17).
func Lost(err error) []string { return fault.Names(err) }
