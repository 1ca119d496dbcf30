package vault

import (
	"sync"
	"testing"
	"time"

	"vault/api"
)

// TestCallsWait: P2: each call waits until the one ahead of it has ended, and then lets the next one in.
// (From outside a call that does not wait is seen only now and then: so here the mutex itself is held.)
func TestCallsWait(t *testing.T) {
	writer, err := NewWriter(api.Params{K: 2, M: 1, Chunk: 4, Volumes: 3})
	if err != nil {
		t.Fatal(err)
	}
	checkWaits(t, "Begin", &writer.mutex, func() { writer.Begin("x") })
	checkWaits(t, "Begin, refused", &writer.mutex, func() { writer.Begin("") })
	checkWaits(t, "Write", &writer.mutex, func() { writer.Write("x") })
	checkWaits(t, "Close", &writer.mutex, func() { writer.Close() })
	writer, _ = NewWriter(api.Params{K: 2, M: 1, Chunk: 4, Volumes: 3})
	volumes, root, err := writer.Close()
	if err != nil {
		t.Fatal(err)
	}
	vault, err := Open(volumes, root)
	if err != nil {
		t.Fatal(err)
	}
	checkWaits(t, "Params", &vault.mutex, func() { vault.Params() })
	checkWaits(t, "Root", &vault.mutex, func() { vault.Root() })
	checkWaits(t, "Objects", &vault.mutex, func() { vault.Objects() })
	checkWaits(t, "Verify", &vault.mutex, func() { vault.Verify() })
	checkWaits(t, "Unpack", &vault.mutex, func() { vault.Unpack() })
	checkWaits(t, "Repair", &vault.mutex, func() { vault.Repair() })
}

func checkWaits(t *testing.T, what string, mutex *sync.Mutex, call func()) {
	t.Helper()
	mutex.Lock()
	ended := make(chan bool)
	go func() {
		call()
		close(ended)
	}()
	select {
	case <-ended:
		t.Errorf("P2: %s does not wait for the call ahead of it", what)
	case <-time.After(20 * time.Millisecond):
	}
	mutex.Unlock()
	<-ended
	if !mutex.TryLock() {
		t.Fatalf("P2: %s lets no other call in", what)
	}
	mutex.Unlock()
}
