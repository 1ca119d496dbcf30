/-
  The library's contracts at this program's numbers.
  A strings.Builder beside other work; the walk of layout.listOf.
  The walk of strings.Builder's Write.
  The walk of draft's sorted.
  Rows that are owned.
  A list made longer: its row is the old one, or a new one.
  The walks of mark, fullTexts, keepTexts, looks.
  The walk of layout.readList.
-/
import Derived.Test.YtadinjaocnlglaaGreatDoorZ07
import Derived.WalkKit
import Derived.Test.YtadinjaocnlglaaGreatDoorZ06
import Derived.Test.YtadinjaocnlglaaGreatDoorZ05
import Derived.Sort.KeysCollected
import Derived.Test.YtadinjaocnlglaaGreatDoorZ04
import Derived.Deep.RegionLaw
import Derived.ArgAppend
import Derived.Maps.AppendAt
import Derived.BigRegion
import Derived.BigQuiet
import Derived.Deep.QuietTactic
import Derived.Deep.RegionWith
import Derived.Deep.RegionHeld3
import Derived.Deep.RegionLawGrows
import Derived.Laws.ResultCell
namespace Go.Proofs.YtadinjaocnlglaaGreatDoor
open Go.RowKit
theorem join_none (a : Option Addr) (c : Nat) (sep : ByteArray) (w : World) :
  Calls Tryz.prog 184 #[.slice a 0 c, .string sep] w fun e w' => e = .returned (.string ⟨#[]⟩) ∧ w' = w :=
 Any.strings_Join_none Tryz.lays156 Tryz.Builder_Extra_156 a c sep w
theorem join_some (g o c : Nat) (xs : List ByteArray) (sep : ByteArray) (w : World) (h1 : ∀ (j : Nat) x, xs[j]? = some x → w.cell? ⟨g, o + j, none⟩ = some (.string x)) (h2 : g < w.heap.size) (h3 : xs.length ≤ 140737488355328) (h4 : xs.length ≤ c) (h5 : (Lib.join (xs.map (·.data.toList)) sep.data.toList).length ≤ 140737488355328) :
  Calls Tryz.prog 184 #[.slice (some ⟨g, o, none⟩) xs.length c, .string sep] w fun e w' => e = .returned (.string ⟨(Lib.join (xs.map (·.data.toList)) sep.data.toList).toArray⟩) ∧ Below w.heap.size w w' :=
 Any.strings_Join Tryz.lays156 Tryz.Builder_Extra_156 g o c xs sep w h1 h2 h3 h4 h5
end Go.Proofs.YtadinjaocnlglaaGreatDoor
namespace Go.Proofs.YtadinjaocnlglaaGreatDoor
open Go.RowKit Go.Shelf
set_option maxRecDepth 100000
set_option maxHeartbeats 2000000
def num5 (K M C V n : Nat) : Nat → Nat
 | 0 => K
 | 1 => M
 | 2 => C
 | 3 => V
 | _ => n
def vltT : ByteArray := ⟨#[86, 76, 84, 49]⟩
def lst1 (F : Nat → Nat) : Nat → List UInt8
 | 0 => vltT.data.toList
 | i + 1 => lst1 F i ++ (vint (F i)).data.toList
def lst2 (h : List UInt8) (Nm : Nat → ByteArray) (Ln : Nat → Nat) : Nat → List UInt8
 | 0 => h
 | j + 1 => lst2 h Nm Ln j ++ (vint (Nm j).size).data.toList ++ (Nm j).data.toList ++ (vint (Ln j)).data.toList
theorem dl (s : ByteArray) : s.data.toList.length = s.size := by simp
theorem lst1_len (F : Nat → Nat) : ∀ i, (lst1 F i).length ≤ 4 + 5 * i
 | 0 => by show vltT.data.toList.length ≤ _; decide
 | i + 1 => by
  have := lst1_len F i
  have := vint_size (F i)
  rw [lst1, List.length_append, dl]; omega
theorem lst2_len (h : List UInt8) (Nm : Nat → ByteArray) (Ln : Nat → Nat) (hN : ∀ j, (Nm j).size ≤ 1000) : ∀ j, (lst2 h Nm Ln j).length ≤ h.length + 1010 * j
 | 0 => by simp [lst2]
 | j + 1 => by
  have := lst2_len h Nm Ln hN j
  have := vint_size (Nm j).size
  have := vint_size (Ln j)
  have := hN j
  rw [lst2, List.length_append, List.length_append, List.length_append, dl, dl, dl]; omega
def lstT (K M C V n : Nat) (Nm : Nat → ByteArray) (Ln : Nat → Nat) : ByteArray := ⟨(lst2 (lst1 (num5 K M C V n) 5) Nm Ln n).toArray⟩
end Go.Proofs.YtadinjaocnlglaaGreatDoor
namespace Go.Proofs.YtadinjaocnlglaaGreatDoor
open Go.RowKit Go.Maps
set_option maxRecDepth 100000
set_option maxHeartbeats 1000000
theorem cells_new (w : World) (cs : List Value) (t : TypeId) (j : Nat) (u : Value) (h : cs[j]? = some u) : (w.alloc (.cells cs.toArray t)).cell? ((⟨w.heap.size, 0, none⟩ : Addr).add j) = some u := by
 rw [Addr.add_lit]
 rw [cell_of_row _ _ _ _ t _ (heap_alloc_new w (.cells cs.toArray t))]
 simpa using h
theorem info103 : (Tryz.prog.info? 70).map (fun i => (i.zero, i.size, i.bytes)) = some (some (.agg #[.string ⟨#[]⟩, .int .i64 0]), 2, 24) := by kernel_rfl
end Go.Proofs.YtadinjaocnlglaaGreatDoor
namespace Go.Proofs.YtadinjaocnlglaaGreatDoor
open Go.RowKit
theorem str_one (t : ByteArray) : ∀ u ∈ [Value.string t], u.oneCell' = true := by
 intro u hu; simp at hu; subst hu; rfl
theorem step_append_own {P : Program} {ops : Array Oper} {o : Oper} {a : Act} {w : World} {K : Act → World → Prop} {Q : Exit → Act → World → Prop} {E : Prop}
  (hg : o.guard = none) (s x : Operand) (t : TypeId) (hop : o.op = Op.call { callee := Callee.builtin Builtin.append, args := #[s, x], argTypes := #[t, t] })
  (e : TypeId) (i : TypeInfo) (z : Value) (size bytes : Nat) (h1 : P.underlying t = some (.slice e)) (h2 : P.info? e = some i) (h3 : i.zero = some z) (h4 : i.size = size) (h5 : i.bytes = bytes) (h6 : z.cells.size = size) (h7 : 0 < size)
  (base : Nat) (v : Value) (n : Nat) (xs : List Value) (hs : a.eval s = v) (hown : w.ownsRow base e size v n xs)
  (ad : Addr) (m c : Nat) (news : List Value) (hx : a.eval x = .slice (some ad) m c) (hn : news.length = m * size) (hc : ∀ j u, news[j]? = some u → w.cell? (ad.add j) = some u) (h1c : ∀ u ∈ news, u.oneCell' = true)
  (b1 : n + m ≤ maxLen) (b2 : (n + m) * bytes ≤ 140737488355328) (hbase : base ≤ w.heap.size)
  (hK : ∀ v' w', w'.ownsRow base e size v' (n + m) (xs ++ news) → w.grownBy w' v.ownBlock → K (a.put o.dst v') w') :
  if Region.wanted o (yielded ops a.tmps) = true then Oper.wp P o a w K Q else E := by
 have hw : Region.wanted o (yielded ops a.tmps) = true := by simp [Region.wanted, hg]
 rw [if_pos hw]
 obtain ⟨v', w', hrun, r1, r2, _⟩ := run_append_own (P := P) w base t o.type e i z size bytes h1 h2 h3 h4 h5 h6 h7 v n xs hown ad m c news hn hc h1c b1 b2 hbase
 unfold Oper.wp
 simp [execOp, hop, resolve, invoke, builtin, hs, hx, hrun, Result.andThen]
 exact hK v' w' r1 r2
set_option maxRecDepth 100000
set_option maxHeartbeats 1000000
theorem mark_any (n : Nat) (w : World) (_hn : n ≤ 1000000000000) :
  Calls Tryz.prog 147 #[.int .i64 n] w fun e w' => ∃ s, e = .returned (.string s) ∧ Below w.heap.size w w' := by
 have hcv := run_convert_bytes_arg (P := Tryz.prog) (w.alloc (Obj.cells #[Value.int IntKind.u8 (↑n % 256), Value.int IntKind.u8 (↑n / 256 % 256), Value.int IntKind.u8 (↑n / 65536 % 256)] 5)) 165 5 Tryz.underlying165 Tryz.underlying5 w.heap.size 0 3 3 [(n : Int) % 256, (n : Int) / 256 % 256, (n : Int) / 65536 % 256] rfl (fun i hi => by
  rw [Nat.zero_add, cell_of_row _ _ _ _ 5 _ (heap_alloc_new w _)]
  match i, hi with
  | 0, _ => rfl
  | 1, _ => rfl
  | 2, _ => rfl) 9 Tryz.underlying9
 obtain ⟨s, hs⟩ : ∃ s, s = strOfNums [(n : Int) % 256, (n : Int) / 256 % 256, (n : Int) / 65536 % 256] := ⟨_, rfl⟩
 have hsz : s.size = 3 := by rw [hs, strOfNums_size]; rfl
 rw [← hs] at hcv
 clear hs
 go_enter Tryz.func147, Tryz.ntmps147
 go_wp2
 go_ret
 exact ⟨_, rfl, (Below.refl _ _).alloc (Nat.le_refl _) _⟩
theorem own_type {w : World} {base : Nat} {e : TypeId} {size : Nat} {v : Value} {n : Nat} {xs : List Value} (h : w.ownsRow base e size v n xs) : ∀ q, v.ownBlock = some q → ∃ cur, w.heap[q]? = some (.cells cur e (0, 0)) := by
 intro q hq
 rcases h.2 with ⟨h', _⟩ | ⟨g, cap, cur, hv, hg, hh, _⟩
 ·rw [h'] at hq; simp [Value.ownBlock] at hq
 ·rw [hv] at hq; simp [Value.ownBlock] at hq; subst hq; exact ⟨cur, hh⟩
theorem grown_block {w w' : World} {o : Obj} {row : Option Nat} (h : (w.alloc o).drew.grownBy w' row) (B : Nat) (hB : B < w.heap.size) (hr : ∀ q, row = some q → q ≠ B) : w'.heap[B]? = w.heap[B]? := by
 rw [h.block B (by show B < (w.alloc o).heap.size; simp; omega) (fun e => hr B e.symm rfl)]
 exact Below.heap_alloc w o B hB
set_option maxHeartbeats 4000000
theorem num_hiI (s : RS) (lo : Nat) (hi : Int) (h0 : 0 ≤ hi) : ((s.num lo hi).2 : Int) ≤ hi := by
 unfold RS.num
 split
 ·simpa using h0
 ·split
  ·simpa using h0
  ·rename_i h
   simp only [not_or] at h
   show ((vrd (s.text.extract s.next s.text.size)).1 : Int) ≤ hi
   omega
theorem results_row_tmp {P : Program} {fn : Func} {p u : Tmp} {ty : TypeId} (h : fn.results = #[.cell p ty, .tmp u]) (tmps : Array Value) (w : World) (g : Nat) (t : TypeId) (cs : Array Value) (fr : Nat × Nat) (d : TypeDesc)
  (hp : tmps.getD p undef = .pointer (some ⟨g, 0, none⟩)) (hg : w.heap[g]? = some (.cells cs t fr))
  (hu : P.underlying ty = some d) (hd : (match d with | .struct _ | .array _ _ => true | _ => false) = true) (hi : (P.info? ty).map (·.size) = some cs.size) :
  (results fn tmps).run P w = .ok (.tuple #[.agg cs, tmps.getD u undef]) w := by
 rw [results_cell_tmp h, hp]
 simp [asAddr, run_loadVar_row w g t ty cs fr d hg hu hd hi, Result.andThen]
theorem entry_le (s : RS) (before : ByteArray) (longest : Int) (h : 0 ≤ longest) : ((s.entry before longest).2.2 : Int) ≤ longest := num_hiI _ 0 longest h
def RS.ents : Nat → RS → ByteArray → Int → List (ByteArray × Nat) → RS × List (ByteArray × Nat)
 | 0, s, _, _, acc => (s, acc)
 | k + 1, s, nm, left, acc => RS.ents k (s.entry nm left).1 (s.entry nm left).2.1 (left - (s.entry nm left).2.2) (acc ++ [((s.entry nm left).2.1, (s.entry nm left).2.2)])
structure LT where
 st : RS
 K : Nat
 M : Nat
 C : Nat
 V : Nat
 es : List (ByteArray × Nat)
def RS.list (s : RS) : LT :=
 let s0 := s.word ⟨#[86, 76, 84, 49]⟩
 let a := s0.num 1 255
 let b := a.1.num 0 (255 - (a.2 : Int))
 let c := b.1.num 1 64
 let d := c.1.num 1 16
 let e := d.1.num 0 16
 let l := RS.ents e.2 e.1 ⟨#[]⟩ 4096 []
 ⟨l.1, a.2, b.2, c.2, d.2, l.2⟩
def enV (l : List (ByteArray × Nat)) : List Value := l.flatMap fun x => [.string x.1, .int .i64 x.2]
theorem enV_snoc (l : List (ByteArray × Nat)) (x : ByteArray × Nat) : enV (l ++ [x]) = enV l ++ [.string x.1, .int .i64 x.2] := by simp [enV]
theorem rlistR (r : Nat) (s : RS) (w : World) (h : RI r s w) : Calls Tryz.prog 288 #[.pointer (some ⟨r, 0, none⟩)] w fun e w' => ∃ v, e = .returned (.tuple #[.agg #[.int .i64 s.list.K, .int .i64 s.list.M, .int .i64 s.list.C, .int .i64 s.list.V], v]) ∧ w'.ownsRow w.heap.size 70 2 v s.list.es.length (enV s.list.es) ∧ RDid r s.list.st w w' := by
 have hrl : r < w.heap.size := (Array.getElem?_eq_some_iff.1 h.row).1
 obtain ⟨s0, hs0⟩ : ∃ s0, s.word ⟨#[86, 76, 84, 49]⟩ = s0 := ⟨_, rfl⟩
 obtain ⟨s1, hs1⟩ : ∃ x, (s0.num 1 255).1 = x := ⟨_, rfl⟩
 obtain ⟨K, hK⟩ : ∃ x, (s0.num 1 255).2 = x := ⟨_, rfl⟩
 obtain ⟨s2, hs2⟩ : ∃ x, (s1.num 0 (255 - (K : Int))).1 = x := ⟨_, rfl⟩
 obtain ⟨M, hM⟩ : ∃ x, (s1.num 0 (255 - (K : Int))).2 = x := ⟨_, rfl⟩
 obtain ⟨s3, hs3⟩ : ∃ x, (s2.num 1 64).1 = x := ⟨_, rfl⟩
 obtain ⟨C, hC⟩ : ∃ x, (s2.num 1 64).2 = x := ⟨_, rfl⟩
 obtain ⟨s4, hs4⟩ : ∃ x, (s3.num 1 16).1 = x := ⟨_, rfl⟩
 obtain ⟨V, hV⟩ : ∃ x, (s3.num 1 16).2 = x := ⟨_, rfl⟩
 obtain ⟨s5, hs5⟩ : ∃ x, (s4.num 0 16).1 = x := ⟨_, rfl⟩
 obtain ⟨n, hn⟩ : ∃ x, (s4.num 0 16).2 = x := ⟨_, rfl⟩
 obtain ⟨T, hT⟩ : ∃ T, RS.ents n s5 ⟨#[]⟩ 4096 [] = T := ⟨_, rfl⟩
 have e : s.list = ⟨T.1, K, M, C, V, T.2⟩ := by
  unfold RS.list
  simp only [hs0, hs1, hK, hs2, hM, hs3, hC, hs4, hV, hs5, hn, hT]
 rw [e]
 have hK2 : K ≤ 255 := by rw [← hK]; exact num_hi s0 1 255
 have hn2 : n ≤ 16 := by rw [← hn]; exact num_hi s4 0 16
 have H0 : Hid (∀ X : World, RI r s X → Calls Tryz.prog 287 #[.pointer (some ⟨r, 0, none⟩), .string ⟨#[86, 76, 84, 49]⟩] X fun e w' => e = .returned (.tuple #[]) ∧ RDid r s0 X w') := fun X hX => by rw [← hs0]; exact rword r s _ X hX (by decide)
 have H1 : Hid (∀ X : World, RI r s0 X → Calls Tryz.prog 289 #[.pointer (some ⟨r, 0, none⟩), .int .i64 1, .int .i64 255] X fun e w' => e = .returned (.int .i64 K) ∧ RDid r s1 X w') := fun X hX => by rw [← hs1, ← hK]; exact rnum r s0 1 255 X hX
 have H2 : Hid (∀ X : World, RI r s1 X → Calls Tryz.prog 289 #[.pointer (some ⟨r, 0, none⟩), .int .i64 0, .int .i64 (255 - (K : Int))] X fun e w' => e = .returned (.int .i64 M) ∧ RDid r s2 X w') := fun X hX => by rw [← hs2, ← hM]; exact rnum r s1 0 _ X hX
 have H3 : Hid (∀ X : World, RI r s2 X → Calls Tryz.prog 289 #[.pointer (some ⟨r, 0, none⟩), .int .i64 1, .int .i64 64] X fun e w' => e = .returned (.int .i64 C) ∧ RDid r s3 X w') := fun X hX => by rw [← hs3, ← hC]; exact rnum r s2 1 64 X hX
 have H4 : Hid (∀ X : World, RI r s3 X → Calls Tryz.prog 289 #[.pointer (some ⟨r, 0, none⟩), .int .i64 1, .int .i64 16] X fun e w' => e = .returned (.int .i64 V) ∧ RDid r s4 X w') := fun X hX => by rw [← hs4, ← hV]; exact rnum r s3 1 16 X hX
 have H5 : Hid (∀ X : World, RI r s4 X → Calls Tryz.prog 289 #[.pointer (some ⟨r, 0, none⟩), .int .i64 0, .int .i64 16] X fun e w' => e = .returned (.int .i64 n) ∧ RDid r s5 X w') := fun X hX => by rw [← hs5, ← hn]; exact rnum r s4 0 16 X hX
 have HT : Hid _ := hT
 obtain ⟨g, hg⟩ : ∃ g, w.heap.size = g := ⟨_, rfl⟩
 have HG : Hid _ := hg
 obtain ⟨W, hW⟩ : ∃ W, w.alloc (.cells #[.int .i64 0, .int .i64 0, .int .i64 0, .int .i64 0] 23) = W := ⟨_, rfl⟩
 have hgr : g ≠ r := by omega
 have HIW : Hid (RI r s W) := by show RI r s W; rw [← hW]; exact h.low ((Below.refl _ _).alloc (Nat.le_refl _) _)
 have HFW : Hid (Fr (fun j => j = r) w W) := by show Fr _ w W; rw [← hW]; exact (Fr.refl _ w).alloc _
 have hrow : W.heap[g]? = some (.cells #[.int .i64 0, .int .i64 0, .int .i64 0, .int .i64 0] 23 (0, 0)) := by rw [← hW, ← hg]; exact heap_alloc_new _ _
 have HSTEP : Hid (∀ (X Y : World) (cs : Array Value) (st : RS), X.heap[g]? = some (.cells cs 23 (0, 0)) → Fr (fun j => j = r) w X → RDid r st X Y → Y.heap[g]? = some (.cells cs 23 (0, 0)) ∧ Fr (fun j => j = r) w Y) := fun X Y cs st h1 h2 h3 => ⟨by rw [h3.2.old g (Array.getElem?_eq_some_iff.1 h1).1 hgr]; exact h1, h2.trans' h3.2⟩
 have HSET : Hid (∀ (X : World) (cs : Array Value) (st : RS) (k : Nat) (v : Value), X.heap[g]? = some (.cells cs 23 (0, 0)) → Fr (fun j => j = r) w X → RI r st X → (X.setCell ⟨g, k, none⟩ v).heap[g]? = some (.cells (cs.setIfInBounds k v) 23 (0, 0)) ∧ Fr (fun j => j = r) w (X.setCell ⟨g, k, none⟩ v) ∧ RI r st (X.setCell ⟨g, k, none⟩ v)) := fun X cs st k v h1 h2 h3 => ⟨set_heap _ _ _ _ _ _ _ h1, h2.set (g := g) (.inr (by rw [HG.out]; exact Nat.le_refl _)) _ _, ⟨by rw [set_other _ _ _ _ _ hgr.symm]; exact h3.row, h3.fn, h3.nt, h3.small⟩⟩
 have HROW : Hid _ := hrow
 obtain ⟨i0, hi0, z0, z1, z2⟩ := info_parts info103
 clear h hs0 hs1 hK hs2 hM hs3 hC hs4 hV hs5 hn hT e hrow
 go_enter Tryz.func288, Tryz.ntmps288
 go_wp2_with fail
 try rw [hW]
 try rw [hg]
 clear hW hg
 refine Calls.mono (H0.out _ HIW.out) ?_
 rintro e w0 ⟨rfl, hD⟩
 obtain ⟨hr0, hf0⟩ := HSTEP.out _ _ _ _ HROW.out HFW.out hD
 have HR0 : Hid _ := hr0
 have HF0 : Hid _ := hf0
 have HI0 : Hid (RI r s0 w0) := hD.1
 clear hr0 hf0 hD
 go_wp2_with fail
 refine Calls.mono (H1.out _ HI0.out) ?_
 rintro e w1 ⟨rfl, hD⟩
 obtain ⟨hr1, hf1⟩ := HSTEP.out _ _ _ _ HR0.out HF0.out hD
 have c0 : w1.cell? ⟨g, 0, none⟩ = some (.int .i64 0) := cell_of_row _ _ _ _ 23 _ hr1
 have f0 := frozen_of_row w1 g 0 _ 23 hr1
 obtain ⟨hr1', hf1', hi1'⟩ := HSET.out w1 _ s1 0 (.int .i64 K) hr1 hf1 hD.1
 obtain ⟨X1, hX1⟩ : ∃ X, w1.setCell ⟨g, 0, none⟩ (.int .i64 K) = X := ⟨_, rfl⟩
 rw [hX1] at hr1' hf1' hi1'
 have d0 : X1.cell? ⟨g, 0, none⟩ = some (.int .i64 K) := cell_of_row _ _ _ _ 23 _ hr1'
 have HR1 : Hid _ := hr1'
 have HF1 : Hid _ := hf1'
 have HI1 : Hid _ := hi1'
 have hsub : IntKind.i64.wrap (255 - (K : Int)) = 255 - (K : Int) := by rw [IntKind.wrap_i64]; omega
 clear hD hr1 hf1 hr1' hf1' hi1'
 go_wp2_with fail
 try rw [hX1]
 clear hX1 c0 f0
 refine Calls.mono (H2.out _ HI1.out) ?_
 rintro e w2 ⟨rfl, hD⟩
 obtain ⟨hr, hf⟩ := HSTEP.out _ _ _ _ HR1.out HF1.out hD
 have c1 : w2.cell? ⟨g, 1, none⟩ = some (.int .i64 0) := cell_of_row _ _ _ _ 23 _ hr
 have f1 := frozen_of_row w2 g 1 _ 23 hr
 obtain ⟨hr', hf', hi'⟩ := HSET.out w2 _ s2 1 (.int .i64 M) hr hf hD.1
 obtain ⟨X2, hX2⟩ : ∃ X, w2.setCell ⟨g, 1, none⟩ (.int .i64 M) = X := ⟨_, rfl⟩
 rw [hX2] at hr' hf' hi'
 have HR2 : Hid _ := hr'
 have HF2 : Hid _ := hf'
 have HI2 : Hid _ := hi'
 clear hD hr hf hr' hf' hi'
 clear d0
 go_wp2_with fail
 try rw [hX2]
 clear hX2 c1 f1
 refine Calls.mono (H3.out _ HI2.out) ?_
 rintro e w3 ⟨rfl, hD⟩
 obtain ⟨hr, hf⟩ := HSTEP.out _ _ _ _ HR2.out HF2.out hD
 have c2 : w3.cell? ⟨g, 2, none⟩ = some (.int .i64 0) := cell_of_row _ _ _ _ 23 _ hr
 have f2 := frozen_of_row w3 g 2 _ 23 hr
 obtain ⟨hr', hf', hi'⟩ := HSET.out w3 _ s3 2 (.int .i64 C) hr hf hD.1
 obtain ⟨X3, hX3⟩ : ∃ X, w3.setCell ⟨g, 2, none⟩ (.int .i64 C) = X := ⟨_, rfl⟩
 rw [hX3] at hr' hf' hi'
 have HR3 : Hid _ := hr'
 have HF3 : Hid _ := hf'
 have HI3 : Hid _ := hi'
 clear hD hr hf hr' hf' hi'
 go_wp2_with fail
 try rw [hX3]
 clear hX3 c2 f2
 refine Calls.mono (H4.out _ HI3.out) ?_
 rintro e w4 ⟨rfl, hD⟩
 obtain ⟨hr, hf⟩ := HSTEP.out _ _ _ _ HR3.out HF3.out hD
 have c3 : w4.cell? ⟨g, 3, none⟩ = some (.int .i64 0) := cell_of_row _ _ _ _ 23 _ hr
 have f3 := frozen_of_row w4 g 3 _ 23 hr
 obtain ⟨hr', hf', hi'⟩ := HSET.out w4 _ s4 3 (.int .i64 V) hr hf hD.1
 obtain ⟨X4, hX4⟩ : ∃ X, w4.setCell ⟨g, 3, none⟩ (.int .i64 V) = X := ⟨_, rfl⟩
 rw [hX4] at hr' hf' hi'
 have HR4 : Hid _ := hr'
 have HF4 : Hid _ := hf'
 have HI4 : Hid _ := hi'
 clear hD hr hf hr' hf' hi'
 go_wp2_with fail
 try rw [hX4]
 clear hX4 c3 f3
 refine Calls.mono (H5.out _ HI4.out) ?_
 rintro e w5 ⟨rfl, hD⟩
 obtain ⟨hr, hf⟩ := HSTEP.out _ _ _ _ HR4.out HF4.out hD
 have HR5 : Hid (w5.heap[g]? = some (.cells #[.int .i64 K, .int .i64 M, .int .i64 C, .int .i64 V] 23 (0, 0))) := hr
 have HF5 : Hid _ := hf
 have HI5 : Hid _ := hD.1
 have hg5 : g < w5.heap.size := (Array.getElem?_eq_some_iff.1 hr).1
 clear hD hr hf
 go_wp2_with fail
 go_loopw [3, 5, 6, 7, 28] (fun ev nv lv _ iv wr => ∃ (i : Nat) (oo : Value) (st : RS) (nm : ByteArray) (left : Int) (acc : List (ByteArray × Nat)), i ≤ n ∧ oo = ev ∧ nv = .string nm ∧ lv = .int .i64 left ∧ iv = .int .i64 i ∧ 0 ≤ left ∧ left ≤ 4096 ∧ acc.length = i ∧ RS.ents (n - i) st nm left acc = T ∧ wr.ownsRow g 70 2 oo i (enV acc) ∧ RI r st wr ∧ Fr (fun j => j = r) w wr ∧ wr.heap[g]? = some (.cells #[.int .i64 K, .int .i64 M, .int .i64 C, .int .i64 V] 23 (0, 0))) (fun _ _ _ _ iv _ => n - (intOf iv).toNat)
 case atStart => exact ⟨0, _, s5, ⟨#[]⟩, 4096, [], by omega, rfl, rfl, rfl, rfl, by omega, by omega, rfl, HT.out, ⟨rfl, .inl ⟨rfl, rfl⟩⟩, HI5.out, HF5.out, HR5.out⟩
 case round =>
  obtain ⟨i, oo, st, nm, left, acc, hi, rfl, rfl, rfl, rfl, hl0, hl1, hal, hen, ho, hI, hF, hR⟩ := hrel
  obtain ⟨ao, co, hsv⟩ := own_shape ho
  subst hsv
  have HO : Hid _ := ho
  have HF : Hid _ := hF
  have HR : Hid _ := hR
  have HEN : Hid _ := hen
  have HAL : Hid _ := hal
  have HI : Hid _ := hI
  have hgl : g < wr.heap.size := (Array.getElem?_eq_some_iff.1 hR).1
  by_cases hlt : i < n
  ·have H319 : Hid _ := rentry r st nm left wr hI
   have hln := entry_le st nm left hl0
   have hk : n - i = (n - (i + 1)) + 1 := by omega
   have hen2 := hen
   rw [hk, RS.ents] at hen2
   obtain ⟨st', hst'⟩ : ∃ x, (st.entry nm left).1 = x := ⟨_, rfl⟩
   obtain ⟨nm', hnm'⟩ : ∃ x, (st.entry nm left).2.1 = x := ⟨_, rfl⟩
   obtain ⟨ln, hln'⟩ : ∃ x, (st.entry nm left).2.2 = x := ⟨_, rfl⟩
   rw [hst', hnm', hln'] at H319 hen2
   rw [hln'] at hln
   have HEN2 : Hid _ := hen2
   have hsub2 : IntKind.i64.wrap (left - (ln : Int)) = left - (ln : Int) := by rw [IntKind.wrap_i64]; omega
   clear ho hI hF hR hen hal hen2 hk hst' hnm' hln'
   go_wp2_with fail
   refine Calls.mono H319.out ?_
   rintro e w1 ⟨rfl, hD1⟩
   have hsz1 := hD1.2.size
   have HR1 : Hid (w1.heap[g]? = some (.cells #[.int .i64 K, .int .i64 M, .int .i64 C, .int .i64 V] 23 (0, 0))) := by show _ = _; rw [hD1.2.old g hgl hgr]; exact HR.out
   have HO1 : Hid (w1.ownsRow g 70 2 (.slice ao i co) i (enV acc)) := own_kept HO.out (fun q hq => hD1.2.old q (own_lt HO.out q hq) (fun e => by
    obtain ⟨cur, hc⟩ := own_type HO.out q hq
    have h2 := HI.out.row
    rw [← e, hc] at h2; simp at h2))
   have HI1 : Hid (RI r st' w1) := hD1.1
   have HF1' : Hid (Fr (fun j => j = r) w w1) := HF.out.trans' hD1.2
   have hg1 : g < w1.heap.size := by omega
   have HNW : Hid (∀ j u, [Value.string nm', .int .i64 ln][j]? = some u → ((w1.alloc (.cells #[.string nm', .int .i64 ln] 70)).alloc (.cells #[.string nm', .int .i64 ln] 70)).cell? ((⟨w1.heap.size + 1, 0, none⟩ : Addr).add j) = some u) := fun j u hj => by
    have h := cells_new (w1.alloc (.cells #[.string nm', .int .i64 ln] 70)) [.string nm', .int .i64 ln] 70 j u hj
    have e : (w1.alloc (.cells #[.string nm', .int .i64 ln] 70)).heap.size = w1.heap.size + 1 := by simp
    rw [e] at h
    exact h
   clear hD1
   go_wp2_with (at_builtin; refine wpList_append_own _ rfl (.tmp 34) (.tmp 36) 59 rfl g 70 i0 (.agg #[.string ⟨#[]⟩, .int .i64 0]) 2 24 Tryz.underlying59 hi0 z0 z1 z2 rfl (by decide) (.slice ao i co) i (enV acc) (by simp [Act.eval]) ((HO1.out.alloc _).alloc _) ⟨w1.heap.size + 1, 0, none⟩ 1 1 [.string nm', .int .i64 ln] (by simp [Act.eval]) rfl HNW.out (by intro u hu; simp at hu; rcases hu with rfl | rfl <;> rfl) (by unfold maxLen; omega) (by omega) (by simp; omega) ?_; intro v2 w2 hO2 hG2 _; obtain ⟨a2, k2, hv2⟩ := own_shape hO2; subst hv2; have hA2 : w2.heap[w1.heap.size]? = some (.cells #[.string nm', .int .i64 ln] 70 (0, 0)) := (by rw [hG2.block _ (by simp; try omega) (fun e => by have := own_lt HO1.out _ e.symm; omega), heap_alloc_old _ _ (by simp; try omega), heap_alloc_new]); have m0 : w2.cell? ⟨w1.heap.size, 0, none⟩ = some (.string nm') := cell_of_row _ _ _ _ 70 _ hA2; have m1 : w2.cell? ⟨w1.heap.size, 1, none⟩ = some (.int .i64 ln) := cell_of_row _ _ _ _ 70 _ hA2; have HO2 : Hid _ := hO2; have HG2 : Hid _ := hG2; clear hA2 hO2 hG2)
   go_roundw
   case rel =>
    have hne : ∀ q, (Value.slice ao i co).ownBlock = some q → q < w1.heap.size ∧ q ≠ r := fun q hq => ⟨own_lt HO1.out q hq, fun e => by
     obtain ⟨cur, hc⟩ := own_type HO1.out q hq
     have h2 := HI1.out.row
     rw [← e, hc] at h2; simp at h2⟩
    have hk2 : ∀ j, j < w1.heap.size → (Value.slice ao i co).ownBlock ≠ some j → w2.heap[j]? = w1.heap[j]? := fun j hj hn => by
     rw [HG2.out.block j (by simp; omega) (fun e => hn e.symm), heap_alloc_old _ _ (by simp; omega), heap_alloc_old _ _ hj]
    have hrl1 : r < w1.heap.size := (Array.getElem?_eq_some_iff.1 HI1.out.row).1
    have hfin : i + 1 ≤ n ∧ 0 ≤ left - (ln : Int) ∧ left - (ln : Int) ≤ 4096 ∧ (acc ++ [(nm', ln)]).length = i + 1 ∧ w2.ownsRow g 70 2 (.slice a2 (i + 1) k2) (i + 1) (enV (acc ++ [(nm', ln)])) ∧ RI r st' w2 ∧ Fr (fun j => j = r) w w2 ∧ w2.heap[g]? = some (.cells #[.int .i64 K, .int .i64 M, .int .i64 C, .int .i64 V] 23 (0, 0)) := by
     refine ⟨by omega, by omega, by omega, by rw [List.length_append, HAL.out]; rfl, by rw [enV_snoc]; exact HO2.out, ⟨?_, HI1.out.fn, HI1.out.nt, HI1.out.small⟩, ?_, ?_⟩
     ·rw [hk2 r hrl1 (fun e => (hne r e).2 rfl)]; exact HI1.out.row
     ·exact ((HF1'.out.alloc _).alloc _).grown HG2.out (fun q hq => .inr (by have := own_ge HO1.out q hq; rw [HG.out]; exact this))
     ·rw [hk2 g hg1 (fun e => by obtain ⟨cur, hc⟩ := own_type HO1.out g e; rw [HR1.out] at hc; simp at hc)]; exact HR1.out
    obtain ⟨y1, y2, y3, y4, y5, y6, y7, y8⟩ := hfin
    exact ⟨i + 1, _, st', nm', left - ln, acc ++ [(nm', ln)], y1, rfl, rfl, rfl, by go_num, y2, y3, y4, HEN2.out, y5, y6, y7, y8⟩
   case measure => simp [intOf]; omega
  ·have ei : i = n := by omega
   subst ei
   have hTT : T = (st, acc) := by have := HEN.out; rw [Nat.sub_self] at this; exact this.symm
   have p0 : wr.cell? ⟨g, 0, none⟩ = some (.int .i64 K) := cell_of_row _ _ _ _ 23 _ hR
   have p1 : wr.cell? ⟨g, 1, none⟩ = some (.int .i64 M) := cell_of_row _ _ _ _ 23 _ hR
   have p2 : wr.cell? ⟨g, 2, none⟩ = some (.int .i64 C) := cell_of_row _ _ _ _ 23 _ hR
   have p3 : wr.cell? ⟨g, 3, none⟩ = some (.int .i64 V) := cell_of_row _ _ _ _ 23 _ hR
   have q0 := frozen_of_row wr g 0 _ 23 hR
   have q1 := frozen_of_row wr g 1 _ 23 hR
   have q2 := frozen_of_row wr g 2 _ 23 hR
   have q3 := frozen_of_row wr g 3 _ 23 hR
   have HTT : Hid _ := hTT
   clear ho hI hF hR hen hal hTT
   go_wp2
   have hRR := set_heap _ _ 3 (.int .i64 V) _ _ _ (set_heap _ _ 2 (.int .i64 C) _ _ _ (set_heap _ _ 1 (.int .i64 M) _ _ _ (set_heap _ _ 0 (.int .i64 K) _ _ _ HR.out)))
   have hgg : w.heap.size ≤ g := by rw [HG.out]; exact Nat.le_refl _
   refine bodyPost_ret (v := .tuple #[.agg #[.int .i64 K, .int .i64 M, .int .i64 C, .int .i64 V], .slice ao i co]) ?_ rfl ?_
   ·exact results_row_tmp Tryz.results288 _ _ g 23 _ (0, 0) _ rfl hRR Tryz.underlying23 rfl (by kernel_rfl)
   ·refine ⟨.slice ao i co, rfl, ?_, ⟨?_, ?_, ?_, ?_⟩, ?_⟩
    ·rw [HTT.out]
     show World.ownsRow _ w.heap.size 70 2 _ acc.length (enV acc)
     rw [HAL.out, HG.out]
     have hne : ∀ q, (Value.slice ao i co).ownBlock = some q → q ≠ g := fun q hq e => by
      obtain ⟨cur, hc⟩ := own_type HO.out q hq
      rw [e, HR.out] at hc; simp at hc
     exact own_kept HO.out (fun q hq => by rw [set_other _ _ _ _ _ (hne q hq), set_other _ _ _ _ _ (hne q hq), set_other _ _ _ _ _ (hne q hq), set_other _ _ _ _ _ (hne q hq)])
    ·rw [HTT.out, set_other _ _ _ _ _ hgr.symm, set_other _ _ _ _ _ hgr.symm, set_other _ _ _ _ _ hgr.symm, set_other _ _ _ _ _ hgr.symm]; exact HI.out.row
    ·rw [HTT.out]; exact HI.out.fn
    ·rw [HTT.out]; exact HI.out.nt
    ·rw [HTT.out]; exact HI.out.small
    ·exact (((HF.out.set (g := g) (.inr hgg) 0 _).set (g := g) (.inr hgg) 1 _).set (g := g) (.inr hgg) 2 _).set (g := g) (.inr hgg) 3 _
end Go.Proofs.YtadinjaocnlglaaGreatDoor
