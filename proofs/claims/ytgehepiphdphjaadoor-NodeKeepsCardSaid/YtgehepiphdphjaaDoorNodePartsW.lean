/- The statement NodeParts of layer 4, walked. -/
import Derived.Test.YtgehepiphdphjaaDoorNodeAwake
import Derived.Test.YtgehepiphdphjaaDoorNodeRForm
namespace Go.Proofs.YtgehepiphdphjaaDoor
open Go Go.RowKit
set_option linter.unusedVariables false
set_option linter.unusedSimpArgs false

theorem Form.mvOk {l : List Nd} (h : Form l) (ht : Txt l) (hlen : l.length ≤ 1073741823) {d : Int} (h1 : -1073741824 ≤ d) (h2 : d ≤ 1073741824) : ∀ n ∈ l, MvOk d n := fun n hn => by
  obtain ⟨i, hi, e⟩ := List.mem_iff_getElem.1 hn
  have ha : atN l i = n := by unfold atN; rw [List.getD_eq_getElem?_getD, List.getElem?_eq_getElem hi]; exact e
  have := (h.2.1 i hi).mvOk (by omega) (txt_at ht i) h1 h2
  rwa [ha] at this
theorem txt_sub {l : List Nd} (ht : Txt l) {i : Nat} (hi : i < l.length) : Txt (subL l i) := fun n hn => by
  unfold subL at hn
  obtain ⟨m, hm, rfl⟩ := List.mem_map.1 hn
  have hle := firstP_le l i
  obtain ⟨j, _, _, rfl⟩ := mem_seg (by omega) hm
  have := txt_at ht j
  have e : ∀ (k : Int) (n : Nd), (mvN k n).text = n.text := fun k n => by unfold mvN; (repeat' split) <;> rfl
  rw [e]; exact this
theorem few_Txt {l : List Nd} (h : fewB l = true) : Txt l := fun n hn => by have := (few_txt h).2 n hn; omega
theorem IsD.pair {l m : List Nd} {u v : Value} {w : World} (h : IsD l u w) (k : IsD m v w) (kind : Int) (hp1 : 0 < l.length) (hp2 : 0 < m.length) (hl1 : l.length ≤ 536870912) (hl2 : m.length ≤ 536870910) (hok1 : ∀ n ∈ l, MvOk 0 n) (hok2 : ∀ n ∈ m, MvOk (l.length : Int) n) :
    Calls Tryd.prog 29 #[.int .i64 kind, u, v] w (DPost w (pairL kind l m)) := by
  obtain ⟨A, c, _, rfl, hr⟩ := h
  obtain ⟨B, d, _, rfl, hs⟩ := k
  exact pair_any kind l m A B c d hp1 hp2 hl1 hl2 hok1 hok2 w hr hs
theorem IsD.wrap {l : List Nd} {u : Value} {w : World} (h : IsD l u w) (kind lo hi : Int) (hp1 : 0 < l.length) (hl1 : l.length ≤ 536870912) (hok1 : ∀ n ∈ l, MvOk 0 n) :
    Calls Tryd.prog 30 #[.int .i64 kind, .int .i64 lo, .int .i64 hi, u] w (DPost w (wrapL kind lo hi l)) := by
  obtain ⟨A, c, _, rfl, hr⟩ := h
  exact wrap_any kind lo hi l A c hp1 hl1 hok1 w hr
structure NpS (w0 : World) (A : Option Addr) (l : List Nd) (c : Nat) (w : World) : Prop where
  fst : FstS w0 A l c w
  u8 : U8T w
theorem NpS.later {w0 w w' : World} {A : Option Addr} {l : List Nd} {c : Nat} (h : NpS w0 A l c w) (hb : Below w.heap.size w w') : NpS w0 A l c w' := ⟨h.fst.later hb, h.u8.later hb⟩
structure NqS (w0 : World) (A : Option Addr) (l : List Nd) (c bx by_ : Nat) (B : Option Addr) (k : Nat) (e : Nat) (m : List Nd) (n : Nd) (w : World) : Prop where
  s : NpS w0 A l c w
  x : Blk w bx #[.slice B k e] 49
  r : NRow w B m
  y : Blk w by_ (ndC n) 59
theorem NqS.later {w0 w w' : World} {A : Option Addr} {l : List Nd} {c bx by_ : Nat} {B : Option Addr} {k e : Nat} {m : List Nd} {n : Nd} (h : NqS w0 A l c bx by_ B k e m n w) (hb : Below w.heap.size w w') : NqS w0 A l c bx by_ B k e m n w' := ⟨h.s.later hb, h.x.later hb, h.r.later hb, h.y.later hb⟩
def ni (i : Nat) : Int := (i : Int)
end Go.Proofs.YtgehepiphdphjaaDoor
