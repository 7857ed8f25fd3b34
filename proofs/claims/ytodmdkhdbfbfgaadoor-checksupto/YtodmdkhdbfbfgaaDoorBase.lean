/- Small facts on memory and texts that the walks of this seat share: texts as lists of bytes, slices of items that are only read. -/
import Derived.Test.YtodmdkhdbfbfgaaDoorProg
import Derived.Test.YtodmdkhdbfbfgaaDoorPure
import Derived.WalkKit
import Derived.WalkSpells
import Derived.WalkLawsBesides
import Derived.Deep.QuietTactic
import Derived.BigQuiet
import Derived.Outline
import Derived.Deep.OwnRows
import Derived.Laws.BytesArg
import Derived.Lib.Strings
namespace Go.Proofs.YtodmdkhdbfbfgaaDoor
open Go.RowKit Go.Nt
set_option linter.unusedVariables false

theorem hidI {p : Prop} (h : p) : Hid p := h

/-- Bytes as a text. -/
def txt (l : List UInt8) : ByteArray := ⟨l.toArray⟩

theorem txt_size (l : List UInt8) : (txt l).size = l.length := by simp [txt, ByteArray.size]
theorem txt_inj {a b : List UInt8} (h : txt a = txt b) : a = b := by
  have := congrArg (fun x : ByteArray => x.data.toList) h
  simpa [txt] using this
theorem txt_data (l : List UInt8) : (txt l).data.toList = l := rfl
theorem txt_of (s : ByteArray) : s = txt s.data.toList := (Lib.mk_data s).symm
theorem txt_getD (s : List UInt8) (k : Nat) (h : k < (txt s).size) : (txt s)[k]'h = s.getD k 0 := by
  have h' : k < s.length := by rw [txt_size] at h; exact h
  show s.toArray[k] = _
  simp [List.getD, h']
theorem txt_extract (l : List UInt8) (a b : Nat) : (txt l).extract a b = txt ((l.drop a).take (b - a)) := by
  rw [Lib.extract_eq]; rfl
theorem txt_toList (l : List UInt8) : (txt l).toList = l := by rw [Lib.toList_data]; rfl
theorem txt_beq (a b : List UInt8) : ((txt a).toList == (txt b).toList) = decide (a = b) := by
  rw [txt_toList, txt_toList]
  by_cases h : a = b <;> simp [h]

theorem cell_set_other {w : World} {p q : Addr} (v : Value) (h : q.block ≠ p.block) : (w.setCell p v).cell? q = w.cell? q := World.cell?_of_block (Below.heap_setCell w p v _ h)
theorem frozen_set_other {w : World} {p q : Addr} (v : Value) (h : q.block ≠ p.block) : (w.setCell p v).frozen? q = w.frozen? q := World.frozen?_of_block (Below.heap_setCell w p v _ h)

theorem ret_string {a b : ByteArray} (h : a = b) : Ending.returned (.string a) = .returned (.string b) := by rw [h]
theorem ret_int {k : IntKind} {a b : Int} (h : a = b) : Ending.returned (.int k a) = .returned (.int k b) := by rw [h]
theorem ret_bool {a b : Bool} (h : a = b) : Ending.returned (.bool a) = .returned (.bool b) := by rw [h]
theorem lt_of_heap {w : World} {g : Nat} {o : Obj} (h : w.heap[g]? = some o) : g < w.heap.size := (Array.getElem?_eq_some_iff.1 h).1
theorem drew2 (w : World) (p q : Nat) : ∃ r, (w.drewN p).drewN q = w.drewN r := ⟨p + q, by simp⟩

/-- An item's five cells. -/
def itc (x : It) : Nat → Value
  | 0 => .string (txt x.path)
  | 1 => .bool x.dir
  | 2 => .string (txt x.data)
  | 3 => .int .i64 x.mode
  | _ => .int .i64 x.time

/-- The five cells at a place are an item's. -/
def ItAt (w : World) (b o : Nat) (x : It) : Prop :=
  w.cell? ⟨b, o, none⟩ = some (.string (txt x.path)) ∧ w.cell? ⟨b, o + 1, none⟩ = some (.bool x.dir) ∧ w.cell? ⟨b, o + 2, none⟩ = some (.string (txt x.data)) ∧
  w.cell? ⟨b, o + 3, none⟩ = some (.int .i64 x.mode) ∧ w.cell? ⟨b, o + 4, none⟩ = some (.int .i64 x.time)

theorem ItAt.lt {w : World} {b o : Nat} {x : It} (h : ItAt w b o x) : b < w.heap.size := World.block_lt_of_cell? w _ h.1

theorem ItAt.of_block {w w' : World} {b o : Nat} {x : It} (h : ItAt w b o x) (hb : w'.heap[b]? = w.heap[b]?) : ItAt w' b o x :=
  ⟨(World.cell?_of_block hb).trans h.1, (World.cell?_of_block hb).trans h.2.1, (World.cell?_of_block hb).trans h.2.2.1, (World.cell?_of_block hb).trans h.2.2.2.1, (World.cell?_of_block hb).trans h.2.2.2.2⟩

theorem ItAt.below {w w' : World} {B b o : Nat} {x : It} (h : ItAt w b o x) (hb : Below B w w') (hlt : b < B) : ItAt w' b o x := h.of_block (hb.block b hlt)
theorem ItAt.drewN {w : World} {b o : Nat} {x : It} (h : ItAt w b o x) (q : Nat) : ItAt (w.drewN q) b o x := h.of_block (by simp)

/-- A slice of items, as a call reads it. -/
def ItsIn (w : World) (a : Option Addr) (l : List It) : Prop :=
  l ≠ [] → ∃ b off, a = some ⟨b, off, none⟩ ∧ ∀ k (x : It), l[k]? = some x → ItAt w b (off + k * 5) x

theorem ItsIn.below {w w' : World} {a : Option Addr} {l : List It} (h : ItsIn w a l) (hb : Below w.heap.size w w') : ItsIn w' a l := by
  intro hn
  obtain ⟨b, off, rfl, hc⟩ := h hn
  exact ⟨b, off, rfl, fun k x hk => (hc k x hk).below hb (hc k x hk).lt⟩
theorem ItsIn.drewN {w : World} {a : Option Addr} {l : List It} (h : ItsIn w a l) (q : Nat) : ItsIn (w.drewN q) a l := by
  intro hn
  obtain ⟨b, off, rfl, hc⟩ := h hn
  exact ⟨b, off, rfl, fun k x hk => (hc k x hk).drewN q⟩

end Go.Proofs.YtodmdkhdbfbfgaaDoor
