/-
  Bytes as a string: what a conversion gives, and that it loses nothing.
-/
import Derived.Test.YtcdjeibcnkpadaaDoorProg
import Derived.Test.YtcdjeibcnkpadaaDoorKit
namespace Go.Proofs.YtcdjeibcnkpadaaDoor
open Go.RowKit Dg

/-- A string's bytes. -/
def sb (s : ByteArray) : List Nat := s.data.toList.map UInt8.toNat
theorem sb_length (s : ByteArray) : (sb s).length = s.size := by
  unfold sb; rw [List.length_map, Array.length_toList]; rfl
/-- The string of bytes. -/
def bs (l : List Nat) : ByteArray := ⟨(l.map UInt8.ofNat).toArray⟩
theorem bs_size (l : List Nat) : (bs l).size = l.length := by simp [bs, ByteArray.size]
theorem sb_bs (l : List Nat) (h : ∀ x ∈ l, x < 256) : sb (bs l) = l := by
  simp only [sb, bs, List.map_map]
  conv => rhs; rw [← List.map_id l]
  apply List.map_congr_left
  intro x hx
  have := h x hx
  simp
  omega
theorem bs_sb (s : ByteArray) : bs (sb s) = s := by
  simp only [sb, bs, List.map_map]
  have : (UInt8.ofNat ∘ UInt8.toNat) = id := by funext x; simp
  rw [this, List.map_id]
theorem sb_byte (s : ByteArray) : ∀ x ∈ sb s, x < 256 := by
  intro x hx
  obtain ⟨y, _, rfl⟩ := List.mem_map.1 hx
  exact y.toNat_lt
theorem bs_inj {l m : List Nat} (hl : ∀ x ∈ l, x < 256) (hm : ∀ x ∈ m, x < 256) (h : bs l = bs m) : l = m := by
  rw [← sb_bs l hl, h, sb_bs m hm]

theorem bs_toList (l : List Nat) : (bs l).toList = l.map UInt8.ofNat := ByteArray.toList_mk _
theorem bs_eqb {l m : List Nat} (hl : ∀ x ∈ l, x < 256) (hm : ∀ x ∈ m, x < 256) : ((bs l).toList == (bs m).toList) = decide (l = m) := by
  by_cases e : l = m
  · subst e; simp
  · have : (bs l).toList ≠ (bs m).toList := fun h => e (bs_inj hl hm (by
      rw [bs_toList, bs_toList] at h
      unfold bs
      rw [h]))
    simp [e, this]

theorem fold_bs (l : List Nat) : ∀ s : ByteArray, (l.map (Int.ofNat)).foldl (fun r n => r.push (UInt8.ofNat n.toNat)) s = ⟨s.data ++ (l.map UInt8.ofNat).toArray⟩ := by
  induction l with
  | nil => intro s; simp
  | cons x l ih =>
    intro s
    rw [List.map_cons, List.foldl_cons, ih]
    simp [ByteArray.push]

theorem conv_rd (w : World) (A : Option Addr) (l : List Nat) (c : Nat) (h : Rd w A l) :
    (convert 131 9 (.slice A l.length c)).run Tryd.prog w = .ok (.string (bs l)) w := by
  rw [run_convert_bytes_string w 131 9 5 A l.length c Tryd.underlying131 Tryd.underlying5 Tryd.underlying9]
  rcases A with _ | a
  · have hl : l = [] := by
      rcases l with _ | ⟨x, l⟩
      · rfl
      · obtain ⟨b, off, e, _⟩ := h (by simp)
        cases e
    subst hl
    rfl
  · have hf := firstCells_rd (P := Tryd.prog) w (some a) l c h
    simp only [Builtin.firstCells, Nat.mul_one] at hf
    have hm : l.map bv = (l.map Int.ofNat).map (Value.int .u8) := by rw [List.map_map]; rfl
    rw [hm] at hf
    rw [run_bytesToString w a l.length c (l.map Int.ofNat) hf, fold_bs]
    simp [bs]
theorem conv_len (w : World) (A : Option Addr) (l : List Nat) (n c : Nat) (hn : l.length = n) (h : Rd w A l) :
    (convert 131 9 (.slice A n c)).run Tryd.prog w = .ok (.string (bs l)) w := by
  rw [← hn]; exact conv_rd w A l c h
/-- Bytes come back that a conversion turns into the string of l; kept in whatever comes behind. -/
def Str (W : World) (l : List Nat) (A : Option Addr) (n : Nat) (w' : World) : Prop := l.length = n ∧ Rd w' A l ∧ Below W.heap.size W w'
theorem Str.conv {W w' : World} {l : List Nat} {A : Option Addr} {n : Nat} (c : Nat) (h : Str W l A n w') : Sem.run Tryd.prog (convert 131 9 (.slice A n c)) w' = .ok (.string (bs l)) w' := conv_len w' A l n c h.1 h.2.1
theorem Str.later {W w' w2 : World} {l : List Nat} {A : Option Addr} {n : Nat} (h : Str W l A n w') (hb : Below w'.heap.size w' w2) : Str W l A n w2 := ⟨h.1, h.2.1.below hb, h.2.2.trans (hb.mono h.2.2.size)⟩
theorem bs_append (l m : List Nat) : bs (l ++ m) = bs l ++ bs m := by
  unfold bs
  rw [ByteArray.mk_append_mk, List.map_append]
end Go.Proofs.YtcdjeibcnkpadaaDoor
