/-
  The reader's methods, on a reader whose bytes and whose error are known.
-/
import Derived.Test.YtbbdmajlbofcmaaDoorLyGet
namespace Go.Proofs.YtbbdmajlbofcmaaDoor
open Go.RowKit Dg
set_option maxRecDepth 100000
theorem xor_i64 (a : Nat) (c : Int) (ha : a < 9223372036854775808) (hc : c = 0 ∨ c = -1) : bits .xor .i64 (a : Int) c = if c = 0 then (a : Int) else -(a : Int) - 1 := by
  have e1 : (BitVec.ofInt 64 (a : Int)).toNat = a := ofInt_u64 a (by omega)
  show IntKind.i64.wrap ((BitVec.ofInt 64 (a : Int) ^^^ BitVec.ofInt 64 c).toNat : Int) = _
  rcases hc with rfl | rfl
  · rw [BitVec.toNat_xor, e1, if_pos rfl]
    have : (BitVec.ofInt 64 0).toNat = 0 := by decide
    rw [this, Nat.xor_zero, IntKind.wrap_i64]
    omega
  · have : (BitVec.ofInt 64 (-1)) = BitVec.allOnes 64 := by decide
    rw [this, BitVec.xor_allOnes, BitVec.toNat_not, e1, if_neg (by omega), IntKind.wrap_i64]
    omega
theorem zag_bits (r : Nat) (h : r < 18446744073709551616) :
    bits .xor .i64 ((r : Int) / 2) (wrap64 (-wrap64 (bits .and .u64 (r : Int) 1))) = zag r := by
  have ha : bits .and .u64 (r : Int) 1 = ((r % 2 : Nat) : Int) := by
    have := u64_and_nat r 1 h (by omega)
    rw [Nat.and_one_is_mod] at this
    exact this
  have hd : (r : Int) / 2 = ((r / 2 : Nat) : Int) := by omega
  rw [ha, hd]
  have hw : wrap64 (-wrap64 ((r % 2 : Nat) : Int)) = if r % 2 = 0 then 0 else -1 := by
    unfold wrap64
    split <;> omega
  rw [hw, xor_i64 _ _ (by omega) (by split <;> simp)]
  unfold zag
  by_cases e : r % 2 = 0
  · rw [if_pos e, if_pos rfl, if_pos e]
  · rw [if_neg e, if_neg (by omega), if_neg e]
/-- The reader at block g has the bytes l left, and the error e. -/
def Rdr (w : World) (g : Nat) (l : List Nat) (e : Nat) : Prop :=
  ∃ A c, Has w g 79 #[.slice A l.length c, .int .i64 (e : Int)] ∧ l.length ≤ c ∧ Rd w A l
theorem rdr_cells (A : Option Addr) (n c : Nat) (e : Int) : ∀ (i x : Nat), (#[Value.slice A n c, .int .i64 e] : Array Value)[i]? ≠ some (bv x) := by
  intro i x h
  rcases i with _ | _ | i
  · simp [bv] at h
  · simp [bv] at h
  · simp at h
theorem Rd.turn {w w' : World} {A : Option Addr} {l : List Nat} {g : Nat} {t : TypeId} {cs : Array Value} (h : Rd w A l) (hg : w.grownBy w' (some g)) (hh : Has w g t cs) (hcs : ∀ (i x : Nat), cs[i]? ≠ some (bv x)) : Rd w' A l := fun hl => by
  obtain ⟨b, off, e, hc⟩ := h hl
  refine ⟨b, off, e, fun i hi => ?_⟩
  refine hg.cell (hc i hi) fun hb => ?_
  injection hb with hb
  have hx := hc i hi
  rw [show b = g from hb, hh.cell] at hx
  exact hcs _ _ hx
theorem grown_set (w : World) (g i : Nat) (u : Value) : w.grownBy (w.setCell ⟨g, i, none⟩ u) (some g) :=
  ⟨rfl, rfl, rfl, by rw [size_set]; exact Nat.le_refl _, fun k _ hne => Below.heap_setCell w _ u k (fun e => hne (by rw [e]))⟩
theorem grown_trans {a b c : World} {g : Nat} (h : a.grownBy b (some g)) (k : b.grownBy c (some g)) : a.grownBy c (some g) :=
  ⟨k.os.trans h.os, k.tape.trans h.tape, k.output.trans h.output, Nat.le_trans h.size k.size, fun i hi hne => (k.block i (Nat.lt_of_lt_of_le hi h.size) hne).trans (h.block i hi hne)⟩
theorem grown_refl (a : World) (g : Nat) : a.grownBy a (some g) := ⟨rfl, rfl, rfl, Nat.le_refl _, fun _ _ _ => rfl⟩

/-- What a method that goes on leaves: its value, the reader, and all else as it was. -/
def Step (w : World) (g : Nat) (v : Value) (l : List Nat) (e : Nat) (x : Ending) (w' : World) : Prop :=
  x = .returned v ∧ Rdr w' g l e ∧ w.grownBy w' (some g)

section
variable (g : Nat) (l : List Nat) (e : Nat) (w : World)
set_option maxHeartbeats 400000 in
theorem pass_err (k : Int) (r : Int) (h : Rdr w g l e) (he : e ≠ 0) :
    Calls Tryd.prog 107 #[.pointer (some ⟨g, 0, none⟩), .int .i64 k, .int .i64 r] w fun x w' => x = .returned (.bool false) ∧ w = w' := by
  obtain ⟨A, c, hh, hn, hr⟩ := h
  have c1 : w.cell? ⟨g, 1, none⟩ = some (.int .i64 e) := hh.cell 1
  have g1 : ((e : Int) == 0) = false := by simp; omega
  have g2 : ((e : Int) != 0) = true := by simp; omega
  have HE := Lib.hid he
  clear hh hr he
  go_enter Tryd.func107, Tryd.ntmps107
  go_wp2_with fail
  go_ret
  exact ⟨rfl, rfl⟩
set_option maxHeartbeats 400000 in
theorem pass_bad (k : Int) (r : Nat) (h : Rdr w g l 0) (he : r ≠ 0) :
    Calls Tryd.prog 107 #[.pointer (some ⟨g, 0, none⟩), .int .i64 k, .int .i64 r] w (Step w g (.bool false) l r) := by
  obtain ⟨A, c, hh, hn, hr⟩ := h
  have c1 : w.cell? ⟨g, 1, none⟩ = some (.int .i64 0) := hh.cell 1
  have f1 := hh.free 1
  have g2 : ((r : Int) != 0) = true := by simp; omega
  have HE := Lib.hid he
  have HH := Lib.hid hh
  have HR := Lib.hid hr
  clear hh hr he
  go_enter Tryd.func107, Tryd.ntmps107
  go_wp2_with fail
  go_ret
  exact ⟨rfl, ⟨A, c, HH.out.put 1 _, hn, HR.out.turn (grown_set w g 1 _) HH.out (rdr_cells _ _ _ _)⟩, grown_set w g 1 _⟩
set_option maxHeartbeats 400000 in
theorem pass_good (k : Nat) (h : Rdr w g l 0) (hk : k ≤ l.length) (hb : l.length ≤ 1000000) :
    Calls Tryd.prog 107 #[.pointer (some ⟨g, 0, none⟩), .int .i64 k, .int .i64 0] w (Step w g (.bool true) (l.drop k) 0) := by
  obtain ⟨A, c, hh, hn, hr⟩ := h
  have c0 : w.cell? ⟨g, 0, none⟩ = some (.slice A l.length c) := hh.cell 0
  have c1 : w.cell? ⟨g, 1, none⟩ = some (.int .i64 0) := hh.cell 1
  have f0 := hh.free 0
  have f1 := hh.free 1
  have HH := Lib.hid hh
  have HR := Lib.hid hr
  clear hh hr
  go_enter Tryd.func107, Tryd.ntmps107
  go_wp2_with fail
  all_goals
    go_ret
    have h1 : Has (w.setCell ⟨g, 1, none⟩ (.int .i64 0)) g 79 #[.slice A l.length c, .int .i64 0] := HH.out.put 1 (.int .i64 0)
    have r1 := HR.out.turn (grown_set w g 1 (.int .i64 0)) HH.out (rdr_cells _ _ _ _)
    refine ⟨rfl, ⟨_, _, (by rw [List.length_drop]; exact h1.put 0 _), (by rw [List.length_drop]; omega), ?_⟩, grown_trans (grown_set w g 1 (.int .i64 0)) (grown_set (w.setCell ⟨g, 1, none⟩ (.int .i64 0)) g 0 _)⟩
    refine Rd.turn ?_ (grown_set (w.setCell ⟨g, 1, none⟩ (.int .i64 0)) g 0 _) h1 (rdr_cells _ _ _ _)
    intro hl
    have hne : l ≠ [] := by rintro rfl; simp at hl
    have hlt : k < l.length := by
      rcases Nat.lt_or_ge k l.length with h | h
      · exact h
      · exact absurd (List.drop_eq_nil_of_le h) hl
    obtain ⟨b, off, rfl, hc⟩ := r1 hne
    first
      | (exfalso; omega)
      | (have r2 := Rd.drop r1 k hl
         rw [Option.map_some, Addr.add_lit]
         exact r2)

set_option maxHeartbeats 400000 in
theorem number_any (most : Nat) (h : Rdr w g l e) (hl : ∀ x ∈ l, x < 256) (hb : l.length ≤ 1000000) :
    Calls Tryd.prog 127 #[.pointer (some ⟨g, 0, none⟩), .int .u64 most] w (Step w g (.int .u64 ((numF most l e).1 : Int)) (numF most l e).2.1 (numF most l e).2.2) := by
  have H := Lib.hid h
  obtain ⟨A, c, hh, hn, hr⟩ := h
  have c0 : w.cell? ⟨g, 0, none⟩ = some (.slice A l.length c) := hh.cell 0
  have HR := Lib.hid hr
  have HH := head_any A l c most w hb hl hr
  have hle := head_len most 10 0 0 l
  obtain ⟨R, hR⟩ : ∃ R, R = headF most 10 0 0 l := ⟨_, rfl⟩
  have hnum : numF most l e = if e ≠ 0 then (0, l, e) else if R.2.2 ≠ 0 then (0, l, R.2.2) else (R.1, l.drop R.2.1, 0) := by rw [hR]; rfl
  rw [hnum]
  rw [← hR] at HH hle
  obtain ⟨r1, r2, r3⟩ := R
  simp only at hle hnum ⊢
  have HE := Lib.hid hnum
  have HHH := Lib.hid HH
  have HL := Lib.hid hle
  clear hh hr hR hnum HH hle hn
  by_cases he : e = 0
  · subst he
    by_cases h3 : r3 = 0
    · subst h3
      rw [if_neg (by simp), if_neg (by simp)]
      have hk : r2 ≤ l.length := by have := HL.out; omega
      go_enter Tryd.func127, Tryd.ntmps127
      go_wp2_with fail
      refine HHH.out.mono ?_
      rintro x w1 ⟨rfl, rfl⟩
      go_wp2_with fail
      refine (pass_good g l w r2 H.out hk hb).mono ?_
      rintro x w1 ⟨rfl, hd, hg⟩
      have HD := Lib.hid hd
      have HG := Lib.hid hg
      clear hd hg
      go_wp2_with fail
      go_ret
      exact ⟨rfl, HD.out, HG.out⟩
    · have HN := Lib.hid h3
      rw [if_neg (by simp), if_pos h3]
      clear h3
      go_enter Tryd.func127, Tryd.ntmps127
      go_wp2_with fail
      refine HHH.out.mono ?_
      rintro x w1 ⟨rfl, rfl⟩
      go_wp2_with fail
      refine (pass_bad g l w _ r3 H.out HN.out).mono ?_
      rintro x w1 ⟨rfl, hd, hg⟩
      have HD := Lib.hid hd
      have HG := Lib.hid hg
      clear hd hg
      go_wp2_with fail
      go_ret
      exact ⟨rfl, HD.out, HG.out⟩
  · have HN := Lib.hid he
    rw [if_pos he]
    clear he
    go_enter Tryd.func127, Tryd.ntmps127
    go_wp2_with fail
    refine HHH.out.mono ?_
    rintro x w1 ⟨rfl, rfl⟩
    go_wp2_with fail
    refine (pass_err g l e w _ _ H.out HN.out).mono ?_
    rintro x w1 ⟨rfl, rfl⟩
    go_wp2_with fail
    go_ret
    exact ⟨rfl, H.out, grown_refl _ _⟩

set_option maxHeartbeats 400000 in
theorem Signed_get (h : Rdr w g l e) (hl : ∀ x ∈ l, x < 256) (hb : l.length ≤ 1000000) :
    Calls Tryd.prog 109 #[.pointer (some ⟨g, 0, none⟩)] w (Step w g (.int .i64 (zag (numF 18446744073709551615 l e).1)) (numF 18446744073709551615 l e).2.1 (numF 18446744073709551615 l e).2.2) := by
  have hc := number_any g l e w 18446744073709551615 h hl hb
  have hle := numF_le 18446744073709551615 l e
  generalize numF 18446744073709551615 l e = R at *
  obtain ⟨r1, r2, r3⟩ := R
  simp only at hle hc ⊢
  have HC := Lib.hid hc
  clear hc h
  go_enter Tryd.func109, Tryd.ntmps109
  go_wp2_with fail
  refine HC.out.mono ?_
  rintro x w1 ⟨rfl, hd, hg⟩
  have HD := Lib.hid hd
  have HG := Lib.hid hg
  clear hd hg
  go_wp2_with fail
  rw [zag_bits r1 (by omega)]
  go_ret
  exact ⟨rfl, HD.out, HG.out⟩

set_option maxHeartbeats 400000 in
theorem Errno_get (h : Rdr w g l e) :
    Calls Tryd.prog 45 #[.pointer (some ⟨g, 0, none⟩)] w fun x w' => x = .returned (.int .i64 (e : Int)) ∧ w = w' := by
  obtain ⟨A, c, hh, hn, hr⟩ := h
  have c1 : w.cell? ⟨g, 1, none⟩ = some (.int .i64 e) := hh.cell 1
  clear hh hr
  go_enter Tryd.func45, Tryd.ntmps45
  go_wp2_with fail
  go_ret
  exact ⟨rfl, rfl⟩
def endF (l : List Nat) (e : Nat) : Nat := if e = 0 ∧ 0 < l.length then 2 else e
def byteF (l : List Nat) (e : Nat) : Nat × List Nat × Nat := if e ≠ 0 then (0, l, e) else match l with | [] => (0, [], 4) | x :: t => (x, t, 0)
theorem byteF_end : byteF [] 0 = (0, [], 4) := rfl
theorem byteF_go (x : Nat) (t : List Nat) : byteF (x :: t) 0 = (x, t, 0) := rfl
theorem byteF_err {e : Nat} (l : List Nat) (h : e ≠ 0) : byteF l e = (0, l, e) := by unfold byteF; rw [if_pos h]
set_option maxHeartbeats 400000 in
theorem Byte_end (h : Rdr w g [] 0) :
    Calls Tryd.prog 76 #[.pointer (some ⟨g, 0, none⟩)] w (Step w g (.int .i64 0) [] 4) := by
  have H := Lib.hid h
  obtain ⟨A, c, hh, hn, hr⟩ := h
  have c0 : w.cell? ⟨g, 0, none⟩ = some (.slice A 0 c) := hh.cell 0
  clear hh hr hn
  go_enter Tryd.func76, Tryd.ntmps76
  go_wp2_with fail
  refine (pass_bad g [] w _ 4 H.out (by omega)).mono ?_
  rintro x w1 ⟨rfl, hd, hg⟩
  have HD := Lib.hid hd
  have HG := Lib.hid hg
  clear hd hg
  go_wp2_with fail
  go_ret
  exact ⟨rfl, HD.out, HG.out⟩
set_option maxHeartbeats 400000 in
theorem Byte_go (y : Nat) (t : List Nat) (h : Rdr w g (y :: t) 0) (hy : y < 256) (hb : (y :: t).length ≤ 1000000) :
    Calls Tryd.prog 76 #[.pointer (some ⟨g, 0, none⟩)] w (Step w g (.int .i64 y) t 0) := by
  have H := Lib.hid h
  obtain ⟨A, c, hh, hn, hr⟩ := h
  have c0 : w.cell? ⟨g, 0, none⟩ = some (.slice A (y :: t).length c) := hh.cell 0
  have HR := Lib.hid hr
  have HH := Lib.hid hh
  obtain ⟨b, off, rfl, hx⟩ := hr (by simp)
  clear hx hr
  have hp : (((y :: t).length : Int) == 0) = false := by simp; omega
  have hp2 : 0 < (y :: t).length := by simp
  clear hh hn
  generalize hL : (y :: t).length = L at *
  have HL := Lib.hid hL
  clear hL
  go_enter Tryd.func76, Tryd.ntmps76
  go_wp2_with fail
  refine (pass_good g (y :: t) w 1 H.out (by simp) (by rw [HL.out]; exact hb)).mono ?_
  rintro x w1 ⟨rfl, hd, hg⟩
  have cy : w1.cell? ⟨b, off, none⟩ = some (.int .u8 y) := by
    obtain ⟨b', off', e', hc⟩ := (HR.out.turn hg HH.out (rdr_cells _ _ _ _)) (by simp)
    injection e' with e'
    injection e' with e1 e2
    subst e1; subst e2
    exact hc 0 (by simp)
  have HD := Lib.hid hd
  have HG := Lib.hid hg
  clear hd hg
  go_wp2_with fail
  go_ret
  exact ⟨rfl, HD.out, HG.out⟩
set_option maxHeartbeats 400000 in
theorem Byte_err (h : Rdr w g l e) (he : e ≠ 0) :
    Calls Tryd.prog 76 #[.pointer (some ⟨g, 0, none⟩)] w (Step w g (.int .i64 0) l e) := by
  have H := Lib.hid h
  obtain ⟨A, c, hh, hn, hr⟩ := h
  have c0 : w.cell? ⟨g, 0, none⟩ = some (.slice A l.length c) := hh.cell 0
  have HN := Lib.hid he
  clear hh hr hn he
  by_cases hp : l.length = 0
  all_goals
    have HP := Lib.hid hp
    first | (have hq : ((l.length : Int) == 0) = true := beq_iff_eq.2 (by omega)) | (have hq : ((l.length : Int) == 0) = false := beq_eq_false_iff_ne.2 (by omega))
    clear hp
    go_enter Tryd.func76, Tryd.ntmps76
    go_wp2_with fail
    refine (pass_err g l e w _ _ H.out HN.out).mono ?_
    rintro x w1 ⟨rfl, rfl⟩
    go_wp2_with fail
    go_ret
    exact ⟨rfl, H.out, grown_refl _ _⟩
theorem Byte_get (h : Rdr w g l e) (hl : ∀ x ∈ l, x < 256) (hb : l.length ≤ 1000000) :
    Calls Tryd.prog 76 #[.pointer (some ⟨g, 0, none⟩)] w (Step w g (.int .i64 (byteF l e).1) (byteF l e).2.1 (byteF l e).2.2) := by
  by_cases he : e = 0
  · subst he
    rcases l with _ | ⟨y, t⟩
    · exact Byte_end g w h
    · exact Byte_go g w y t h (hl y (by simp)) hb
  · rw [byteF_err l he]
    exact Byte_err g l e w h he
end
end Go.Proofs.YtbbdmajlbofcmaaDoor
