/-
  DiskOwns, walked.
-/
import Derived.Test.YtfjjmodeeeolkaaFew
import Derived.Laws.IdiomStrings
namespace Go.Proofs.Ytfjjmodeeeolkaa.diskOwns
open Go.RowKit Go.Maps Go.WideShapes Go.WideMaps
/-- A block known whole, of which one place may not be written. -/
def HasF (w : World) (g : Nat) (cs : Array Value) (fr : Nat × Nat) : Prop := w.heap[g]? = some (.cells cs 5 fr)
theorem HasF.lt {w : World} {g : Nat} {cs : Array Value} {fr : Nat × Nat} (h : HasF w g cs fr) : g < w.heap.size := (Array.getElem?_eq_some_iff.1 h).1
theorem HasF.cell {w : World} {g : Nat} {cs : Array Value} {fr : Nat × Nat} (h : HasF w g cs fr) (i : Nat) : w.cell? ⟨g, i, none⟩ = cs[i]? := cell_of_row w g i cs 5 fr h
theorem HasF.free {w : World} {g : Nat} {cs : Array Value} {fr : Nat × Nat} (h : HasF w g cs fr) {i : Nat} (hi : i < fr.1 ∨ fr.2 ≤ i) : w.frozen? ⟨g, i, none⟩ = false := by
  unfold HasF at h
  simp [World.frozen?, h]
  omega
theorem HasF.put {w : World} {g : Nat} {cs : Array Value} {fr : Nat × Nat} (h : HasF w g cs fr) (i : Nat) (u : Value) : HasF (w.setCell ⟨g, i, none⟩ u) g (cs.setIfInBounds i u) fr := by
  unfold HasF at h ⊢
  simp [World.setCell, Array.getElem?_modify, h]
theorem HasF.tur {X : List Nat} {w w' : World} {g : Nat} {cs : Array Value} {fr : Nat × Nat} (h : HasF w g cs fr) (ht : Tur X w w') (hg : g ∉ X) : HasF w' g cs fr := (ht.block g h.lt hg).trans h
theorem HasF.below {B : Nat} {w w' : World} {g : Nat} {cs : Array Value} {fr : Nat × Nat} (h : HasF w g cs fr) (hb : Below B w w') (hg : g < B) : HasF w' g cs fr := (hb.block g hg).trans h
/-- Its first n cells are bytes. -/
def Byt (cs : Array Value) (n : Nat) : Prop := ∀ i, i < n → ∃ z : Int, cs[i]? = some (.int .u8 z) ∧ 0 ≤ z ∧ z ≤ 255
theorem Byt.put {cs : Array Value} {n : Nat} (h : Byt cs n) (i : Nat) (z : Int) (hz : 0 ≤ z ∧ z ≤ 255) : Byt (cs.setIfInBounds i (.int .u8 z)) n := by
  intro j hj
  obtain ⟨y, hy, hy2⟩ := h j hj
  rw [Array.getElem?_setIfInBounds]
  split
  · rename_i e
    subst e
    have : i < cs.size := (Array.getElem?_eq_some_iff.1 hy).1
    rw [if_pos this]
    exact ⟨z, rfl, hz⟩
  · exact ⟨y, hy, hy2⟩
/-- A disk of which none of the blocks is y. -/
def DN (B d : Nat) (w : World) (S : Ds) (y : Nat) : Prop := ∃ X, DAt B d w S X ∧ B ≤ w.heap.size ∧ y ∉ X
section
variable {B d y : Nat} {w w' : World} {S : Ds}
theorem DN.dk (h : DN B d w S y) : DK B d w S := by obtain ⟨X, h, hB, _⟩ := h; exact ⟨X, h, hB⟩
theorem DN.set (h : DN B d w S y) (i : Nat) (u : Value) : DN B d (w.setCell ⟨y, i, none⟩ u) S y := by
  obtain ⟨X, h, hB, hy⟩ := h
  exact ⟨X, h.keep fun b hb => Below.heap_setCell w ⟨y, i, none⟩ u b (fun e => hy (by rw [show y = b from e.symm]; exact hb)), by simpa [World.setCell] using hB, hy⟩
theorem DN.new (h : DK B d w S) (hb : Below w.heap.size w w') (hy : w.heap.size ≤ y) : DN B d w' S y := by
  obtain ⟨X, h, hB⟩ := h
  exact ⟨X, h.below hb, Nat.le_trans hB hb.size, fun hx => by have := h.lt y hx; omega⟩
theorem create_dn (h : DN B d w S y) (hy : y < w.heap.size) (s : ByteArray) (hs : s.size ≤ 140737488355328) (hlen : S.fs.length ≤ 100000) :
    Calls Try.prog 14 #[.pointer (some ⟨d, 0, none⟩), .string s] w fun e w' => ∃ k : Nat, e = .returned (.int .i64 k) ∧ Hid (DN B d w' (createD S s).1 y) ∧ Hid (∃ X, y ∉ X ∧ Tur X w w') ∧ Hid (Below B w w') := by
  obtain ⟨X, h, hB, hx⟩ := h
  refine (create_any B d w S X h hB s hs hlen).mono fun e w' ⟨k, he, hk, ho⟩ => ?_
  have hb := (Out.dk h hB ho.out).2
  obtain ⟨X', h1, h2, h3⟩ := ho.out
  exact ⟨k, he, ⟨X', h1, Nat.le_trans hB h2.size, fun hh => (h3 y hh).elim hx (fun h4 => by omega)⟩, ⟨X, hx, h2⟩, hb⟩
theorem append_dn (h : DN B d w S y) (hy : y < w.heap.size) (s : ByteArray) (hs : s.size ≤ 140737488355328) (A : Option Addr) (b : List Nat) (n c : Nat) (hn : b.length = n) (hm : Rd w A b) (hA : A = none → c = 0) (hb : ∀ x ∈ b, x < 256) :
    Calls Try.prog 15 #[.pointer (some ⟨d, 0, none⟩), .string s, .slice A n c] w fun e w' => ∃ k : Nat, e = .returned (.int .i64 k) ∧ Hid (DN B d w' (appendD S s b).1 y) ∧ Hid (∃ X, y ∉ X ∧ Tur X w w') ∧ Hid (Below B w w') := by
  obtain ⟨X, h, hB, hx⟩ := h
  refine (append_any B d w S X h hB s hs A b n c hn hm hA hb).mono fun e w' ⟨k, he, hk, ho⟩ => ?_
  have hb := (Out.dk h hB ho.out).2
  obtain ⟨X', h1, h2, h3⟩ := ho.out
  exact ⟨k, he, ⟨X', h1, Nat.le_trans hB h2.size, fun hh => (h3 y hh).elim hx (fun h4 => by omega)⟩, ⟨X, hx, h2⟩, hb⟩
end
theorem ow1 (x : List Nat) (h : x.length ≤ 31) : appendD ⟨100, [⟨[97], [], 0⟩], -1, false⟩ sA x = (⟨100, [⟨[97], x, 0⟩], -1, false⟩, 0) := by
  unfold appendD
  have h1 : errs ⟨100, [⟨[97], [], 0⟩], -1, false⟩ sA [] = 0 := by rfl
  have h2 : ¬ freeD ⟨100, [⟨[97], [], 0⟩], -1, false⟩ < x.length := by show ¬ 100 - 0 < x.length; omega
  rw [if_pos h1, if_neg h2]
  rfl
theorem ow2 (x : List Nat) : readD ⟨100, [⟨[97], x, 0⟩], -1, false⟩ sA = (x, 0) := by rfl
theorem ow3 (x : List Nat) : freeD ⟨100, [⟨[97], x, 0⟩], -1, false⟩ = 100 - x.length := by
  unfold freeD
  show 100 - tot [⟨[97], x, 0⟩] = _
  rw [tot_cons]
  rfl
/-- What a conversion of bytes' text lays. -/
theorem row_new (w : World) (L : List Nat) (G : Nat) (hG : L.length ≤ G) (hL : ∀ x ∈ L, x < 256) :
    HasF (w.drew.alloc (.cells (bytesRow (bs L) G) 5 ((bytesRow (bs L) G).size, (bytesRow (bs L) G).size + 1))) w.heap.size (bytesRow (bs L) G) ((bytesRow (bs L) G).size, (bytesRow (bs L) G).size + 1) ∧
      (bytesRow (bs L) G).size = G ∧ Byt (bytesRow (bs L) G) L.length ∧ ∀ i (h : i < L.length), (bytesRow (bs L) G)[i]? = some (bv L[i]) := by
  have hat : ∀ i (h : i < L.length), (bytesRow (bs L) G)[i]? = some (bv L[i]) := by
    intro i h
    have hs : i < (bs L).data.size := by rw [show (bs L).data.size = (bs L).size from rfl, bs_size]; exact h
    rw [bytesRow_at _ _ _ hs]
    have h1 := hL _ (List.getElem_mem h)
    simp [bs, bv]
    omega
  refine ⟨heap_alloc_new w.drew _, ?_, fun i hi => ⟨(L[i] : Nat), hat i hi, ?_⟩, hat⟩
  · unfold bytesRow
    rw [Array.size_append, Array.size_map, Array.size_replicate, show (bs L).data.size = (bs L).size from rfl, bs_size]
    omega
  · have := hL _ (List.getElem_mem hi)
    omega
set_option maxHeartbeats 4000000 in
set_option maxRecDepth 100000 in
theorem walk (Aa : Option Addr) (na ca : Nat) (xa : List Nat) (w : World) (hla : xa.length = na) (hca : na ≤ ca) (hma : ca ≤ maxLen) (hba : ∀ x ∈ xa, x < 256) (hra : Rd w Aa xa) (_ : Aa = none → ca = 0) :
    Calls Try.prog 5 #[.slice Aa na ca] w fun e w' => e = .returned (.bool true) ∧ Below w.heap.size w w' := by
  have HRA := Lib.hid (few_rd hra)
  have HBA := Lib.hid (few_byte hba)
  have HLA : Hid ((few xa).length = fewN na) := by show _ = _; rw [few_len, hla]
  have hN := fewN_le na
  clear hra hba hla
  generalize few xa = fa at *
  go_enter Try.func5, Try.ntmps5
  go_wp2_with fail
  refine (newP_any w 100 (by omega)).mono ?_
  rintro e w1 ⟨rfl, hd, hb⟩
  have D := Lib.hid (⟨_, hd.out, hb.out.size⟩ : DK w.heap.size (w.heap.size + 1) w1 (newD 100))
  have HB := Lib.hid hb.out
  clear hd hb
  go_wp2_with fail
  refine (few_any Aa na ca w1 hca hma).mono ?_
  rintro e w1' ⟨rfl, rfl⟩
  generalize fewN na = fn at *
  have hcv1 : Sem.run Try.prog (convert 28 9 (.slice Aa fn ca)) w1' = .ok (.string (bs fa)) w1' := conv_len w1' Aa fa fn ca HLA.out (HRA.out.below HB.out)
  have hsz : (bs fa).size ≤ 30 := by rw [bs_size, HLA.out]; exact hN.2
  obtain ⟨L, hL⟩ : ∃ L, L = fa ++ [120] := ⟨_, rfl⟩
  have hcat : bs fa ++ ⟨#[120]⟩ = bs L := by rw [hL, bs_append]; rfl
  have HLL : Hid (L.length = fn + 1) := by show _ = _; rw [hL, List.length_append, HLA.out]; rfl
  have HLB : Hid (∀ x ∈ L, x < 256) := by
    intro x hx
    rw [hL] at hx
    rcases List.mem_append.1 hx with h | h
    · exact HBA.out x h
    · rw [List.mem_singleton.1 h]; decide
  have hLs : (bs L).size = fn + 1 := by rw [bs_size, HLL.out]
  have hrun := run_bytes_of_string (P := Try.prog) w1' 9 28 5 (bs L) Try.underlying9 Try.underlying28 Try.underlying5
  rw [hLs] at hrun
  have hge := grownCap_ge w1' (fn + 1) 0 5
  have HGM := Lib.hid (grownCap_le_maxLen w1' (fn + 1) 0 5 (by unfold maxLen; omega))
  generalize grownCap w1' (fn + 1) 0 5 = G at *
  have HR := Lib.hid (row_new w1' L G (by rw [HLL.out]; exact hge) HLB.out)
  have hb2 : Below w1'.heap.size w1' (w1'.drew.alloc (.cells (bytesRow (bs L) G) 5 ((bytesRow (bs L) G).size, (bytesRow (bs L) G).size + 1))) := ((Below.refl _ _).drew).alloc (Nat.le_refl _) _
  obtain ⟨W, hW⟩ : ∃ W, W = w1'.drew.alloc (.cells (bytesRow (bs L) G) 5 ((bytesRow (bs L) G).size, (bytesRow (bs L) G).size + 1)) := ⟨_, rfl⟩
  rw [← hW] at hrun HR hb2
  clear hW
  have HBW := Lib.hid hb2
  obtain ⟨c0, hgs, hby, hat⟩ := HR.out
  rw [hgs] at c0
  generalize bytesRow (bs L) G = cs at *
  clear HR
  have HC := Lib.hid c0
  have HCB := Lib.hid hby
  have HRL : Hid (Rd W (some ⟨w1'.heap.size, 0, none⟩) L) := fun _ => ⟨_, 0, rfl, fun i hi => by rw [Nat.zero_add, c0.cell]; exact hat i hi⟩
  have D1 := Lib.hid (DN.new (y := w1'.heap.size) D.out hb2 (Nat.le_refl _))
  have hcvW : Sem.run Try.prog (convert 28 9 (.slice (some ⟨w1'.heap.size, 0, none⟩) (fn + 1) G)) W = .ok (.string (bs L)) W := conv_len W _ L _ G HLL.out HRL.out
  have hobl := c0.lt
  have HBB := Lib.hid (HB.out.trans (hb2.mono HB.out.size))
  have hob : w.heap.size ≤ w1'.heap.size := HB.out.size
  clear c0 hby hat hb2 D HB hL
  generalize w1'.heap.size = ob at *
  go_wp2_with fail
  refine (create_dn D1.out hobl sA (by decide) (by decide)).mono ?_
  rintro e w2 ⟨k, rfl, D2, ht, hb⟩
  rw [ex1] at D2
  obtain ⟨X, hx, hT⟩ := ht.out
  replace HC := Lib.hid (HC.out.tur hT hx)
  have HB2 := Lib.hid (HBB.out.trans hb.out)
  have HRL2 : Hid (Rd w2 (some ⟨ob, 0, none⟩) L) := fun hl => by
    obtain ⟨b, off, e, hc⟩ := HRL.out hl
    injection e with e
    injection e with e1 e2
    subst e1; subst e2
    exact ⟨_, _, rfl, fun i hi => (World.cell?_of_block (w := W) (a := ⟨ob, 0 + i, none⟩) (hT.block ob hobl hx)).trans (hc i hi)⟩
  have hob2 := HC.out.lt
  clear ht hb hx hT D1 HBB HRL hobl X
  go_wp2_with fail
  refine (append_dn D2.out hob2 sA (by decide) (some ⟨ob, 0, none⟩) L (fn + 1) G HLL.out HRL2.out (fun e => by cases e) HLB.out).mono ?_
  rintro e w3 ⟨k, rfl, D3, ht, hb⟩
  rw [ow1 L (by rw [HLL.out]; omega)] at D3
  obtain ⟨X, hx, hT⟩ := ht.out
  replace HC := Lib.hid (HC.out.tur hT hx)
  have HB3 := Lib.hid (HB2.out.trans hb.out)
  clear ht hb hx hT D2 HB2 HRL2 hob2 X
  rw [HLL.out] at HCB
  have hgi : fn + 1 ≤ G := hge
  go_wp2_with fail
  go_loopw [6] (fun v wr => ∃ (k : Nat) (cs : Array Value), k ≤ fn + 1 ∧ v = .int .i64 k ∧ Hid (HasF wr ob cs (G, G + 1)) ∧ Hid (Byt cs (fn + 1)) ∧ Hid (DN w.heap.size (w.heap.size + 1) wr ⟨100, [⟨[97], L, 0⟩], -1, false⟩ ob) ∧ Hid (Below w.heap.size w wr)) (fun v _ => fn + 1 - (intOf v).toNat)
  case atStart => exact ⟨0, _, by omega, rfl, HC, HCB, D3, HB3⟩
  case round =>
    obtain ⟨k, cs, hk, rfl, HC, HCB, HD, HI⟩ := hrel
    by_cases hlt : k < fn + 1
    · obtain ⟨z, hz, hz0, hz1⟩ := HCB.out k hlt
      have c0 : wr.cell? ⟨ob, k, none⟩ = some (.int .u8 z) := (HC.out.cell k).trans hz
      have f0 : wr.frozen? ⟨ob, k, none⟩ = false := HC.out.free (by first | (left; show k < _; omega) | (right; exact Nat.zero_le _))
      clear hz
      go_wp2_with fail
      go_roundw
      case rel => exact ⟨k + 1, _, by omega, by go_num, HC.out.put k _, HCB.out.put k _ (by omega), HD.out.set k _, HI.out.setCell (p := ⟨ob, k, none⟩) (by first | exact hob | exact hgb) _⟩
      case measure => simp [intOf]; omega
    · obtain rfl : k = fn + 1 := by omega
      clear HC HCB
      go_wp2_with fail
      refine (read_dk HD.out.dk sA (by decide)).mono ?_
      rintro e w4 ⟨A7, n7, c7, k7, rfl, hk, hn, ho, hr, hb⟩
      rw [ow2] at hk hn ho hr
      obtain rfl : k7 = 0 := hk.out
      obtain rfl : n7 = fn + 1 := hn.out.symm.trans HLL.out
      have HI4 := Lib.hid (HI.out.trans (hb.out.mono HI.out.size))
      obtain ⟨g, rfl, hgw, cur, hC4, hCB4⟩ : ∃ g, A7 = some ⟨g, 0, none⟩ ∧ wr.heap.size ≤ g ∧ ∃ cur, HasF w4 g cur (0, 0) ∧ Byt cur (fn + 1) := by
        rcases ho.out.1.2 with ⟨h1, h2⟩ | ⟨g, cap, cur, h1, h2, h3, h4, h5, h6, h7⟩
        · rw [HLL.out] at h2; omega
        · injection h1 with h1
          refine ⟨g, h1, h2, cur, h3, fun i hi => ?_⟩
          have hil : i < L.length := by rw [HLL.out]; exact hi
          have e1 : (L.map bv)[i]? = some (bv L[i]) := by simp [hil]
          rw [← h7, List.getElem?_take, if_pos (by omega)] at e1
          have h8 := HLB.out _ (List.getElem_mem hil)
          exact ⟨(L[i] : Nat), by simpa [bv] using e1, by omega, by omega⟩
      have HC5 := Lib.hid hC4
      have HCB5 := Lib.hid hCB4
      have D4 := Lib.hid (DN.new (y := g) HD.out.dk hb.out hgw)
      have hgb : w.heap.size ≤ g := Nat.le_trans HI.out.size hgw
      clear hk hn ho hr hb HD HI hC4 hCB4
      go_wp2_with fail
      go_loopw [9] (fun v wr => ∃ (k : Nat) (cs : Array Value), k ≤ fn + 1 ∧ v = .int .i64 k ∧ Hid (HasF wr g cs (0, 0)) ∧ Hid (Byt cs (fn + 1)) ∧ Hid (DN w.heap.size (w.heap.size + 1) wr ⟨100, [⟨[97], L, 0⟩], -1, false⟩ g) ∧ Hid (Below w.heap.size w wr)) (fun v _ => fn + 1 - (intOf v).toNat)
      case atStart => exact ⟨0, _, by omega, rfl, HC5, HCB5, D4, HI4⟩
      case round =>
        obtain ⟨k, cs, hk, rfl, HC, HCB, HD, HI⟩ := hrel
        by_cases hlt : k < fn + 1
        · obtain ⟨z, hz, hz0, hz1⟩ := HCB.out k hlt
          have c0 : wr.cell? ⟨g, k, none⟩ = some (.int .u8 z) := (HC.out.cell k).trans hz
          have f0 : wr.frozen? ⟨g, k, none⟩ = false := HC.out.free (by first | (left; show k < _; omega) | (right; exact Nat.zero_le _))
          clear hz
          go_wp2_with fail
          go_roundw
          case rel => exact ⟨k + 1, _, by omega, by go_num, HC.out.put k _, HCB.out.put k _ (by omega), HD.out.set k _, HI.out.setCell (p := ⟨g, k, none⟩) (by first | exact hob | exact hgb) _⟩
          case measure => simp [intOf]; omega
        · obtain rfl : k = fn + 1 := by omega
          clear HC HCB
          go_wp2_with fail
          refine (read_dk HD.out.dk sA (by decide)).mono ?_
          rintro e w5 ⟨A9, n9, c9, k9, rfl, hk, hn, _, hr, hb⟩
          rw [ow2] at hk hn hr
          obtain rfl : k9 = 0 := hk.out
          have HI5 := Lib.hid (HI.out.trans (hb.out.mono HI.out.size))
          have D5 := Lib.hid (HD.out.dk.below hb.out)
          have hcv9 : Sem.run Try.prog (convert 28 9 (.slice A9 n9 c9)) w5 = .ok (.string (bs L)) w5 := conv_len w5 A9 L n9 c9 hn.out hr.out
          have HFR := Lib.hid (free_dk D5.out)
          have hfree : ((100 - (fn + 1) : Nat) : Int) = 100 - ((fn : Int) + 1) := by omega
          rw [ow3, HLL.out, hfree] at HFR
          have hfn0 : (0 : Int) ≤ 100 - ((fn : Int) + 1) := by omega
          clear hk hn hr hb HD HI hfree
          go_wp2_with fail
          refine HFR.out.mono ?_
          rintro e w6 ⟨rfl, hb⟩
          have HI6 := Lib.hid (HI5.out.trans (hb.out.mono HI5.out.size))
          clear hb HFR D5
          go_wp2_with fail
          refine (lives_any w6).mono ?_
          rintro e w7 ⟨rfl, hb⟩
          have HI7 := Lib.hid (HI6.out.trans (hb.out.mono HI6.out.size))
          clear hb
          go_wp2_with fail
          go_ret
          exact ⟨rfl, HI7.out⟩
end Go.Proofs.Ytfjjmodeeeolkaa.diskOwns
