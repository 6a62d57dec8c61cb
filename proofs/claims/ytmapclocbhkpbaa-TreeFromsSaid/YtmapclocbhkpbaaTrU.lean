/-
  A tree as it is handed about: New, Put, Get, Len, Height.
-/
import Derived.Test.YtmapclocbhkpbaaTrQ
import Derived.Test.YtmapclocbhkpbaaTrR
namespace Go.Proofs.Ytmapclocbhkpbaa
open Go.RowKit Go.Maps Dg
set_option linter.unusedVariables false
set_option maxHeartbeats 2000000 in
set_option maxRecDepth 100000 in
theorem single_any (w : World) (key : ByteArray) (v : Int) (hk : key.size ≤ 140737488355328) :
    Calls Try.prog 29 #[.string key, .int .i64 v] w fun e w' => ∃ (b : Nat) (lo le : Int), e = .returned (.pointer (some ⟨b, 0, none⟩)) ∧ IsTr w'.heap.size w' (.node b .nil key v lo le .nil) ∧ Below w.heap.size w w' := by
  go_enter Try.func29, Try.ntmps29
  go_wp2_with fail
  refine (lot_any w key hk).mono ?_
  rintro e w1 ⟨⟨lo, rfl⟩, rfl⟩
  have hh := Has.new w1 57 #[.string key, .int .i64 v, .pointer none, .pointer none, .int .i64 0, .int .i64 0, .int .i64 lo, .int .i64 0]
  have HA := Lib.hid (atop_any (n := 0) .nil .nil w1.heap.size key v lo _ trivial trivial (by decide) (by decide) (by decide) (hh.cell 0) (hh.cell 1) (hh.cell 6))
  have hb0 : Below w1.heap.size w1 (w1.alloc (.cells #[.string key, .int .i64 v, .pointer none, .pointer none, .int .i64 0, .int .i64 0, .int .i64 lo, .int .i64 0] 57)) := (Below.refl _ w1).alloc (Nat.le_refl _) _
  clear hh
  go_wp2_with fail
  refine HA.out.mono ?_
  rintro e w2 ⟨rfl, ⟨le, h2⟩, b2, s2⟩
  rw [World.size_alloc] at h2 s2
  have HF : Hid (∃ (b : Nat) (lo le : Int), Ending.returned (.pointer (some ⟨w1.heap.size + 1, 0, none⟩)) = .returned (.pointer (some ⟨b, 0, none⟩)) ∧ IsTr w2.heap.size w2 (.node b .nil key v lo le .nil) ∧ Below w1.heap.size w1 w2) :=
    ⟨_, lo, le, rfl, ⟨by omega, h2, trivial, trivial⟩, hb0.trans (b2.mono hb0.size)⟩
  clear h2 b2 s2 HA hb0
  go_wp2_with fail
  go_ret
  exact HF.out
theorem IsTr.far {n tb : Nat} {w : World} {cs : Array Value} (ht : Has w tb 49 cs) (u : Value) : ∀ {T : Tr}, IsTr n w T → IsTr n (w.setCell ⟨tb, 0, none⟩ u) T
  | .nil, _ => trivial
  | .node b l k v lo le r, ⟨h1, h2, h3, h4⟩ => by
    refine ⟨h1, h2.far (p := ⟨tb, 0, none⟩) (fun e => ?_) u, IsTr.far ht u h3, IsTr.far ht u h4⟩
    have e2 : b = tb := e
    subst e2
    unfold Has at h2 ht
    rw [ht] at h2
    injection h2 with h2
    injection h2 with h2 h3
    exact absurd h3 (by decide)
/-- A tree, handed about. -/
structure TrAt (tb : Nat) (w : World) (T : Tr) : Prop where
  top : Has w tb 49 #[.pointer T.ptr]
  tr : IsTr w.heap.size w T
  bal : Bal T
  ris : Rises T.con
theorem TrAt.below {tb : Nat} {w w' : World} {T : Tr} (h : TrAt tb w T) (hb : Below w.heap.size w w') : TrAt tb w' T := ⟨h.top.below hb h.top.lt, (h.tr.below hb).mono hb.size, h.bal, h.ris⟩
theorem tnew_any (w : World) : Calls Try.prog 7 #[] w fun e w' => e = .returned (.pointer (some ⟨w.heap.size, 0, none⟩)) ∧ TrAt w.heap.size w' .nil ∧ Below w.heap.size w w' := by
  have h : TrAt w.heap.size (w.alloc (.cells #[.pointer none] 49)) .nil := ⟨Has.new w _ _, trivial, trivial, trivial⟩
  have H := Lib.hid h
  have hb : Below w.heap.size w (w.alloc (.cells #[.pointer none] 49)) := (Below.refl _ w).alloc (Nat.le_refl _) _
  have HB := Lib.hid hb
  clear h hb
  go_enter Try.func7, Try.ntmps7
  go_wp2_with fail
  go_ret
  exact ⟨rfl, H.out, HB.out⟩
theorem len_any {tb : Nat} {w : World} {T : Tr} (h : TrAt tb w T) : Calls Try.prog 17 #[.pointer (some ⟨tb, 0, none⟩)] w fun e w' => e = .returned (.int .i64 (T.con.length : Int)) ∧ w' = w := by
  have c : w.cell? ⟨tb, 0, none⟩ = some (.pointer T.ptr) := h.top.cell 0
  have HS := Lib.hid (size_any T h.tr)
  rw [con_len]
  clear h
  go_enter Try.func17, Try.ntmps17
  go_wp2_with fail
  refine HS.out.mono ?_
  rintro e w1 ⟨rfl, rfl⟩
  go_wp2_with fail
  go_ret
  exact ⟨rfl, rfl⟩
theorem hgt_any {tb : Nat} {w : World} {T : Tr} (h : TrAt tb w T) : Calls Try.prog 24 #[.pointer (some ⟨tb, 0, none⟩)] w fun e w' => e = .returned (.int .i64 (T.ht : Int)) ∧ w' = w := by
  have c : w.cell? ⟨tb, 0, none⟩ = some (.pointer T.ptr) := h.top.cell 0
  have HS := Lib.hid (height_any T h.tr)
  clear h
  go_enter Try.func24, Try.ntmps24
  go_wp2_with fail
  refine HS.out.mono ?_
  rintro e w1 ⟨rfl, rfl⟩
  go_wp2_with fail
  go_ret
  exact ⟨rfl, rfl⟩
theorem find_at {n : Nat} {w : World} (key : ByteArray) : ∀ {T : Tr}, IsTr n w T → ∀ x, T.find key = some x → w.cell? ⟨x.b, 1, none⟩ = some (.int .i64 x.v)
  | .nil, _, x, hx => by cases hx
  | .node b l k v lo le r, ⟨h1, h2, h3, h4⟩, x, hx => by
    unfold Tr.find at hx
    split at hx
    · injection hx with hx
      subst hx
      exact h2.cell 1
    · split at hx
      · exact find_at key h3 x hx
      · exact find_at key h4 x hx
set_option maxHeartbeats 2000000 in
theorem get_any {tb : Nat} {w : World} {T : Tr} (h : TrAt tb w T) (key : ByteArray) : Calls Try.prog 21 #[.pointer (some ⟨tb, 0, none⟩), .string key] w fun e w' => e = .returned (.tuple #[.int .i64 ((getL key T.con).getD 0), .bool (getL key T.con).isSome]) ∧ w' = w := by
  have c : w.cell? ⟨tb, 0, none⟩ = some (.pointer T.ptr) := h.top.cell 0
  have HS := Lib.hid (find_any T h.tr key)
  have hg := find_get key T h.ris
  have hat := find_at key h.tr
  rw [← hg]
  clear h hg
  cases hf : T.find key with
  | none =>
    rw [hf] at HS
    go_enter Try.func21, Try.ntmps21
    go_wp2_with fail
    refine HS.out.mono ?_
    rintro e w1 ⟨rfl, rfl⟩
    have hp : ndPtr none = .pointer none := rfl
    rw [hp]
    go_wp2_with fail
    go_ret2
    exact ⟨rfl, rfl⟩
  | some x =>
    rw [hf] at HS
    have cx := hat x hf
    clear hat
    go_enter Try.func21, Try.ntmps21
    go_wp2_with fail
    refine HS.out.mono ?_
    rintro e w1 ⟨rfl, rfl⟩
    have hp : ndPtr (some x) = .pointer (some ⟨x.b, 0, none⟩) := rfl
    rw [hp]
    go_wp2_with fail
    go_ret2
    exact ⟨rfl, rfl⟩
/-- Keys and things, told as a tree's. -/
def hadL (k : ByteArray) (l : List (ByteArray × Int)) : Bool := (getL k l).isSome
set_option maxHeartbeats 4000000 in
set_option maxRecDepth 100000 in
theorem tput_any {tb : Nat} {w : World} {T : Tr} (h : TrAt tb w T) (hz : T.con.length ≤ 90000) (key : ByteArray) (hk : key.size ≤ 140737488355328) (v : Int) :
    Calls Try.prog 14 #[.pointer (some ⟨tb, 0, none⟩), .string key, .int .i64 v] w fun e w' => e = .returned (.bool (hadL key T.con)) ∧ ∃ T', TrAt tb w' T' ∧ T'.con = putL key v T.con ∧ Tur [tb] w w' := by
  have c : w.cell? ⟨tb, 0, none⟩ = some (.pointer T.ptr) := h.top.cell 0
  have HS := Lib.hid (find_any T h.tr key)
  have hfd : hadL key T.con = (T.find key).isSome := by
    unfold hadL
    rw [← find_get key T h.ris]
    cases T.find key <;> rfl
  rw [con_len] at hz
  have H := Lib.hid h
  have hB0 : Below w.heap.size w w.drew := (Below.refl _ w).drew
  have HSG := Lib.hid (single_any w.drew key v hk)
  clear h
  rw [hfd]
  obtain ⟨q, hq⟩ : ∃ q, Hid (q = T.find key) := ⟨_, rfl⟩
  rw [← hq.out]
  rw [← hq.out] at HS
  clear hfd
  cases q with
  | none =>
    go_enter Try.func14, Try.ntmps14
    go_wp2_with fail
    refine HS.out.mono ?_
    rintro e w1 ⟨rfl, rfl⟩
    rw [show ndPtr none = .pointer none from rfl]
    go_wp2_with fail
    refine wp_region_held_drew (S := fun X => True) (by kernel_rfl) trivial (fun _ => ?_)
    (refine wpAnyH_take (i := 0) (v := ?_) rfl (by kernel_rfl) (by kernel_rfl) (by kernel_rfl) (fun _ _ _ h => h) (Or.inl ⟨by rfl, ?_⟩) (by assumption) ?_; rotate_left; (intro w hSw; (try dsimp only at hSw); go_simp; try with_reducible rfl); ((try simp only [List.getElem_toArray]); (try simp only [List.getElem_cons_succ]); (try simp only [List.getElem_cons_zero]); (try simp only [Act.put]); (try simp only [List.setIfInBounds_toArray]); (try simp only [List.set_cons_succ]); (try simp only [List.set_cons_zero])))
    (refine wpAnyH_take (i := 1) (v := ?_) rfl (by kernel_rfl) (by kernel_rfl) (by kernel_rfl) (fun _ _ _ h => h) (Or.inl ⟨by rfl, ?_⟩) (by assumption) ?_; rotate_left; (intro w hSw; (try dsimp only at hSw); go_simp; try with_reducible rfl); ((try simp only [List.getElem_toArray]); (try simp only [List.getElem_cons_succ]); (try simp only [List.getElem_cons_zero]); (try simp only [Act.put]); (try simp only [List.setIfInBounds_toArray]); (try simp only [List.set_cons_succ]); (try simp only [List.set_cons_zero])))
    (refine wpAnyH_take (i := 2) (v := ?_) rfl (by kernel_rfl) (by kernel_rfl) (by kernel_rfl) (fun _ _ _ h => h) (Or.inl ⟨by rfl, ?_⟩) (by assumption) ?_; rotate_left; (intro w hSw; (try dsimp only at hSw); go_simp; try with_reducible rfl); ((try simp only [List.getElem_toArray]); (try simp only [List.getElem_cons_succ]); (try simp only [List.getElem_cons_zero]); (try simp only [Act.put]); (try simp only [List.setIfInBounds_toArray]); (try simp only [List.set_cons_succ]); (try simp only [List.set_cons_zero])))
    (refine wpAnyH_take (i := 3) (v := ?_) rfl (by kernel_rfl) (by kernel_rfl) (by kernel_rfl) (fun _ _ _ h => h) (Or.inl ⟨by rfl, ?_⟩) (by assumption) ?_; rotate_left; (intro w hSw; (try dsimp only at hSw); go_simp; try with_reducible rfl); ((try simp only [List.getElem_toArray]); (try simp only [List.getElem_cons_succ]); (try simp only [List.getElem_cons_zero]); (try simp only [Act.put]); (try simp only [List.setIfInBounds_toArray]); (try simp only [List.set_cons_succ]); (try simp only [List.set_cons_zero])))
    (refine wpAnyH_take (i := 5) (v := ?_) rfl (by kernel_rfl) (by kernel_rfl) (by kernel_rfl) (fun _ _ _ h => h) (Or.inl ⟨by rfl, ?_⟩) (by assumption) ?_; rotate_left; (intro w hSw; (try dsimp only at hSw); go_simp; try with_reducible rfl); ((try simp only [List.getElem_toArray]); (try simp only [List.getElem_cons_succ]); (try simp only [List.getElem_cons_zero]); (try simp only [Act.put]); (try simp only [List.setIfInBounds_toArray]); (try simp only [List.set_cons_succ]); (try simp only [List.set_cons_zero])))
    (refine wpAnyH_take (i := 6) (v := ?_) rfl (by kernel_rfl) (by kernel_rfl) (by kernel_rfl) (fun _ _ _ h => h) (Or.inl ⟨by rfl, ?_⟩) (by assumption) ?_; rotate_left; (intro w hSw; (try dsimp only at hSw); go_simp; try with_reducible rfl); ((try simp only [List.getElem_toArray]); (try simp only [List.getElem_cons_succ]); (try simp only [List.getElem_cons_zero]); (try simp only [Act.put]); (try simp only [List.setIfInBounds_toArray]); (try simp only [List.set_cons_succ]); (try simp only [List.set_cons_zero])))
    refine wpAnyH_ready (rs := [4, 7]) (by kernel_rfl) (by simp) ?_
    refine AllReadyH.cons rfl (fun K2 hK2 => ?_) (AllReadyH.cons rfl (fun K2 hK2 => ?_) AllReadyH.nil)
    · go_simp
      refine hK2.out _ _ (by exact trivial) (fun hq => ?_)
      clear hK2 K2
      ((try simp only [List.getElem_toArray]); (try simp only [List.getElem_cons_succ]); (try simp only [List.getElem_cons_zero]); (try simp only [Act.put]); (try simp only [List.setIfInBounds_toArray]); (try simp only [List.set_cons_succ]); (try simp only [List.set_cons_zero]))
      refine wpAnyH_ready (rs := [7]) (by kernel_rfl) (by simp) ?_
      refine AllReadyH.cons rfl (fun K2 hK2 => ?_) AllReadyH.nil
      go_simp
      refine HSG.out.mono ?_
      rintro e w2 ⟨b, lo, le, rfl, i2, b2⟩
      have B2 : Below w1.heap.size w1 w2 := hB0.trans b2
      have c2 : w2.cell? ⟨tb, 0, none⟩ = some (.pointer T.ptr) := (B2.cell (p := ⟨tb, 0, none⟩) (World.block_lt_of_cell? w1 _ c)).trans c
      have TW := Lib.hid ((H.out.tr.below B2).mono B2.size)
      have I2 := Lib.hid i2
      have HB2 := Lib.hid B2
      clear i2 b2 B2
      go_wp2_with fail
      refine hK2.out _ _ (by exact trivial) (fun hq => ?_)
      clear hK2 K2
      ((try simp only [List.getElem_toArray]); (try simp only [List.getElem_cons_succ]); (try simp only [List.getElem_cons_zero]); (try simp only [Act.put]); (try simp only [List.setIfInBounds_toArray]); (try simp only [List.set_cons_succ]); (try simp only [List.set_cons_zero]))
      refine wpAnyH_ready (rs := [8]) (by kernel_rfl) (by simp) ?_
      refine AllReadyH.cons rfl (fun K2 hK2 => ?_) AllReadyH.nil
      go_simp
      refine (put_any T w2.heap.size w2 ⟨b, key, v⟩ lo le TW.out (Nat.le_refl _) I2.out H.out.bal H.out.ris hz).mono ?_
      rintro e w3 ⟨T', rfl, i3, con3, bal3, b3⟩
      have c3 : w3.cell? ⟨tb, 0, none⟩ = some (.pointer T.ptr) := (b3.cell (p := ⟨tb, 0, none⟩) (World.block_lt_of_cell? w2 _ c2)).trans c2
      have B3 : Below w1.heap.size w1 w3 := HB2.out.trans (b3.mono HB2.out.size)
      have ht3 : Has w3 tb 49 #[.pointer T.ptr] := H.out.top.below B3 H.out.top.lt
      have f3 : w3.frozen? ⟨tb, 0, none⟩ = false := ht3.free 0
      have hput : Has (w3.setCell ⟨tb, 0, none⟩ (.pointer T'.ptr)) tb 49 #[.pointer T'.ptr] := ht3.put 0 _
      have i4 := IsTr.far ht3 (.pointer T'.ptr) i3
      have hfin2 : ∃ T2, TrAt tb (w3.setCell ⟨tb, 0, none⟩ (.pointer T'.ptr)) T2 ∧ T2.con = putL key v T.con ∧ Tur [tb] w1 (w3.setCell ⟨tb, 0, none⟩ (.pointer T'.ptr)) :=
        ⟨T', ⟨hput, by rw [size_set]; exact i4, bal3, by rw [con3]; exact putL_rises H.out.ris⟩, con3, (Tur.of_below B3).trans (Tur.setCell w3 (p := ⟨tb, 0, none⟩) (by simp) _) (Fre.refl _ _)⟩
      have HFIN := Lib.hid hfin2
      clear hfin2 hput i4 ht3 i3 b3 B3
      go_wp2_with fail
      refine hK2.out _ _ (by exact trivial) (fun hq => ?_)
      clear hK2 K2
      ((try simp only [List.getElem_toArray]); (try simp only [List.getElem_cons_succ]); (try simp only [List.getElem_cons_zero]); (try simp only [Act.put]); (try simp only [List.setIfInBounds_toArray]); (try simp only [List.set_cons_succ]); (try simp only [List.set_cons_zero]))
      (refine wpAnyH_take (i := 9) (v := ?_) rfl (by kernel_rfl) (by kernel_rfl) (by kernel_rfl) (fun _ _ _ h => h) (Or.inl ⟨by rfl, ?_⟩) (by assumption) ?_; rotate_left; (intro w hSw; (try dsimp only at hSw); go_simp; try with_reducible rfl); ((try simp only [List.getElem_toArray]); (try simp only [List.getElem_cons_succ]); (try simp only [List.getElem_cons_zero]); (try simp only [Act.put]); (try simp only [List.setIfInBounds_toArray]); (try simp only [List.set_cons_succ]); (try simp only [List.set_cons_zero])))
      (refine wpAnyH_take (i := 10) (v := ?_) rfl (by kernel_rfl) (by kernel_rfl) (by kernel_rfl) (fun _ _ _ h => h) (Or.inl ⟨by rfl, ?_⟩) (by assumption) ?_; rotate_left; (intro w hSw; (try dsimp only at hSw); go_simp; try with_reducible rfl); ((try simp only [List.getElem_toArray]); (try simp only [List.getElem_cons_succ]); (try simp only [List.getElem_cons_zero]); (try simp only [Act.put]); (try simp only [List.setIfInBounds_toArray]); (try simp only [List.set_cons_succ]); (try simp only [List.set_cons_zero])))
      refine wpAnyH_ready (rs := [11]) (by kernel_rfl) (by simp) ?_
      refine AllReadyH.cons rfl (fun K2 hK2 => ?_) AllReadyH.nil
      go_simp
      refine hK2.out _ _ (by exact trivial) (fun hq => ?_)
      clear hK2 K2
      ((try simp only [List.getElem_toArray]); (try simp only [List.getElem_cons_succ]); (try simp only [List.getElem_cons_zero]); (try simp only [Act.put]); (try simp only [List.setIfInBounds_toArray]); (try simp only [List.set_cons_succ]); (try simp only [List.set_cons_zero]))
      refine wpAnyH_done (by kernel_rfl) ?_ _
      go_wp2_with fail
      go_ret
      exact ⟨rfl, HFIN.out⟩
    · go_simp
      refine HSG.out.mono ?_
      rintro e w2 ⟨b, lo, le, rfl, i2, b2⟩
      have B2 : Below w1.heap.size w1 w2 := hB0.trans b2
      have c2 : w2.cell? ⟨tb, 0, none⟩ = some (.pointer T.ptr) := (B2.cell (p := ⟨tb, 0, none⟩) (World.block_lt_of_cell? w1 _ c)).trans c
      have TW := Lib.hid ((H.out.tr.below B2).mono B2.size)
      have I2 := Lib.hid i2
      have HB2 := Lib.hid B2
      clear i2 b2 B2
      go_wp2_with fail
      refine hK2.out _ _ (by exact trivial) (fun hq => ?_)
      clear hK2 K2
      ((try simp only [List.getElem_toArray]); (try simp only [List.getElem_cons_succ]); (try simp only [List.getElem_cons_zero]); (try simp only [Act.put]); (try simp only [List.setIfInBounds_toArray]); (try simp only [List.set_cons_succ]); (try simp only [List.set_cons_zero]))
      refine wpAnyH_ready (rs := [4]) (by kernel_rfl) (by simp) ?_
      refine AllReadyH.cons rfl (fun K2 hK2 => ?_) AllReadyH.nil
      go_simp
      refine hK2.out _ _ (by exact trivial) (fun hq => ?_)
      clear hK2 K2
      ((try simp only [List.getElem_toArray]); (try simp only [List.getElem_cons_succ]); (try simp only [List.getElem_cons_zero]); (try simp only [Act.put]); (try simp only [List.setIfInBounds_toArray]); (try simp only [List.set_cons_succ]); (try simp only [List.set_cons_zero]))
      refine wpAnyH_ready (rs := [8]) (by kernel_rfl) (by simp) ?_
      refine AllReadyH.cons rfl (fun K2 hK2 => ?_) AllReadyH.nil
      go_simp
      refine (put_any T w2.heap.size w2 ⟨b, key, v⟩ lo le TW.out (Nat.le_refl _) I2.out H.out.bal H.out.ris hz).mono ?_
      rintro e w3 ⟨T', rfl, i3, con3, bal3, b3⟩
      have c3 : w3.cell? ⟨tb, 0, none⟩ = some (.pointer T.ptr) := (b3.cell (p := ⟨tb, 0, none⟩) (World.block_lt_of_cell? w2 _ c2)).trans c2
      have B3 : Below w1.heap.size w1 w3 := HB2.out.trans (b3.mono HB2.out.size)
      have ht3 : Has w3 tb 49 #[.pointer T.ptr] := H.out.top.below B3 H.out.top.lt
      have f3 : w3.frozen? ⟨tb, 0, none⟩ = false := ht3.free 0
      have hput : Has (w3.setCell ⟨tb, 0, none⟩ (.pointer T'.ptr)) tb 49 #[.pointer T'.ptr] := ht3.put 0 _
      have i4 := IsTr.far ht3 (.pointer T'.ptr) i3
      have hfin2 : ∃ T2, TrAt tb (w3.setCell ⟨tb, 0, none⟩ (.pointer T'.ptr)) T2 ∧ T2.con = putL key v T.con ∧ Tur [tb] w1 (w3.setCell ⟨tb, 0, none⟩ (.pointer T'.ptr)) :=
        ⟨T', ⟨hput, by rw [size_set]; exact i4, bal3, by rw [con3]; exact putL_rises H.out.ris⟩, con3, (Tur.of_below B3).trans (Tur.setCell w3 (p := ⟨tb, 0, none⟩) (by simp) _) (Fre.refl _ _)⟩
      have HFIN := Lib.hid hfin2
      clear hfin2 hput i4 ht3 i3 b3 B3
      go_wp2_with fail
      refine hK2.out _ _ (by exact trivial) (fun hq => ?_)
      clear hK2 K2
      ((try simp only [List.getElem_toArray]); (try simp only [List.getElem_cons_succ]); (try simp only [List.getElem_cons_zero]); (try simp only [Act.put]); (try simp only [List.setIfInBounds_toArray]); (try simp only [List.set_cons_succ]); (try simp only [List.set_cons_zero]))
      (refine wpAnyH_take (i := 9) (v := ?_) rfl (by kernel_rfl) (by kernel_rfl) (by kernel_rfl) (fun _ _ _ h => h) (Or.inl ⟨by rfl, ?_⟩) (by assumption) ?_; rotate_left; (intro w hSw; (try dsimp only at hSw); go_simp; try with_reducible rfl); ((try simp only [List.getElem_toArray]); (try simp only [List.getElem_cons_succ]); (try simp only [List.getElem_cons_zero]); (try simp only [Act.put]); (try simp only [List.setIfInBounds_toArray]); (try simp only [List.set_cons_succ]); (try simp only [List.set_cons_zero])))
      (refine wpAnyH_take (i := 10) (v := ?_) rfl (by kernel_rfl) (by kernel_rfl) (by kernel_rfl) (fun _ _ _ h => h) (Or.inl ⟨by rfl, ?_⟩) (by assumption) ?_; rotate_left; (intro w hSw; (try dsimp only at hSw); go_simp; try with_reducible rfl); ((try simp only [List.getElem_toArray]); (try simp only [List.getElem_cons_succ]); (try simp only [List.getElem_cons_zero]); (try simp only [Act.put]); (try simp only [List.setIfInBounds_toArray]); (try simp only [List.set_cons_succ]); (try simp only [List.set_cons_zero])))
      refine wpAnyH_ready (rs := [11]) (by kernel_rfl) (by simp) ?_
      refine AllReadyH.cons rfl (fun K2 hK2 => ?_) AllReadyH.nil
      go_simp
      refine hK2.out _ _ (by exact trivial) (fun hq => ?_)
      clear hK2 K2
      ((try simp only [List.getElem_toArray]); (try simp only [List.getElem_cons_succ]); (try simp only [List.getElem_cons_zero]); (try simp only [Act.put]); (try simp only [List.setIfInBounds_toArray]); (try simp only [List.set_cons_succ]); (try simp only [List.set_cons_zero]))
      refine wpAnyH_done (by kernel_rfl) ?_ _
      go_wp2_with fail
      go_ret
      exact ⟨rfl, HFIN.out⟩
  | some x =>
    go_enter Try.func14, Try.ntmps14
    go_wp2_with fail
    refine HS.out.mono ?_
    rintro e w1 ⟨rfl, rfl⟩
    rw [show ndPtr (some x) = .pointer (some ⟨x.b, 0, none⟩) from rfl]
    go_wp2_with fail
    refine wp_region_held_drew (S := fun X => True) (by kernel_rfl) trivial (fun _ => ?_)
    (refine wpAnyH_take (i := 0) (v := ?_) rfl (by kernel_rfl) (by kernel_rfl) (by kernel_rfl) (fun _ _ _ h => h) (Or.inl ⟨by rfl, ?_⟩) (by assumption) ?_; rotate_left; (intro w hSw; (try dsimp only at hSw); go_simp; try with_reducible rfl); ((try simp only [List.getElem_toArray]); (try simp only [List.getElem_cons_succ]); (try simp only [List.getElem_cons_zero]); (try simp only [Act.put]); (try simp only [List.setIfInBounds_toArray]); (try simp only [List.set_cons_succ]); (try simp only [List.set_cons_zero])))
    (refine wpAnyH_take (i := 1) (v := ?_) rfl (by kernel_rfl) (by kernel_rfl) (by kernel_rfl) (fun _ _ _ h => h) (Or.inl ⟨by rfl, ?_⟩) (by assumption) ?_; rotate_left; (intro w hSw; (try dsimp only at hSw); go_simp; try with_reducible rfl); ((try simp only [List.getElem_toArray]); (try simp only [List.getElem_cons_succ]); (try simp only [List.getElem_cons_zero]); (try simp only [Act.put]); (try simp only [List.setIfInBounds_toArray]); (try simp only [List.set_cons_succ]); (try simp only [List.set_cons_zero])))
    (refine wpAnyH_take (i := 2) (v := ?_) rfl (by kernel_rfl) (by kernel_rfl) (by kernel_rfl) (fun _ _ _ h => h) (Or.inl ⟨by rfl, ?_⟩) (by assumption) ?_; rotate_left; (intro w hSw; (try dsimp only at hSw); go_simp; try with_reducible rfl); ((try simp only [List.getElem_toArray]); (try simp only [List.getElem_cons_succ]); (try simp only [List.getElem_cons_zero]); (try simp only [Act.put]); (try simp only [List.setIfInBounds_toArray]); (try simp only [List.set_cons_succ]); (try simp only [List.set_cons_zero])))
    (refine wpAnyH_take (i := 3) (v := ?_) rfl (by kernel_rfl) (by kernel_rfl) (by kernel_rfl) (fun _ _ _ h => h) (Or.inl ⟨by rfl, ?_⟩) (by assumption) ?_; rotate_left; (intro w hSw; (try dsimp only at hSw); go_simp; try with_reducible rfl); ((try simp only [List.getElem_toArray]); (try simp only [List.getElem_cons_succ]); (try simp only [List.getElem_cons_zero]); (try simp only [Act.put]); (try simp only [List.setIfInBounds_toArray]); (try simp only [List.set_cons_succ]); (try simp only [List.set_cons_zero])))
    (refine wpAnyH_take (i := 5) (v := ?_) rfl (by kernel_rfl) (by kernel_rfl) (by kernel_rfl) (fun _ _ _ h => h) (Or.inl ⟨by rfl, ?_⟩) (by assumption) ?_; rotate_left; (intro w hSw; (try dsimp only at hSw); go_simp; try with_reducible rfl); ((try simp only [List.getElem_toArray]); (try simp only [List.getElem_cons_succ]); (try simp only [List.getElem_cons_zero]); (try simp only [Act.put]); (try simp only [List.setIfInBounds_toArray]); (try simp only [List.set_cons_succ]); (try simp only [List.set_cons_zero])))
    (refine wpAnyH_take (i := 6) (v := ?_) rfl (by kernel_rfl) (by kernel_rfl) (by kernel_rfl) (fun _ _ _ h => h) (Or.inl ⟨by rfl, ?_⟩) (by assumption) ?_; rotate_left; (intro w hSw; (try dsimp only at hSw); go_simp; try with_reducible rfl); ((try simp only [List.getElem_toArray]); (try simp only [List.getElem_cons_succ]); (try simp only [List.getElem_cons_zero]); (try simp only [Act.put]); (try simp only [List.setIfInBounds_toArray]); (try simp only [List.set_cons_succ]); (try simp only [List.set_cons_zero])))
    refine wpAnyH_ready (rs := [4, 7]) (by kernel_rfl) (by simp) ?_
    refine AllReadyH.cons rfl (fun K2 hK2 => ?_) (AllReadyH.cons rfl (fun K2 hK2 => ?_) AllReadyH.nil)
    · go_simp
      refine hK2.out _ _ (by exact trivial) (fun hq => ?_)
      clear hK2 K2
      ((try simp only [List.getElem_toArray]); (try simp only [List.getElem_cons_succ]); (try simp only [List.getElem_cons_zero]); (try simp only [Act.put]); (try simp only [List.setIfInBounds_toArray]); (try simp only [List.set_cons_succ]); (try simp only [List.set_cons_zero]))
      refine wpAnyH_ready (rs := [7]) (by kernel_rfl) (by simp) ?_
      refine AllReadyH.cons rfl (fun K2 hK2 => ?_) AllReadyH.nil
      go_simp
      refine HSG.out.mono ?_
      rintro e w2 ⟨b, lo, le, rfl, i2, b2⟩
      have B2 : Below w1.heap.size w1 w2 := hB0.trans b2
      have c2 : w2.cell? ⟨tb, 0, none⟩ = some (.pointer T.ptr) := (B2.cell (p := ⟨tb, 0, none⟩) (World.block_lt_of_cell? w1 _ c)).trans c
      have TW := Lib.hid ((H.out.tr.below B2).mono B2.size)
      have I2 := Lib.hid i2
      have HB2 := Lib.hid B2
      clear i2 b2 B2
      go_wp2_with fail
      refine hK2.out _ _ (by exact trivial) (fun hq => ?_)
      clear hK2 K2
      ((try simp only [List.getElem_toArray]); (try simp only [List.getElem_cons_succ]); (try simp only [List.getElem_cons_zero]); (try simp only [Act.put]); (try simp only [List.setIfInBounds_toArray]); (try simp only [List.set_cons_succ]); (try simp only [List.set_cons_zero]))
      refine wpAnyH_ready (rs := [8]) (by kernel_rfl) (by simp) ?_
      refine AllReadyH.cons rfl (fun K2 hK2 => ?_) AllReadyH.nil
      go_simp
      refine (put_any T w2.heap.size w2 ⟨b, key, v⟩ lo le TW.out (Nat.le_refl _) I2.out H.out.bal H.out.ris hz).mono ?_
      rintro e w3 ⟨T', rfl, i3, con3, bal3, b3⟩
      have c3 : w3.cell? ⟨tb, 0, none⟩ = some (.pointer T.ptr) := (b3.cell (p := ⟨tb, 0, none⟩) (World.block_lt_of_cell? w2 _ c2)).trans c2
      have B3 : Below w1.heap.size w1 w3 := HB2.out.trans (b3.mono HB2.out.size)
      have ht3 : Has w3 tb 49 #[.pointer T.ptr] := H.out.top.below B3 H.out.top.lt
      have f3 : w3.frozen? ⟨tb, 0, none⟩ = false := ht3.free 0
      have hput : Has (w3.setCell ⟨tb, 0, none⟩ (.pointer T'.ptr)) tb 49 #[.pointer T'.ptr] := ht3.put 0 _
      have i4 := IsTr.far ht3 (.pointer T'.ptr) i3
      have hfin2 : ∃ T2, TrAt tb (w3.setCell ⟨tb, 0, none⟩ (.pointer T'.ptr)) T2 ∧ T2.con = putL key v T.con ∧ Tur [tb] w1 (w3.setCell ⟨tb, 0, none⟩ (.pointer T'.ptr)) :=
        ⟨T', ⟨hput, by rw [size_set]; exact i4, bal3, by rw [con3]; exact putL_rises H.out.ris⟩, con3, (Tur.of_below B3).trans (Tur.setCell w3 (p := ⟨tb, 0, none⟩) (by simp) _) (Fre.refl _ _)⟩
      have HFIN := Lib.hid hfin2
      clear hfin2 hput i4 ht3 i3 b3 B3
      go_wp2_with fail
      refine hK2.out _ _ (by exact trivial) (fun hq => ?_)
      clear hK2 K2
      ((try simp only [List.getElem_toArray]); (try simp only [List.getElem_cons_succ]); (try simp only [List.getElem_cons_zero]); (try simp only [Act.put]); (try simp only [List.setIfInBounds_toArray]); (try simp only [List.set_cons_succ]); (try simp only [List.set_cons_zero]))
      (refine wpAnyH_take (i := 9) (v := ?_) rfl (by kernel_rfl) (by kernel_rfl) (by kernel_rfl) (fun _ _ _ h => h) (Or.inl ⟨by rfl, ?_⟩) (by assumption) ?_; rotate_left; (intro w hSw; (try dsimp only at hSw); go_simp; try with_reducible rfl); ((try simp only [List.getElem_toArray]); (try simp only [List.getElem_cons_succ]); (try simp only [List.getElem_cons_zero]); (try simp only [Act.put]); (try simp only [List.setIfInBounds_toArray]); (try simp only [List.set_cons_succ]); (try simp only [List.set_cons_zero])))
      (refine wpAnyH_take (i := 10) (v := ?_) rfl (by kernel_rfl) (by kernel_rfl) (by kernel_rfl) (fun _ _ _ h => h) (Or.inl ⟨by rfl, ?_⟩) (by assumption) ?_; rotate_left; (intro w hSw; (try dsimp only at hSw); go_simp; try with_reducible rfl); ((try simp only [List.getElem_toArray]); (try simp only [List.getElem_cons_succ]); (try simp only [List.getElem_cons_zero]); (try simp only [Act.put]); (try simp only [List.setIfInBounds_toArray]); (try simp only [List.set_cons_succ]); (try simp only [List.set_cons_zero])))
      refine wpAnyH_ready (rs := [11]) (by kernel_rfl) (by simp) ?_
      refine AllReadyH.cons rfl (fun K2 hK2 => ?_) AllReadyH.nil
      go_simp
      refine hK2.out _ _ (by exact trivial) (fun hq => ?_)
      clear hK2 K2
      ((try simp only [List.getElem_toArray]); (try simp only [List.getElem_cons_succ]); (try simp only [List.getElem_cons_zero]); (try simp only [Act.put]); (try simp only [List.setIfInBounds_toArray]); (try simp only [List.set_cons_succ]); (try simp only [List.set_cons_zero]))
      refine wpAnyH_done (by kernel_rfl) ?_ _
      go_wp2_with fail
      go_ret
      exact ⟨rfl, HFIN.out⟩
    · go_simp
      refine HSG.out.mono ?_
      rintro e w2 ⟨b, lo, le, rfl, i2, b2⟩
      have B2 : Below w1.heap.size w1 w2 := hB0.trans b2
      have c2 : w2.cell? ⟨tb, 0, none⟩ = some (.pointer T.ptr) := (B2.cell (p := ⟨tb, 0, none⟩) (World.block_lt_of_cell? w1 _ c)).trans c
      have TW := Lib.hid ((H.out.tr.below B2).mono B2.size)
      have I2 := Lib.hid i2
      have HB2 := Lib.hid B2
      clear i2 b2 B2
      go_wp2_with fail
      refine hK2.out _ _ (by exact trivial) (fun hq => ?_)
      clear hK2 K2
      ((try simp only [List.getElem_toArray]); (try simp only [List.getElem_cons_succ]); (try simp only [List.getElem_cons_zero]); (try simp only [Act.put]); (try simp only [List.setIfInBounds_toArray]); (try simp only [List.set_cons_succ]); (try simp only [List.set_cons_zero]))
      refine wpAnyH_ready (rs := [4]) (by kernel_rfl) (by simp) ?_
      refine AllReadyH.cons rfl (fun K2 hK2 => ?_) AllReadyH.nil
      go_simp
      refine hK2.out _ _ (by exact trivial) (fun hq => ?_)
      clear hK2 K2
      ((try simp only [List.getElem_toArray]); (try simp only [List.getElem_cons_succ]); (try simp only [List.getElem_cons_zero]); (try simp only [Act.put]); (try simp only [List.setIfInBounds_toArray]); (try simp only [List.set_cons_succ]); (try simp only [List.set_cons_zero]))
      refine wpAnyH_ready (rs := [8]) (by kernel_rfl) (by simp) ?_
      refine AllReadyH.cons rfl (fun K2 hK2 => ?_) AllReadyH.nil
      go_simp
      refine (put_any T w2.heap.size w2 ⟨b, key, v⟩ lo le TW.out (Nat.le_refl _) I2.out H.out.bal H.out.ris hz).mono ?_
      rintro e w3 ⟨T', rfl, i3, con3, bal3, b3⟩
      have c3 : w3.cell? ⟨tb, 0, none⟩ = some (.pointer T.ptr) := (b3.cell (p := ⟨tb, 0, none⟩) (World.block_lt_of_cell? w2 _ c2)).trans c2
      have B3 : Below w1.heap.size w1 w3 := HB2.out.trans (b3.mono HB2.out.size)
      have ht3 : Has w3 tb 49 #[.pointer T.ptr] := H.out.top.below B3 H.out.top.lt
      have f3 : w3.frozen? ⟨tb, 0, none⟩ = false := ht3.free 0
      have hput : Has (w3.setCell ⟨tb, 0, none⟩ (.pointer T'.ptr)) tb 49 #[.pointer T'.ptr] := ht3.put 0 _
      have i4 := IsTr.far ht3 (.pointer T'.ptr) i3
      have hfin2 : ∃ T2, TrAt tb (w3.setCell ⟨tb, 0, none⟩ (.pointer T'.ptr)) T2 ∧ T2.con = putL key v T.con ∧ Tur [tb] w1 (w3.setCell ⟨tb, 0, none⟩ (.pointer T'.ptr)) :=
        ⟨T', ⟨hput, by rw [size_set]; exact i4, bal3, by rw [con3]; exact putL_rises H.out.ris⟩, con3, (Tur.of_below B3).trans (Tur.setCell w3 (p := ⟨tb, 0, none⟩) (by simp) _) (Fre.refl _ _)⟩
      have HFIN := Lib.hid hfin2
      clear hfin2 hput i4 ht3 i3 b3 B3
      go_wp2_with fail
      refine hK2.out _ _ (by exact trivial) (fun hq => ?_)
      clear hK2 K2
      ((try simp only [List.getElem_toArray]); (try simp only [List.getElem_cons_succ]); (try simp only [List.getElem_cons_zero]); (try simp only [Act.put]); (try simp only [List.setIfInBounds_toArray]); (try simp only [List.set_cons_succ]); (try simp only [List.set_cons_zero]))
      (refine wpAnyH_take (i := 9) (v := ?_) rfl (by kernel_rfl) (by kernel_rfl) (by kernel_rfl) (fun _ _ _ h => h) (Or.inl ⟨by rfl, ?_⟩) (by assumption) ?_; rotate_left; (intro w hSw; (try dsimp only at hSw); go_simp; try with_reducible rfl); ((try simp only [List.getElem_toArray]); (try simp only [List.getElem_cons_succ]); (try simp only [List.getElem_cons_zero]); (try simp only [Act.put]); (try simp only [List.setIfInBounds_toArray]); (try simp only [List.set_cons_succ]); (try simp only [List.set_cons_zero])))
      (refine wpAnyH_take (i := 10) (v := ?_) rfl (by kernel_rfl) (by kernel_rfl) (by kernel_rfl) (fun _ _ _ h => h) (Or.inl ⟨by rfl, ?_⟩) (by assumption) ?_; rotate_left; (intro w hSw; (try dsimp only at hSw); go_simp; try with_reducible rfl); ((try simp only [List.getElem_toArray]); (try simp only [List.getElem_cons_succ]); (try simp only [List.getElem_cons_zero]); (try simp only [Act.put]); (try simp only [List.setIfInBounds_toArray]); (try simp only [List.set_cons_succ]); (try simp only [List.set_cons_zero])))
      refine wpAnyH_ready (rs := [11]) (by kernel_rfl) (by simp) ?_
      refine AllReadyH.cons rfl (fun K2 hK2 => ?_) AllReadyH.nil
      go_simp
      refine hK2.out _ _ (by exact trivial) (fun hq => ?_)
      clear hK2 K2
      ((try simp only [List.getElem_toArray]); (try simp only [List.getElem_cons_succ]); (try simp only [List.getElem_cons_zero]); (try simp only [Act.put]); (try simp only [List.setIfInBounds_toArray]); (try simp only [List.set_cons_succ]); (try simp only [List.set_cons_zero]))
      refine wpAnyH_done (by kernel_rfl) ?_ _
      go_wp2_with fail
      go_ret
      exact ⟨rfl, HFIN.out⟩
end Go.Proofs.Ytmapclocbhkpbaa
