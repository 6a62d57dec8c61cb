/-
  Rows, as they come in, at their keys.
-/
import Derived.Test.YtcdjeibcnkpadaaDoorWnR
namespace Go.Proofs.YtcdjeibcnkpadaaDoor
open Go.RowKit Go.Maps Dg
set_option maxRecDepth 100000
set_option linter.unusedVariables false
/-- Rows as they lie: their slices, their values. -/
structure RsIn (w : World) (A : Option Addr) (n c : Nat) (S : List Sl) (L : List (List Vl)) : Prop where
  len : S.length = n
  cap : n ≤ c
  cells : S ≠ [] → ∃ b off, A = some ⟨b, off, none⟩ ∧ ∀ i (hi : i < S.length), w.cell? ⟨b, off + i, none⟩ = some (.slice S[i].a S[i].n S[i].c)
  many : L.length = n
  rows : ∀ i (hi : i < S.length) (hj : i < L.length), RwAt w S[i].a S[i].n S[i].c L[i]
theorem RsIn.below {w w' : World} {A : Option Addr} {n c : Nat} {S : List Sl} {L : List (List Vl)} (h : RsIn w A n c S L) (hb : Below w.heap.size w w') : RsIn w' A n c S L :=
  ⟨h.len, h.cap, fun hne => by
    obtain ⟨b, off, e, hc⟩ := h.cells hne
    exact ⟨b, off, e, fun i hi => (hb.cell (World.block_lt_of_cell? w _ (hc i hi))).trans (hc i hi)⟩, h.many, fun i hi hj => (h.rows i hi hj).below hb⟩
/-- Do rows fit, and their keys rise, each behind the one ahead? -/
def stdF (M : List Cl) (k : Nat) : ByteArray → List (List Vl) → Bool
  | _, [] => true
  | a, r :: l => fitsF M r && kl a (keyS k r) && stdF M k (keyS k r) l
def lastK (k : Nat) : ByteArray → List (List Vl) → ByteArray
  | a, [] => a
  | _, r :: l => lastK k (keyS k r) l
def keyed (k : Nat) (L : List (List Vl)) : List (ByteArray × List Vl) := L.map fun r => (keyS k r, r)
theorem stdF_app (M : List Cl) (k : Nat) : ∀ (a : ByteArray) (l m : List (List Vl)), stdF M k a (l ++ m) = (stdF M k a l && stdF M k (lastK k a l) m)
  | _, [], _ => by simp [stdF, lastK]
  | a, r :: l, m => by rw [List.cons_append]; simp only [stdF, lastK]; rw [stdF_app M k _ l m, Bool.and_assoc, Bool.and_assoc]; simp [Bool.and_assoc]
theorem lastK_app (k : Nat) : ∀ (a : ByteArray) (l : List (List Vl)) (r : List Vl), lastK k a (l ++ [r]) = keyS k r
  | _, [], _ => rfl
  | _, _ :: l, r => by rw [List.cons_append]; exact lastK_app k _ l r
theorem stdF_lt (M : List Cl) (k : Nat) : ∀ (a : ByteArray) (l : List (List Vl)), stdF M k a l = true → ∀ r ∈ l, keyS k r = lastK k a l ∨ kl (keyS k r) (lastK k a l) = true
  | _, [], _, r, h => by cases h
  | a, x :: l, h, r, hr => by
    simp only [stdF, Bool.and_eq_true] at h
    simp only [lastK]
    rcases List.mem_cons.1 hr with rfl | hr
    · cases l with
      | nil => exact .inl rfl
      | cons y l =>
        have h2 := h.2
        simp only [stdF, Bool.and_eq_true] at h2
        refine .inr ?_
        rcases stdF_lt M k (keyS k r) (y :: l) h.2 y List.mem_cons_self with e | e
        · rw [← e]; exact h2.1.2
        · exact kl_trans h2.1.2 e
    · exact stdF_lt M k _ l h.2 r hr
theorem putL_last {α : Type} {k : ByteArray} {v : α} : ∀ {l : List (ByteArray × α)}, (∀ y ∈ l, kl y.1 k = true) → putL k v l = l ++ [(k, v)]
  | [], _ => rfl
  | x :: l, h => by
    have h1 := h x List.mem_cons_self
    unfold putL
    rw [kl_asymm h1, h1]
    simp only [Bool.false_eq_true, if_false, if_true, List.cons_append]
    rw [putL_last fun y hy => h y (List.mem_cons_of_mem _ hy)]
/-- One row more. -/
theorem std_put {M : List Cl} {k : Nat} {a : ByteArray} {l : List (List Vl)} {r : List Vl} (h : stdF M k a l = true) (hr : kl (lastK k a l) (keyS k r) = true) : putL (keyS k r) r (keyed k l) = keyed k (l ++ [r]) := by
  rw [putL_last]
  · simp [keyed]
  · intro y hy
    obtain ⟨x, hx, rfl⟩ := List.mem_map.1 hy
    rcases stdF_lt M k a l h x hx with e | e
    · show kl (keyS k x) _ = true
      rw [e]; exact hr
    · exact kl_trans e hr
theorem std_one (M : List Cl) (k : Nat) (a : ByteArray) (r : List Vl) : stdF M k a [r] = (fitsF M r && kl a (keyS k r)) := by simp [stdF]
/-- What stand tells. -/
def StdR (M : List Cl) (k : Nat) (af : ByteArray) (L : List (List Vl)) (w : World) (e : Ending) (w' : World) : Prop :=
  Below w.heap.size w w' ∧ ((stdF M k af L = true ∧ ∃ tb T, e = .returned (.tuple #[.pointer (some ⟨tb, 0, none⟩), .string (lastK k af L), .bool true]) ∧ TrAt tb w' T ∧ RowsAt w.heap.size w' T.con (keyed k L) ∧ w.heap.size ≤ tb) ∨ (stdF M k af L = false ∧ e = .returned (.tuple #[.pointer none, .string ⟨#[]⟩, .bool false])))
set_option maxHeartbeats 4000000 in
theorem stand_any (A : Option Addr) (M : List Cl) (n c : Nat) (k : Nat) (af : ByteArray) (Ar : Option Addr) (nr cr : Nat) (S : List Sl) (L : List (List Vl)) (w : World) (hS : Sch M k) (hA : ClAt w A n c M) (hR : RsIn w Ar nr cr S L) (hT : Tabs w) (hz : nr ≤ 89000) :
    Calls Tryd.prog 36 #[.agg #[.slice A n c, .int .i64 k], .string af, .slice Ar nr cr] w fun e w' => StdR M k af L w e w' := by
  have HB0 := Lib.hid ((Below.refl w.heap.size w).alloc (Nat.le_refl _) (.cells #[.slice A n c, .int .i64 k] 24))
  have HS0 := Lib.hid (Has.new w 24 #[.slice A n c, .int .i64 k])
  have hz0 : w.heap.size < (w.alloc (.cells #[.slice A n c, .int .i64 k] 24)).heap.size := by simp
  go_enter Tryd.func36, Tryd.ntmps36
  go_wp2_with fail
  refine (tnew_any _).mono ?_
  rintro e w1 ⟨rfl, ht1, hb1⟩
  obtain ⟨tb, htb⟩ : ∃ tb, tb = (w.alloc (.cells #[.slice A n c, .int .i64 k] 24)).heap.size := ⟨_, rfl⟩
  rw [← htb] at ht1 hz0 hb1 ⊢
  have HB1 : Hid (Below w.heap.size w w1) := HB0.out.trans (hb1.mono (by omega))
  have HS1 : Hid (Has w1 w.heap.size 24 #[.slice A n c, .int .i64 k]) := HS0.out.below hb1 (by omega)
  have HT1 := Lib.hid ht1
  clear htb HB0 HS0 ht1 hb1
  go_wp2_with fail
  go_loopw [10, 19] (fun s i wr => ∃ j : Nat, j ≤ nr ∧ s = .string (lastK k af (L.take j)) ∧ i = .int .i64 j ∧ Hid (stdF M k af (L.take j) = true) ∧ Hid (Below w.heap.size w wr) ∧ Hid (Has wr w.heap.size 24 #[.slice A n c, .int .i64 k]) ∧ ∃ T, Hid (TrAt tb wr T ∧ RowsAt w.heap.size wr T.con (keyed k (L.take j)))) (fun s i _ => nr - (intOf i).toNat)
  case atStart => exact ⟨0, by omega, rfl, rfl, rfl, HB1.out, HS1.out, .nil, HT1.out, trivial⟩
  case round =>
    obtain ⟨j, hj, rfl, rfl, HSt, HB, HSc, T, HTR⟩ := hrel
    by_cases hlt : j < nr
    · have hjS : j < S.length := by rw [hR.len]; exact hlt
      have hjL : j < L.length := by rw [hR.many]; exact hlt
      obtain ⟨b, off, rfl, hc⟩ := (hR.below HB.out).cells (by intro e; rw [e] at hjS; simp at hjS)
      have c0 := hc j hjS
      have HRW := Lib.hid (hR.rows j hjS hjL)
      have hts : L.take (j + 1) = L.take j ++ [L[j]] := List.take_succ_eq_append_getElem hjL
      have HSU : Hid (stdF M k af (L.take (j + 1)) = (fitsF M L[j] && kl (lastK k af (L.take j)) (keyS k L[j]))) := by show _ = _; rw [hts, stdF_app, HSt.out, std_one]; simp
      have HLU : Hid (lastK k af (L.take (j + 1)) = keyS k L[j]) := by show _ = _; rw [hts, lastK_app]
      have HNO : Hid (stdF M k af (L.take (j + 1)) = false → stdF M k af L = false) := by
        intro h
        have := stdF_app M k af (L.take (j + 1)) (L.drop (j + 1))
        rw [List.take_append_drop] at this
        rw [this, h]; rfl
      have HPU : Hid (kl (lastK k af (L.take j)) (keyS k L[j]) = true → putL (keyS k L[j]) L[j] (keyed k (L.take j)) = keyed k (L.take (j + 1))) := by
        intro h0
        rw [hts]
        exact std_put HSt.out h0
      clear hc hts
      obtain ⟨last, hlast⟩ : ∃ x, lastK k af (L.take j) = x := ⟨_, rfl⟩
      rw [hlast] at HSU HPU ⊢
      obtain ⟨r, hr⟩ : ∃ r, L[j] = r := ⟨_, rfl⟩
      rw [hr] at HSU HPU HLU HRW
      obtain ⟨sa, hsa⟩ : ∃ s, S[j] = s := ⟨_, rfl⟩
      rw [hsa] at c0 HRW
      obtain ⟨Aj, nj, cj⟩ := sa
      dsimp only at c0 HRW
      have HF := Lib.hid (fun (W : World) (hb : Below w.heap.size w W) => fitting_any A M n c k Aj r nj cj W hS (hA.below hb) (HRW.out.below hb) (hT.below hb))
      have hkz : (j : Int) < (nr : Int) := by omega
      have hk0 : (0 : Int) ≤ (j : Int) := by omega
      have g0 : wr.cell? ⟨w.heap.size, 0, none⟩ = some (.slice A n c) := HSc.out.cell 0
      have g1 : wr.cell? ⟨w.heap.size, 1, none⟩ = some (.int .i64 k) := HSc.out.cell 1
      clear hlast hr hsa
      go_wp2_with fail
      refine (HF.out _ HB.out).mono ?_
      rintro e w2 ⟨rfl, hb2⟩
      have HB2 : Hid (Below wr.heap.size wr w2) := hb2.out
      have HBw : Hid (Below w.heap.size w w2) := HB.out.trans (hb2.out.mono HB.out.size)
      clear hb2 g0 g1 c0
      cases hq : fitsF M r with
      | false =>
        rw [show fitT M k r = .tuple #[.string ⟨#[]⟩, .int .i64 9] by simp [fitT, hq]]
        go_wp2_with fail
        all_goals
          go_ret3
          exact ⟨HBw.out, .inr ⟨HNO.out (by rw [HSU.out, hq]; rfl), rfl⟩⟩
      | true =>
        rw [show fitT M k r = .tuple #[.string (keyS k r), .int .i64 0] by simp [fitT, hq]]
        cases hl : kl last (keyS k r) with
        | false =>
          have hle : (Op.bytesLess (keyS k r).toList last.toList || (keyS k r).toList == last.toList) = true := by
            have := kl_or last (keyS k r)
            rw [hl] at this
            unfold kl at this
            cases h1 : Op.bytesLess (keyS k r).toList last.toList <;> cases h2 : ((keyS k r).toList == last.toList) <;> simp [h1, h2] at this ⊢
          go_wp2_with fail
          all_goals
            go_ret3
            exact ⟨HBw.out, .inr ⟨HNO.out (by rw [HSU.out, hl]; simp), rfl⟩⟩
        | true =>
          have hl1 : Op.bytesLess (keyS k r).toList last.toList = false := kl_asymm hl
          have hl2 : ((keyS k r).toList == last.toList) = false := by
            cases h2 : ((keyS k r).toList == last.toList) with
            | false => rfl
            | true => exact absurd (eq_iff.1 h2).symm (ne_of_kl hl)
          have hle : (Op.bytesLess (keyS k r).toList last.toList || (keyS k r).toList == last.toList) = false := by rw [hl1, hl2]; rfl
          go_wp2_with fail
          refine (cloneV_any Aj r nj cj w2 (HRW.out.below HBw.out).len (by have := fits_len hq; have := hS.len; have := HRW.out.len; omega) (HRW.out.below HBw.out).row HRW.out.nil).mono ?_
          rintro e w3 ⟨v, rfl, ho, hb⟩
          obtain ⟨A8, n8, c8, rfl, _, _, _, _, _⟩ := ownV_open ho.out
          have HBw3 : Hid (Below w.heap.size w w3) := HBw.out.trans (hb.out.mono HBw.out.size)
          have HB3 : Hid (Below wr.heap.size wr w3) := HB2.out.trans (hb.out.mono HB2.out.size)
          have HO : Hid (OwnV w.heap.size w3 (.slice A8 n8 c8) r) := ownV_dn ho.out HBw.out.size
          have HT3 : Hid (TrAt tb w3 T) := HTR.out.1.below HB3.out
          have HR3 : Hid (RowsAt w.heap.size w3 T.con (keyed k (L.take j))) := HTR.out.2.below HB3.out
          have HSc3 : Hid (Has w3 w.heap.size 24 #[.slice A n c, .int .i64 k]) := HSc.out.below HB3.out HSc.out.lt
          have hlen : T.con.length ≤ 90000 := by
            have := HTR.out.2.len
            rw [this]
            simp only [keyed, List.length_map, List.length_take]
            omega
          have hkz2 : (keyS k r).size ≤ 140737488355328 := Nat.le_trans (keyOk_size hS (fits_keyOk hS hq)) (by omega)
          have HPt := Lib.hid (tput_any HT3.out hlen (keyS k r) hkz2 ⟨A8, n8, c8⟩)
          dsimp only at HPt
          clear ho hb
          go_wp2_with fail
          refine HPt.out.mono ?_
          rintro e w4 ⟨rfl, T', hT4, hc4, hu4⟩
          have hX : ∀ z ∈ [tb], ∃ t cs, Has w3 z t cs ∧ t ≠ 68 := fun z hz => by rw [List.mem_singleton.1 hz]; exact ⟨_, _, HT3.out.top, by decide⟩
          have htb0 : tb ≠ w.heap.size := fun e => by have := HT3.out.top; rw [e] at this; exact absurd (this.two HSc3.out).1 (by decide)
          have HR4 : Hid (RowsAt w.heap.size w4 T'.con (keyed k (L.take (j + 1)))) := by
            show RowsAt _ _ _ _
            rw [hc4, ← HPU.out hl]
            exact RowsAt.put (HO.out.turX hu4 hX) (HR3.out.turX hu4 hX)
          have HSc4 : Hid (Has w4 w.heap.size 24 #[.slice A n c, .int .i64 k]) := HSc3.out.tur hu4 (by simp; exact Ne.symm htb0)
          have HB4 : Hid (Below w.heap.size w w4) := HBw3.out.trans (hu4.below (by simp; omega) HBw3.out.size)
          have HT4 := Lib.hid hT4
          have HL := Lib.hid (show stdF M k af (L.take (j + 1)) = true by rw [HSU.out, hq, hl]; rfl)
          clear hT4 hc4 hu4 HPt
          go_wp2_with fail
          go_roundw
          case rel => exact ⟨j + 1, by omega, by rw [HLU.out], by go_num, HL, HB4, HSc4, T', HT4.out, HR4.out⟩
          case measure => simp [intOf]; omega
    · obtain rfl : j = nr := by omega
      have HLn : Hid (L.take j = L) := List.take_of_length_le (by rw [hR.many]; omega)
      rw [HLn.out] at HSt HTR ⊢
      go_wp2_with fail
      go_ret3
      exact ⟨HB.out, .inl ⟨HSt.out, tb, T, rfl, HTR.out.1, HTR.out.2, by omega⟩⟩
end Go.Proofs.YtcdjeibcnkpadaaDoor
