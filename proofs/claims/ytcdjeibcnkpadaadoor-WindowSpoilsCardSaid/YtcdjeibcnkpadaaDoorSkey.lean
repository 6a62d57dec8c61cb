/-
  The key of a row: the program's Key.
-/
import Derived.Test.YtcdjeibcnkpadaaDoorQn
import Derived.Test.YtcdjeibcnkpadaaDoorRkey4
namespace Go.Proofs.YtcdjeibcnkpadaaDoor
open Go.RowKit Dg
def skT (M : List Cl) (R : List Vl) (k : Nat) : Value := if (beginsF M R k && (R.take k).all Vl.may) = true then .tuple #[.string (bs (keys (R.take k))), .int .i64 0] else .tuple #[.string ⟨#[]⟩, .int .i64 9]
set_option maxHeartbeats 3000000 in
set_option maxRecDepth 100000 in
theorem skey_any (A : Option Addr) (M : List Cl) (n c : Nat) (kk : Nat) (Ar : Option Addr) (R : List Vl) (nr cr : Nat) (w : World) (hn : M.length = n) (hkn : kk ≤ n) (hk4 : kk ≤ 4) (hnc : n ≤ c) (hncr : nr ≤ cr) (hA : CRow w A M) (hnr : R.length = nr) (hR : VRow w Ar R) (hf : ∀ x ∈ R, x.fit) (hTb : Tabs w) :
    Calls Tryd.prog 66 #[.agg #[.slice A n c, .int .i64 kk], .slice Ar nr cr] w fun e w' => e = .returned (skT M R kk) ∧ Hid (Below w.heap.size w w') := by
  have HNR := Lib.hid hnr
  have HR := Lib.hid hR
  have HF := Lib.hid hf
  have HTB := Lib.hid hTb
  have HB0 := Lib.hid ((Below.refl w.heap.size w).alloc (Nat.le_refl _) (.cells #[.slice A n c, .int .i64 kk] 24))
  have HS0 := Lib.hid (Has.new w 24 #[.slice A n c, .int .i64 kk])
  have HC := Lib.hid (begins_any A M n c kk Ar R nr cr _ hn hkn (by omega) hnc (hA.below HB0.out) hnr (hR.below HB0.out))
  have HSK : Hid (skT M R kk = if (beginsF M R kk && (R.take kk).all Vl.may) = true then .tuple #[.string (bs (keys (R.take kk))), .int .i64 0] else .tuple #[.string ⟨#[]⟩, .int .i64 9]) := rfl
  have HBL : Hid (beginsF M R kk = true → kk ≤ nr) := fun h => by
    unfold beginsF at h
    rw [hnr] at h
    simp only [Bool.and_eq_true, decide_eq_true_eq] at h
    exact h.1
  clear hn hA hnr hR hf hTb
  go_enter Tryd.func66, Tryd.ntmps66
  go_wp2_with fail
  refine HC.out.mono ?_
  rintro e w1 ⟨rfl, hb1⟩
  have HB1 := Lib.hid (HB0.out.trans (hb1.out.mono HB0.out.size))
  have HS1 := Lib.hid (HS0.out.below hb1.out HS0.out.lt)
  have s1 : w1.cell? ⟨w.heap.size, 1, none⟩ = some (.int .i64 kk) := HS1.out.cell 1
  clear hb1 HC
  generalize beginsF M R kk = q at *
  cases q
  · go_wp2_with fail
    go_ret2
    exact ⟨by rw [HSK.out]; rfl, HB1⟩
  · have hkr := HBL.out rfl
    have z0 : (0 : Int) ≤ (kk : Int) := by omega
    have z1 : (kk : Int) ≤ (cr : Int) := by omega
    have HRT := Lib.hid ((HR.out.below HB1.out).takeK kk)
    have HLT : Hid ((R.take kk).length = kk) := by show _ = _; rw [List.length_take, HNR.out]; omega
    have HFT : Hid (∀ x ∈ R.take kk, x.fit) := fun x hx => HF.out x (List.mem_of_mem_take hx)
    clear HBL
    generalize R.take kk = RT at *
    cases ha : RT.all Vl.may
    · have hE : (∀ x ∈ RT, x.may = true) ∧ (1 : Nat) = 0 ∧ ([] : List Nat) = keys RT ∨ (∃ x ∈ RT, x.may = false) ∧ (1 : Nat) = 1 ∧ ([] : List Nat) = [] := by
        right
        obtain ⟨x, h1, h2⟩ := List.all_eq_false.1 ha
        exact ⟨⟨x, h1, by simpa using h2⟩, rfl, rfl⟩
      have HK := Lib.hid (key_any Ar RT kk cr w1 HLT.out (by omega) HRT.out HFT.out (HTB.out.below HB1.out) 1 [] hE)
      clear hE
      go_wp2_with fail
      refine HK.out.mono ?_
      rintro e w2 ⟨rfl, hb2⟩
      have HB2 := Lib.hid (HB1.out.trans (hb2.out.mono HB1.out.size))
      clear hb2
      go_wp2_with fail
      go_ret2
      exact ⟨by rw [HSK.out, ha]; rfl, HB2⟩
    · have HK := Lib.hid (key_any Ar RT kk cr w1 HLT.out (by omega) HRT.out HFT.out (HTB.out.below HB1.out) 0 (keys RT) (.inl ⟨fun x hx => List.all_eq_true.1 ha x hx, rfl, rfl⟩))
      go_wp2_with fail
      refine HK.out.mono ?_
      rintro e w2 ⟨rfl, hb2⟩
      have HB2 := Lib.hid (HB1.out.trans (hb2.out.mono HB1.out.size))
      clear hb2
      go_wp2_with fail
      go_ret2
      exact ⟨by rw [HSK.out, ha]; rfl, HB2⟩
end Go.Proofs.YtcdjeibcnkpadaaDoor
