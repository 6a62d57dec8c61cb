import Derived.Test.YtbaafbcdhgfpdaaClaw
import Derived.Test.YtbaafbcdhgfpdaaCLongWalk
namespace Go.Proofs.Ytbaafbcdhgfpdaa.crcMore
open Go.RowKit Cr
/-- A slice of slices of bytes that came in. -/
def ListsIn (w : World) (a : Option Addr) (len cap : Nat) (A : Nat → Option Addr) (L C : Nat → Nat) (F : Nat → List Nat) : Prop :=
  len = 0 ∨ ∃ b off, a = some ⟨b, off, none⟩ ∧ len ≤ cap ∧ cap ≤ maxLen ∧
    ∀ r, r < len → w.cell? ⟨b, off + r, none⟩ = some (.slice (A r) (L r) (C r)) ∧ (F r).length = L r ∧ L r ≤ C r ∧ C r ≤ maxLen ∧ (∀ x ∈ F r, x < 256) ∧ Rd w (A r) (F r) ∧ (A r = none → C r = 0)
/-- The first forty bytes of each of the first k. -/
def mF (F : Nat → List Nat) (k : Nat) : List Nat := (List.range k).flatMap (fun r => (F r).take 40)
theorem mF_succ (F : Nat → List Nat) (k : Nat) : mF F (k + 1) = mF F k ++ (F k).take 40 := by
  unfold mF
  rw [List.range_succ, List.flatMap_append]
  simp
theorem mF_len (F : Nat → List Nat) (k : Nat) : (mF F k).length ≤ 40 * k := by
  induction k with
  | zero => exact Nat.le_refl _
  | succ k ih => rw [mF_succ, List.length_append, List.length_take]; omega
theorem own_below {B : Nat} {w w' : World} {v : Value} {l : List Nat} (h : Own B w v l) (hb : Below w.heap.size w w') : Own B w' v l := by
  obtain ⟨h1, h2⟩ := h
  refine ⟨h1, ?_⟩
  rcases h2 with h2 | ⟨g, cap, cur, e, hg, hh, r⟩
  · exact .inl h2
  · exact .inr ⟨g, cap, cur, e, hg, (hb.block g (by exact (Array.getElem?_eq_some_iff.1 hh).1)).trans hh, r⟩
set_option maxHeartbeats 2000000 in
set_option maxRecDepth 100000 in
theorem walk (SUM : SumC) (MORE : MoreC) (a : Option Addr) (len cap : Nat) (A : Nat → Option Addr) (L C : Nat → Nat) (F : Nat → List Nat) (w : World) (hl : len ≤ cap) (hm : cap ≤ maxLen) (hin : ListsIn w a len cap A L C F) :
    Calls Try.prog 8 #[.slice a len cap] w fun e w' => e = .returned (.bool true) ∧ Below w.heap.size w w' := by
  have HL := Lib.hid (lives_any SUM)
  have HS := Lib.hid SUM
  have HMO := Lib.hid MORE
  have HI := Lib.hid hin
  have hm' := hm
  unfold maxLen at hm'
  clear SUM MORE hin
  go_enter Try.func8, Try.ntmps8
  go_wp2_with fail
  go_loopw [3, 4, 5] (fun v s i wr => ∃ k : Nat, k ≤ 6 ∧ k ≤ len ∧ i = .int .i64 k ∧ s = .int .i64 (sum (mF F k)) ∧ Hid (Own w.heap.size wr v (mF F k)) ∧ Hid (∀ x ∈ mF F k, x < 256) ∧ Hid (Below w.heap.size w wr)) (fun _ _ i _ => 6 - (intOf i).toNat)
  case atStart => exact ⟨0, by omega, by omega, rfl, by rw [show mF F 0 = [] by rfl, sum_nil]; rfl, World.ownsRow_nil _ _ _ _, (fun _ h => by cases h), Below.refl _ _⟩
  case round =>
    obtain ⟨k, hk6, hkl, rfl, rfl, HO, HBY, HB⟩ := hrel
    have hml := mF_len F k
    by_cases h6 : k < 6
    · by_cases hlt : k < len
      · obtain ⟨b, off, rfl, _, _, hr⟩ := HI.out.resolve_left (by omega)
        obtain ⟨hc0, hF, hLC, hC, hby, hrd, hnil⟩ := hr k hlt
        have hc : wr.cell? ⟨b, off + k, none⟩ = some (.slice (A k) (L k) (C k)) := (HB.out.cell (World.block_lt_of_cell? w _ hc0)).trans hc0
        obtain ⟨m, em⟩ : ∃ m, m = if 40 < L k then 40 else L k := ⟨_, rfl⟩
        have hm1 : m ≤ 40 ∧ m ≤ L k := by rw [em]; split <;> omega
        obtain ⟨hm1, hm2⟩ := hm1
        have hlen : ((F k).take 40).length = m := by rw [List.length_take, hF, em]; split <;> omega
        have hA := own_app wr w.heap.size _ (mF F k) HO.out HB.out.size (A k) ((F k).take 40) m (C k) hlen ((hrd.below HB.out).take _) (by omega) hnil
        have hbt : ∀ x ∈ (F k).take 40, x < 256 := fun x hx => hby x (List.mem_of_mem_take hx)
        have hM := fun W (hW : Below w.heap.size w W) => HMO.out (sum (mF F k)) (A k) ((F k).take 40) m (C k) W hlen (by omega) hbt ((hrd.below hW).take _)
        rw [moreF_sum _ _ HBY.out, ← mF_succ] at hM
        rw [← mF_succ] at hA
        have HBY2 : Hid (∀ x ∈ mF F (k + 1), x < 256) := by
          rw [mF_succ]
          intro x hx
          rcases List.mem_append.1 hx with hx | hx
          · exact HBY.out x hx
          · exact hbt x hx
        have HA := Lib.hid hA
        have HM := Lib.hid hM
        have HEM := Lib.hid em
        unfold maxLen at hC
        clear hr hc0 hF hby hrd hnil hlen hA hbt hM em
        generalize A k = Ak at *
        generalize L k = Lk at *
        generalize C k = Ck at *
        by_cases h40 : 40 < Lk
        · obtain rfl : m = 40 := by rw [HEM.out, if_pos h40]
          clear HEM
          go_wp2_with (at_builtin; refine wpList_app rfl _ _ 22 22 rfl u3 (.slice Ak 40 Ck) rfl rfl ?_; obtain ⟨R, W', hrun, hown, hbel⟩ := HA.out; refine ⟨R, W', hrun, ?_⟩; have HO2 := Lib.hid hown; have HB2 := Lib.hid (HB.out.trans (hbel.mono (Nat.le_refl _))); clear hrun hown hbel HA)
          refine (HM.out _ HB2.out).mono ?_
          rintro e w2 ⟨rfl, hb2⟩
          have HB3 := Lib.hid (HB2.out.trans (hb2.out.mono HB2.out.size))
          have HO3 := Lib.hid (own_below HO2.out hb2.out)
          go_wp2_with fail
          go_roundw
          case rel => exact ⟨k + 1, by omega, by omega, by go_num, rfl, HO3, HBY2, HB3⟩
          case measure => simp [intOf]; omega
        · obtain rfl : m = Lk := by rw [HEM.out, if_neg h40]
          clear HEM
          go_wp2_with (at_builtin; refine wpList_app rfl _ _ 22 22 rfl u3 (.slice Ak m Ck) rfl rfl ?_; obtain ⟨R, W', hrun, hown, hbel⟩ := HA.out; refine ⟨R, W', hrun, ?_⟩; have HO2 := Lib.hid hown; have HB2 := Lib.hid (HB.out.trans (hbel.mono (Nat.le_refl _))); clear hrun hown hbel HA)
          refine (HM.out _ HB2.out).mono ?_
          rintro e w2 ⟨rfl, hb2⟩
          have HB3 := Lib.hid (HB2.out.trans (hb2.out.mono HB2.out.size))
          have HO3 := Lib.hid (own_below HO2.out hb2.out)
          go_wp2_with fail
          go_roundw
          case rel => exact ⟨k + 1, by omega, by omega, by go_num, rfl, HO3, HBY2, HB3⟩
          case measure => simp [intOf]; omega
      · obtain rfl : k = len := by omega
        obtain ⟨A1, c1, rfl, hc1, hm1, hr1, hn1⟩ := crcLong.own_slice HO.out
        have hs0 := sum_lt _ HBY.out
        have hSUM := HS.out A1 (mF F k) _ c1 wr rfl (by omega) HBY.out hr1
        have HSUM := Lib.hid hSUM
        clear hSUM hr1 hn1 hc1 hm1
        generalize sum (mF F k) = S at *
        generalize (mF F k).length = M at *
        go_wp2_with fail
        refine HSUM.out.mono ?_
        rintro e w2 ⟨rfl, hb2⟩
        have HB2 := Lib.hid (HB.out.trans (hb2.out.mono HB.out.size))
        have hs1 : (S : Int) ≤ 4294967295 := by omega
        clear hb2
        go_wp2_with fail
        refine (HL.out _).mono ?_
        rintro e w6 ⟨rfl, B6⟩
        go_wp2_with fail
        go_ret
        exact ⟨rfl, HB2.out.trans (B6.out.mono HB2.out.size)⟩
    · obtain rfl : k = 6 := by omega
      by_cases hlt : 6 < len
      all_goals
        obtain ⟨A1, c1, rfl, hc1, hm1, hr1, hn1⟩ := crcLong.own_slice HO.out
        have hs0 := sum_lt _ HBY.out
        have hSUM := HS.out A1 (mF F 6) _ c1 wr rfl (by omega) HBY.out hr1
        have HSUM := Lib.hid hSUM
        clear hSUM hr1 hn1 hc1 hm1
        generalize sum (mF F 6) = S at *
        generalize (mF F 6).length = M at *
        go_wp2_with fail
        refine HSUM.out.mono ?_
        rintro e w2 ⟨rfl, hb2⟩
        have HB2 := Lib.hid (HB.out.trans (hb2.out.mono HB.out.size))
        have hs1 : (S : Int) ≤ 4294967295 := by omega
        clear hb2
        go_wp2_with fail
        refine (HL.out _).mono ?_
        rintro e w6 ⟨rfl, B6⟩
        go_wp2_with fail
        go_ret
        exact ⟨rfl, HB2.out.trans (B6.out.mono HB2.out.size)⟩
theorem choose_nat {X : Type} [Inhabited X] {n : Nat} {p : Nat → X → Prop} (h : ∀ r, r < n → ∃ x, p r x) : ∃ f : Nat → X, ∀ r, r < n → p r (f r) := by
  refine ⟨fun r => if hr : r < n then Classical.choose (h r hr) else default, fun r hr => ?_⟩
  show p r (if hr : r < n then Classical.choose (h r hr) else default)
  rw [dif_pos hr]
  exact Classical.choose_spec (h r hr)
/-- What the rows' opening hands over, in the walk's words. -/
theorem rows_in {w : World} {base : Nat} {x : Addr} {len cap : Nat} {A : Nat → Option Addr} {L C : Nat → Nat} {Z : Nat → List Int} (hl : len ≤ cap) (hm : cap ≤ maxLen)
    (hr : ∀ r, r < cap → w.cell? (x.add r) = some (.slice (A r) (L r) (C r)) ∧ L r ≤ C r ∧ C r ≤ maxLen ∧ (Z r).length = C r ∧ (∀ n ∈ Z r, (Lit.int .u8 n).wf = true) ∧ (A r = none → C r = 0) ∧
        ∀ a', A r = some a' → base ≤ a'.block ∧ ∀ c, c < C r → w.cell? (a'.add c) = some (.int .u8 ((Z r).getD c 0))) :
    ∃ F, ListsIn w (some x) len cap A L C F := by
  by_cases h0 : len = 0
  · exact ⟨fun _ => [], .inl h0⟩
  · have h1 := (hr 0 (by omega)).1
    obtain ⟨b, off, spot⟩ := x
    have hspot : spot = none := by simpa [Addr.add] using World.cell?_spot h1
    subst hspot
    have each : ∀ r, r < len → ∃ l : List Nat, w.cell? ⟨b, off + r, none⟩ = some (.slice (A r) (L r) (C r)) ∧ l.length = L r ∧ L r ≤ C r ∧ C r ≤ maxLen ∧ (∀ x ∈ l, x < 256) ∧ Rd w (A r) l ∧ (A r = none → C r = 0) := by
      intro r hrl
      obtain ⟨hc, hLC, hCm, hZ, hwf, hnil, hcell⟩ := hr r (by omega)
      have hc' : w.cell? ⟨b, off + r, none⟩ = some (.slice (A r) (L r) (C r)) := by rw [← Go.WideShapes.add_plain]; exact hc
      have hrow : IsRow .u8 w (A r) (L r) (C r) (Z r) := by
        cases hA : A r with
        | none =>
          have hC0 := hnil hA
          have hZ0 : Z r = [] := List.eq_nil_of_length_eq_zero (by omega)
          exact .inl ⟨rfl, by omega, hC0, hZ0⟩
        | some a' => exact .inr ⟨a', rfl, hLC, hCm, hZ, fun i hi => (hcell a' hA).2 i (by omega), hwf⟩
      obtain ⟨l, q1, q2, q3, q4, q5, q6⟩ := hrow.bytes
      exact ⟨l, hc', q1, q2, q3, q4, q5, q6⟩
    obtain ⟨F, hF⟩ := choose_nat each
    exact ⟨F, .inr ⟨b, off, rfl, hl, hm, hF⟩⟩
end Go.Proofs.Ytbaafbcdhgfpdaa.crcMore
