import Derived.Test.YtbaafbcdhgfpdaaClaw
import Derived.Deep.RegionHeld3
import Derived.Deep.RegionWith
namespace Go.Proofs.Ytbaafbcdhgfpdaa.crcPuts
open Go.RowKit Cr
theorem takeF_put (l : List Nat) (h : ∀ x ∈ l, x < 256) : takeF (l ++ le4 (sum l)) = (l, 0) := by
  have hl : (l ++ le4 (sum l)).length = l.length + 4 := by rw [List.length_append, le4_len]
  have h1 : (l ++ le4 (sum l)).take ((l ++ le4 (sum l)).length - 4) = l := by rw [hl, show l.length + 4 - 4 = l.length by omega]; exact List.take_left
  have hb : ∀ x ∈ l ++ le4 (sum l), x < 256 := by
    intro x hx
    rcases List.mem_append.1 hx with hx | hx
    · exact h x hx
    · exact le4_byte _ (sum_lt l h) x hx
  have hs := (take_stands (l ++ le4 (sum l)) hb (by omega)).1 (by rw [h1])
  unfold takeF
  rw [if_neg (by omega), if_pos hs, h1]
theorem OutO.full {w w' : World} {l : List Nat} {e : Ending} (h : OutO w l e w') : ∃ A n c, e = .returned (.slice A n c) ∧ Hid (Str w l A n w') ∧ n ≤ c ∧ c ≤ maxLen ∧ Hid (A = none → c = 0) := by
  obtain ⟨v, he, ho, hb⟩ := h
  rcases ho.2 with ⟨hv, hn⟩ | ⟨g, cap, cur, hv, _, hh, hc, hm, _, ht⟩
  · obtain rfl := List.eq_nil_of_length_eq_zero hn
    have hs : Str w [] none 0 w' := ⟨rfl, Rd.nil _ _, hb⟩
    exact ⟨none, 0, 0, by rw [he, hv], hs, Nat.le_refl _, Nat.zero_le _, fun _ => rfl⟩
  · subst hv
    have hr : Rd w' (some ⟨g, 0, none⟩) l := Rd.of_has (t := 5) (cs := cur) hh fun i hi => by
      have h1 : (l.map bv)[i]? = some (bv l[i]) := by simp [hi]
      rw [← ht, List.getElem?_take, if_pos (by omega)] at h1
      simpa using h1
    have hs : Str w l (some ⟨g, 0, none⟩) l.length w' := ⟨rfl, hr, hb⟩
    exact ⟨_, _, _, he, hs, hc, hm, fun e => by cases e⟩
set_option maxHeartbeats 2000000 in
theorem walk (SUM : SumC) (PUT : PutC) (TAKE : TakeC) (a0 : Option Addr) (len0 cap0 : Nat) (z0 : List Int) (a1 : Option Addr) (len1 cap1 : Nat) (z1 : List Int) (w : World) (w0 : IsRow .u8 w a0 len0 cap0 z0) (w1 : IsRow .u8 w a1 len1 cap1 z1) :
    Calls Try.prog 4 #[.slice a0 len0 cap0, .slice a1 len1 cap1] w fun e w' => e = .returned (.bool true) ∧ Below w.heap.size w w' := by
  obtain ⟨m, l, came, hm, hmc⟩ := w0.came
  obtain ⟨n, o, came', hn, hnc⟩ := w1.came
  clear w0 w1
  have HL := Lib.hid (lives_any SUM)
  have HP := Lib.hid PUT
  have HT := Lib.hid TAKE
  have HC := Lib.hid came
  have HC' := Lib.hid came'
  clear SUM PUT TAKE came came'
  go_enter Try.func4, Try.ntmps4
  go_wp2_with fail
  refine (HC.out.few _).mono ?_
  rintro e w1 ⟨rfl, rfl⟩
  go_wp2_with fail
  refine (HC'.out.few _).mono ?_
  rintro e w1 ⟨rfl, rfl⟩
  go_wp2_with fail
  refine (HP.out a0 l m cap0 a1 o n cap1 _ HC.out.len_ hmc (by omega) HC'.out.len_ hnc (by omega) HC'.out.bytes HC.out.rd HC'.out.rd HC.out.nil_ HC'.out.nil_ HC.out.cap_ HC'.out.cap_).mono ?_
  intro e w1 ho
  obtain ⟨A1, n1, c1, rfl, eq1, S1⟩ := ho.str
  clear ho eq1
  go_wp2_with fail
  refine (HP.out none [] 0 0 a1 o n cap1 _ rfl (Nat.le_refl _) (by omega) HC'.out.len_ hnc (by omega) HC'.out.bytes (Rd.nil _ _) (HC'.out.rd.below S1.out.2.2) (fun _ => rfl) HC'.out.nil_ (Nat.zero_le _) HC'.out.cap_).mono ?_
  intro e w2 ho
  rw [List.nil_append] at ho
  obtain ⟨A2, n2, c2, rfl, S2, hn2, hc2, H2⟩ := OutO.full ho
  clear ho
  have ob : ∀ x ∈ o ++ le4 (sum o), x < 256 := by
    intro x hx
    rcases List.mem_append.1 hx with hx | hx
    · exact HC'.out.bytes x hx
    · exact le4_byte _ (sum_lt o HC'.out.bytes) x hx
  have ol : n2 = n + 4 := by rw [← S2.out.1, List.length_append, le4_len, HC'.out.len_]
  have OL := Lib.hid ol
  have OB := Lib.hid ob
  have TP := Lib.hid (takeF_put o HC'.out.bytes)
  have S1' := Lib.hid (S1.out.later S2.out.2.2)
  clear ol ob S1
  go_wp2_with fail
  refine (HT.out A2 _ n2 c2 _ S2.out.1 hn2 hc2 (by have := OL.out; omega) OB.out S2.out.2.1 H2.out).mono ?_
  rintro e w3 ⟨A3, n3, c3, rfl, N3, hn3, R3, B3⟩
  rw [TP.out] at N3 R3 ⊢
  have S1'' := Lib.hid (S1'.out.later B3.out)
  clear S1' S2
  have hW : Below w.heap.size w w3 := S1''.out.2.2
  have cC0 := (S1''.out.later (Below.refl _ w3).drew).conv c1
  have cX0 : Sem.run Try.prog (convert 22 9 (.slice A3 n3 c3)) w3.drew = .ok (.string (bs o)) w3.drew := conv_len w3.drew A3 o n3 c3 N3.out R3.out
  have cO0 : Sem.run Try.prog (convert 22 9 (.slice a1 n cap1)) w3.drew = .ok (.string (bs o)) w3.drew := conv_len w3.drew a1 o n cap1 HC'.out.len_ (HC'.out.rd.below hW.drew)
  have HW := Lib.hid hW
  clear hW TP
  go_wp2_with fail
  go_region_with (first
    | (go_at_call 18; refine (refPut_any a0 l m cap0 a1 o n cap1 _ HC.out.len_ HC'.out.len_ (by omega) HC'.out.bytes (HC.out.rd.below HW.out.drew) (HC'.out.rd.below HW.out.drew) HC.out.nil_ HC'.out.nil_).mono ?_; intro e x1 ho; obtain ⟨A4, n4, c4, rfl, eq4, S4⟩ := ho.str; clear ho; have bb := (Below.refl _ w3).drew.trans S4.out.2.2; have cC1 := (S1''.out.later bb).conv c1; have cX1 := conv_len x1 A3 o n3 c3 N3.out (R3.out.below bb); have cO1 := conv_len x1 a1 o n cap1 HC'.out.len_ (HC'.out.rd.below (HW.out.trans (bb.mono HW.out.size))); have BX := Lib.hid (HW.out.trans (bb.mono HW.out.size)); clear bb)
    | (go_at_call 15; refine (HL.out _).mono ?_; rintro e x6 ⟨rfl, B6⟩))
  all_goals
    go_wp2_with fail
    go_ret
    exact ⟨rfl, BX.out.trans (B6.out.mono BX.out.size)⟩
end Go.Proofs.Ytbaafbcdhgfpdaa.crcPuts
