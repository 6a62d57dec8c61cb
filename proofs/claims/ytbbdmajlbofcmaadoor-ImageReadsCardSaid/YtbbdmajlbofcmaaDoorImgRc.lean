/-
  The document's image: its reader, a row read; what stands while a reader goes on.
-/
import Derived.Test.YtbbdmajlbofcmaaDoorLyRead
import Derived.Test.YtbbdmajlbofcmaaDoorImgRa
import Derived.Test.YtbbdmajlbofcmaaDoorImgRb
namespace Go.Proofs.YtbbdmajlbofcmaaDoor
open Go.RowKit Dg
set_option maxRecDepth 100000
def takF : Nat → Nat → Nat → List Nat → Nat × Nat × Nat
  | 0, _, _, _ => (0, 0, 2)
  | _ + 1, _, _, [] => (0, 0, 4)
  | f + 1, i, n, b :: l => if i = 9 ∧ 1 < b % 128 then (0, 0, 2) else if b < 128 then (if b = 0 ∧ 0 < i then (0, 0, 2) else (n + b % 128 * 128 ^ i, i + 1, 0)) else takF f (i + 1) (n + b % 128 * 128 ^ i) l
theorem pow9 : (128 : Nat) ^ 9 = 9223372036854775808 := by decide
theorem tak_eq : ∀ (f i n : Nat) (l : List Nat), f + i = 10 → (i ≤ 9 → n < 128 ^ i) → (∀ x ∈ l, x < 256) → takF f i n l = headF 18446744073709551615 f i n l
  | 0, _, _, _, _, _, _ => rfl
  | _ + 1, _, _, [], _, _, _ => rfl
  | f + 1, i, n, b :: l, hf, hn, hl => by
    have hb := hl b (by simp)
    have hn := hn (by omega)
    have hd : b % 128 < 128 := by omega
    have hp := Nat.pow_pos (n := i) (show 0 < 128 by omega)
    by_cases h9 : i = 9
    · subst h9
      rw [pow9] at hn
      by_cases h1 : 1 < b % 128
      · rw [takF, if_pos ⟨rfl, h1⟩, headF]
        by_cases h128 : 128 ≤ b
        · rw [if_pos h128]
          obtain rfl : f = 0 := by omega
          rfl
        · rw [if_neg h128, if_pos]
          right; left
          unfold join
          rw [pow9]
          omega
      · have hj : join 9 n (b % 128) = n + b % 128 * 128 ^ 9 := by unfold join; rw [pow9]; omega
        rw [takF, if_neg (by omega), headF]
        by_cases h128 : 128 ≤ b
        · rw [if_pos h128, if_neg (by omega), hj]
          exact tak_eq f 10 _ l (by omega) (by omega) (fun x hx => hl x (by simp [hx]))
        · rw [if_neg h128, if_pos (by omega), hj]
          by_cases h0 : b = 0
          · rw [if_pos ⟨h0, by omega⟩, if_pos (.inl ⟨by omega, by omega⟩)]
          · rw [if_neg (by omega), if_neg]
            rw [pow9]; omega
    · have hi : i < 9 := by omega
      have hlt := join_lt hi hn hd
      have hp9 := pow_le_nine (i + 1) (by omega)
      have hj : join i n (b % 128) = n + b % 128 * 128 ^ i := by
        unfold join
        have h1 : b % 128 * 128 ^ i ≤ 127 * 128 ^ i := Nat.mul_le_mul_right _ (by omega)
        have he : (128 : Nat) ^ (i + 1) = 128 ^ i * 128 := Nat.pow_succ ..
        rw [Nat.mod_eq_of_lt (by omega)]
      rw [takF, if_neg (by omega), headF]
      by_cases h128 : 128 ≤ b
      · rw [if_pos h128, if_neg (by omega), hj]
        exact tak_eq f (i + 1) _ l (by omega) (fun _ => by rw [← hj]; exact hlt) (fun x hx => hl x (by simp [hx]))
      · rw [if_neg h128, if_pos (by omega), hj]
        have hq : (n + b % 128 * 128 ^ i) / 128 ^ i = b % 128 := by
          rw [Nat.add_mul_div_right _ _ hp, Nat.div_eq_of_lt hn]; omega
        by_cases h0 : b = 0 ∧ 0 < i
        · rw [if_pos h0, if_pos (.inl ⟨h0.2, by omega⟩)]
        · rw [if_neg h0, if_neg]
          rw [hq]
          have := hj ▸ hlt
          omega
set_option maxHeartbeats 1000000 in
theorem take_some (b off : Nat) (l : List Nat) (c : Nat) (w : World) (hn : l.length ≤ 1000000) (hl : ∀ x ∈ l, x < 256) (hc : ∀ i (h : i < l.length), w.cell? ⟨b, off + i, none⟩ = some (bv l[i])) :
    Calls Tryd.prog 83 #[.slice (some ⟨b, off, none⟩) l.length c] w (HeadOut (takF 10 0 0 l) w) := by
  have HC := Lib.hid hc
  clear hc
  generalize hR : takF 10 0 0 l = R
  have HR0 := Lib.hid hR
  clear hR
  go_enter Tryd.func83, Tryd.ntmps83
  go_wp2_with fail
  go_loop [5, 6, 7] (fun n p i => ∃ k N P : Nat, k ≤ 10 ∧ i = .int .i64 k ∧ n = .int .u64 N ∧ p = .int .u64 P ∧ Hid (k ≤ 9 → N < 128 ^ k ∧ P = 128 ^ k) ∧ k ≤ l.length ∧ Hid (takF (10 - k) k N (l.drop k) = R)) (fun _ _ i => 10 - (intOf i).toNat)
  case atStart => exact ⟨0, 0, 1, by omega, rfl, rfl, rfl, fun _ => by simp, by omega, HR0.out⟩
  case round =>
    clear HR0
    obtain ⟨k, N, P, hk, rfl, rfl, rfl, hN, hkl, HR⟩ := hrel
    by_cases h10 : k < 10
    · obtain ⟨f, hf⟩ : ∃ f, f + 1 = 10 - k := ⟨9 - k, by omega⟩
      have HF := Lib.hid hf
      clear hf
      obtain ⟨hN1, hP⟩ := hN.out (by omega)
      have hP9 : P ≤ 9223372036854775808 := by rw [hP]; exact pow_le_nine k (by omega)
      have hNP : N < P := by rw [hP]; exact hN1
      have HP := Lib.hid hP
      clear hP hN hN1
      have hkz : (k : Int) < 10 := by omega
      by_cases hlen : k < l.length
      · have hcell := HC.out k hlen
        have hb := hl l[k] (List.getElem_mem hlen)
        have HD := Lib.hid (List.drop_eq_getElem_cons hlen)
        generalize l[k] = x at *
        unfold bv at hcell
        have HR1 : Hid (takF (f + 1) k N (x :: l.drop (k + 1)) = R) := by show _ = _; rw [HF.out, ← HD.out]; exact HR.out
        clear HR HD
        obtain ⟨d, hd⟩ : ∃ d, x % 128 = d := ⟨_, rfl⟩
        have hdb : d < 128 := by omega
        have ht : (x : Int) % 128 = (d : Int) := by omega
        have HDX := Lib.hid hd
        have hlenz : (k : Int) < (l.length : Int) := by omega
        by_cases hbad : k = 9 ∧ 1 < d
        · obtain ⟨rfl, hd1⟩ := hbad
          have hd1z : (1 : Int) < (d : Int) := by omega
          have e : R = (0, 0, 2) := by rw [← HR1.out, takF, if_pos ⟨rfl, by rw [HDX.out]; exact hd1⟩]
          have H := Lib.hid e
          clear e hd HR1
          go_wp2_with fail
          go_ret3
          exact ⟨by rw [H.out]; rfl, rfl⟩
        · have hQ : d * P ≤ 9223372036854775808 := by
            by_cases h9 : k = 9
            · have h1 : d ≤ 1 := by omega
              have := Nat.mul_le_mul_right P h1
              omega
            · have h1 : d * P ≤ 127 * P := Nat.mul_le_mul_right _ (by omega)
              have h2 := pow_le_nine (k + 1) (by omega)
              rw [Nat.pow_succ, ← HP.out] at h2
              omega
          obtain ⟨Q, hQe⟩ : ∃ Q, d * P = Q := ⟨_, rfl⟩
          rw [hQe] at hQ
          have hqz : (d : Int) * (P : Int) = (Q : Int) := by rw [← hQe]; simp
          have W1 : IntKind.u64.wrap ((d : Int) * (P : Int)) = (Q : Int) := by rw [IntKind.wrap_u64, hqz]; omega
          have W2 : IntKind.u64.wrap ((N : Int) + (Q : Int)) = ((N + Q : Nat) : Int) := by rw [IntKind.wrap_u64]; omega
          obtain ⟨P', hP'⟩ : ∃ P' : Nat, P' = P * 128 % 18446744073709551616 := ⟨_, rfl⟩
          have W3 : IntKind.u64.wrap ((P : Int) * 128) = (P' : Int) := by rw [IntKind.wrap_u64, hP']; omega
          have HRG := HR1.out
          rw [takF, if_neg (by rw [HDX.out]; exact hbad), HDX.out, ← HP.out, hQe] at HRG
          have HRG := Lib.hid HRG
          have HNX : Hid (k + 1 ≤ 9 → N + Q < 128 ^ (k + 1) ∧ P' = 128 ^ (k + 1)) := fun h => by
            have h2 := pow_le_nine (k + 1) h
            rw [Nat.pow_succ, ← HP.out] at h2 ⊢
            have h1 : d * P ≤ 127 * P := Nat.mul_le_mul_right _ (by omega)
            rw [hQe] at h1
            exact ⟨by omega, by rw [hP']; exact Nat.mod_eq_of_lt (by omega)⟩
          obtain ⟨M, hM⟩ : ∃ M, N + Q = M := ⟨_, rfl⟩
          rw [hM] at HRG HNX W2
          have HNM : Hid (x = 0 → M = N) := fun h => by
            have h0 : d = 0 := by omega
            rw [h0, Nat.zero_mul] at hQe
            omega
          have hMb : M < 18446744073709551616 := by omega
          have HBAD := Lib.hid hbad
          clear hd hQe hqz hP' HR1 hM HDX hQ
          have hkb : k = 9 → (d : Int) ≤ 1 := fun h => by have := HBAD.out; omega
          by_cases h128 : x < 128
          · have hx1 : (x : Int) < 128 := by omega
            rw [if_pos h128] at HRG
            by_cases h0 : x = 0 ∧ 0 < k
            · have e : R = (0, 0, 2) := by rw [← HRG.out, if_pos h0]
              have H := Lib.hid e
              obtain ⟨rfl, h0k⟩ := h0
              have h0z : (0 : Int) < (k : Int) := by omega
              clear e HRG HBAD hbad
              by_cases h9 : k = 9
              all_goals
                first | subst h9 | skip
                go_wp2_with fail
                go_ret3
                exact ⟨by rw [H.out]; rfl, rfl⟩
            · have e : R = (M, k + 1, 0) := by rw [← HRG.out, if_neg h0]
              have H := Lib.hid e
              have hx0 : x = 0 ∨ 0 < x := by omega
              have hkx : x = 0 → k = 0 := fun h => by omega
              have HKX := Lib.hid hkx
              clear e HRG HBAD hbad h0 hkx
              rcases hx0 with rfl | hx0
              · have hk00 : ¬ ((0 : Int) < (k : Int)) := by have := HKX.out rfl; omega
                have hk9 : ((k : Int) == 9) = false := by simp; omega
                go_wp2_with fail
                go_ret3
                exact ⟨by rw [H.out, HNM.out (by first | rfl | trivial)]; simp, rfl⟩
              · have hxq : ((x : Int) == 0) = false := by simp; omega
                by_cases h9 : k = 9
                all_goals
                  first | subst h9 | skip
                  go_wp2_with fail
                  go_ret3
                  exact ⟨by rw [H.out]; simp, rfl⟩
          · rw [if_neg h128] at HRG
            have hx1 : ¬ (x : Int) < 128 := by omega
            have hRN : Hid (takF (10 - (k + 1)) (k + 1) M (l.drop (k + 1)) = R) := by show _ = _; rw [show 10 - (k + 1) = f by have := HF.out; omega]; exact HRG.out
            clear HRG HBAD hbad
            by_cases h9 : k = 9
            all_goals
              first | subst h9 | skip
              go_wp2_with fail
              go_round
              case rel => exact ⟨_, M, P', by omega, by go_num, rfl, rfl, HNX, by omega, hRN⟩
              case measure => first | (simp [intOf]; done) | (simp [intOf]; omega)
      · obtain rfl : k = l.length := by omega
        have e : R = (0, 0, 4) := by rw [← HR.out, ← HF.out, List.drop_length, takF]
        have H := Lib.hid e
        clear e
        go_wp2_with fail
        go_ret3
        exact ⟨by rw [H.out]; rfl, rfl⟩
    · obtain rfl : k = 10 := by omega
      have e : R = (0, 0, 2) := by rw [← HR.out, takF]
      have H := Lib.hid e
      clear e
      go_wp2_with fail
      go_ret3
      exact ⟨by rw [H.out]; rfl, rfl⟩
set_option maxHeartbeats 400000 in
theorem take_none (A : Option Addr) (c : Nat) (w : World) :
    Calls Tryd.prog 83 #[.slice A 0 c] w (HeadOut (0, 0, 4) w) := by
  go_enter Tryd.func83, Tryd.ntmps83
  go_wp2_with fail
  go_loop [5, 6, 7] (fun n p i => i = .int .i64 0 ∧ n = .int .u64 0 ∧ p = .int .u64 1) (fun _ _ _ => 0)
  case atStart => exact ⟨rfl, rfl, rfl⟩
  case round =>
    obtain ⟨rfl, rfl, rfl⟩ := hrel
    go_wp2_with fail
    go_ret3
    exact ⟨rfl, rfl⟩
theorem take_any (A : Option Addr) (l : List Nat) (c : Nat) (w : World) (hn : l.length ≤ 1000000) (hl : ∀ x ∈ l, x < 256) (h : Rd w A l) :
    Calls Tryd.prog 83 #[.slice A l.length c] w (HeadOut (headF 18446744073709551615 10 0 0 l) w) := by
  rw [← tak_eq 10 0 0 l rfl (fun _ => by simp) hl]
  rcases l with _ | ⟨x, l⟩
  · exact take_none A c w
  · obtain ⟨b, off, rfl, hc⟩ := h (by simp)
    exact take_some b off _ c w hn hl hc
end Go.Proofs.YtbbdmajlbofcmaaDoor
namespace Go.Proofs.YtbbdmajlbofcmaaDoor
open Go.RowKit Dg
set_option maxRecDepth 100000
/-- The document's reader at block g has the bytes l left, which lie below block D, and the error e. -/
def RrD (D : Nat) (w : World) (g : Nat) (l : List Nat) (e : Nat) : Prop :=
  ∃ A c, Has w g 33 #[.slice A l.length c, .int .i64 (e : Int)] ∧ l.length ≤ c ∧ Rd w A l ∧ (l ≠ [] → ∀ a, A = some a → a.block < D)
theorem RrD.keep {D : Nat} {w w' : World} {g : Nat} {l : List Nat} {e : Nat} (h : RrD D w g l e) (hg : w'.heap[g]? = w.heap[g]?) (hb : Below D w w') : RrD D w' g l e := by
  obtain ⟨A, c, h1, h2, h3, h4⟩ := h
  refine ⟨A, c, hg.trans h1, h2, fun hne => ?_, h4⟩
  obtain ⟨b, off, e, hc⟩ := h3 hne
  have hlt : b < D := h4 hne _ e
  refine ⟨b, off, e, fun i hi => ?_⟩
  rw [← hc i hi]
  exact World.cell?_of_block (w := w) (hb.block b hlt)
theorem RrD.lt {D : Nat} {w : World} {g : Nat} {l : List Nat} {e : Nat} (h : RrD D w g l e) : g < w.heap.size := by
  obtain ⟨A, c, h1, _⟩ := h
  exact h1.lt
theorem head_pos (most : Nat) : ∀ (f i n : Nat) (l : List Nat), (headF most f i n l).2.2 = 0 → i < (headF most f i n l).2.1
  | 0, _, _, _ => by simp [headF]
  | _ + 1, _, _, [] => by simp [headF]
  | f + 1, i, n, b :: l => by
    rw [headF]
    split
    · intro h; have := head_pos most f (i + 1) _ l h; omega
    · split
      · simp
      · simp
theorem head_most (m : Nat) (hm : m ≤ 18446744073709551615) : ∀ (f i n : Nat) (l : List Nat), f + i = 10 → (i ≤ 9 → n < 128 ^ i) → headF m f i n l = if (headF 18446744073709551615 f i n l).2.2 = 0 ∧ m < (headF 18446744073709551615 f i n l).1 then (0, 0, 2) else headF 18446744073709551615 f i n l
  | 0, _, _, _, _, _ => by simp [headF]
  | _ + 1, _, _, [], _, _ => by simp [headF]
  | f + 1, i, n, b :: l, hf, hn => by
    have hn := hn (by omega)
    have hb := join_big (n := n) (d := b % 128) i (by omega) hn
    rw [headF, headF]
    by_cases h128 : 128 ≤ b
    · rw [if_pos h128, if_pos h128]
      exact head_most m hm f (i + 1) _ l (by omega) (fun h => join_lt (by omega) hn (by omega))
    · rw [if_neg h128, if_neg h128]
      by_cases h1 : (0 < i ∧ b % 128 = 0) ∨ join i n (b % 128) / 128 ^ i ≠ b % 128
      · have h5 : ∀ q : Nat, (0 < i ∧ b % 128 = 0) ∨ join i n (b % 128) / 128 ^ i ≠ b % 128 ∨ q < join i n (b % 128) := fun q => by
          rcases h1 with h | h
          · exact .inl h
          · exact .inr (.inl h)
        rw [if_pos (h5 m), if_pos (h5 _)]
        split <;> rfl
      · have h2 : ¬ ((0 < i ∧ b % 128 = 0) ∨ join i n (b % 128) / 128 ^ i ≠ b % 128 ∨ 18446744073709551615 < join i n (b % 128)) := by
          rintro (h | h | h)
          · exact h1 (.inl h)
          · exact h1 (.inr h)
          · omega
        rw [if_neg h2]
        by_cases h3 : m < join i n (b % 128)
        · rw [if_pos (.inr (.inr h3)), if_pos ⟨rfl, h3⟩]
        · have h4 : ¬ ((0 < i ∧ b % 128 = 0) ∨ join i n (b % 128) / 128 ^ i ≠ b % 128 ∨ m < join i n (b % 128)) := by
            rintro (h | h | h)
            · exact h1 (.inl h)
            · exact h1 (.inr h)
            · exact h3 h
          rw [if_neg h4, if_neg (fun h => h3 h.2)]
theorem numF_most (l : List Nat) (e : Nat) : numF 9223372036854775807 l e = if e ≠ 0 then (0, l, e) else if (headF 18446744073709551615 10 0 0 l).2.2 ≠ 0 then (0, l, (headF 18446744073709551615 10 0 0 l).2.2) else if 9223372036854775807 < (headF 18446744073709551615 10 0 0 l).1 then (0, l, 2) else ((headF 18446744073709551615 10 0 0 l).1, l.drop (headF 18446744073709551615 10 0 0 l).2.1, 0) := by
  unfold numF
  rw [head_most 9223372036854775807 (by omega) 10 0 0 l rfl (fun _ => by simp)]
  generalize headF 18446744073709551615 10 0 0 l = R
  obtain ⟨a, b, c⟩ := R
  by_cases he : e = 0
  · by_cases h3 : c = 0
    · by_cases hb : 9223372036854775807 < a <;> simp [he, h3, hb]
    · simp [he, h3]
  · simp [he]
def StepR (D : Nat) (w : World) (g : Nat) (v : Value) (l : List Nat) (e : Nat) (x : Ending) (w' : World) : Prop :=
  x = .returned v ∧ RrD D w' g l e ∧ w.grownBy w' (some g)
theorem rr_err {D : Nat} {w : World} {g : Nat} {l : List Nat} {e : Nat} {A : Option Addr} {c : Nat} (h1 : Has w g 33 #[.slice A l.length c, .int .i64 (e : Int)]) (h2 : l.length ≤ c) (h3 : Rd w A l) (h4 : l ≠ [] → ∀ a, A = some a → a.block < D) (e' : Nat) :
    RrD D (w.setCell ⟨g, 1, none⟩ (.int .i64 (e' : Int))) g l e' :=
  ⟨A, c, h1.put 1 _, h2, h3.turn (grown_set w g 1 _) h1 (rdr_cells _ _ _ _), h4⟩
theorem rr_drop {D : Nat} {w : World} {g b off : Nat} {l : List Nat} {e : Nat} {c : Nat} (h1 : Has w g 33 #[.slice (some ⟨b, off, none⟩) l.length c, .int .i64 (e : Int)]) (h2 : l.length ≤ c) (h3 : Rd w (some ⟨b, off, none⟩) l) (hb : b < D) (k : Nat) (hk : k ≤ l.length) :
    RrD D (w.setCell ⟨g, 0, none⟩ (.slice (if c = k then some ⟨b, off, none⟩ else some ⟨b, off + k, none⟩) (l.length - k) (c - k))) g (l.drop k) e := by
  refine ⟨if c = k then some ⟨b, off, none⟩ else some ⟨b, off + k, none⟩, c - k, ?_, by rw [List.length_drop]; omega, ?_, fun hne a ha => ?_⟩
  · rw [List.length_drop]; exact h1.put 0 _
  · refine Rd.turn ?_ (grown_set w g 0 _) h1 (rdr_cells _ _ _ _)
    intro hne
    have hlt : k < l.length := by
      rcases Nat.lt_or_ge k l.length with h | h
      · exact h
      · exact absurd (List.drop_eq_nil_of_le h) hne
    rw [if_neg (by omega)]
    have h := h3.drop k hne
    exact h
  · split at ha <;> (injection ha with ha; subst ha; exact hb)
section
variable {D : Nat} (g : Nat) (l : List Nat) (e : Nat) (w : World)
set_option maxHeartbeats 1000000 in
theorem RByte_get (h : RrD D w g l e) (hl : ∀ x ∈ l, x < 256) (hb : l.length ≤ 1000000) :
    Calls Tryd.prog 47 #[.pointer (some ⟨g, 0, none⟩)] w (StepR D w g (.int .i64 (byteF l e).1) (byteF l e).2.1 (byteF l e).2.2) := by
  obtain ⟨A, c, hh, hn, hr, hdd⟩ := h
  have HH := Lib.hid hh
  have HR := Lib.hid hr
  have HDD := Lib.hid hdd
  have c0 : w.cell? ⟨g, 0, none⟩ = some (.slice A l.length c) := hh.cell 0
  have c1 : w.cell? ⟨g, 1, none⟩ = some (.int .i64 e) := hh.cell 1
  have f0 := hh.free 0
  have f1 := hh.free 1
  clear hh hr hdd
  by_cases he : e = 0
  · subst he
    rcases l with _ | ⟨y, t⟩
    · have c0' : w.cell? ⟨g, 0, none⟩ = some (.slice A 0 c) := c0
      clear c0
      go_enter Tryd.func47, Tryd.ntmps47
      go_wp2_with fail
      go_ret
      exact ⟨rfl, rr_err HH.out hn HR.out HDD.out 4, grown_set w g 1 _⟩
    · obtain ⟨b, off, rfl, hx⟩ := HR.out (by simp)
      have cy : w.cell? ⟨b, off, none⟩ = some (.int .u8 y) := hx 0 (by simp)
      have hbD := HDD.out (by simp) _ rfl
      simp only at hbD
      clear hx
      have HRD := Lib.hid (rr_drop HH.out hn HR.out hbD 1 (by simp))
      have hp : (((y :: t).length : Int) == 0) = false := by simp; omega
      have hp2 : (0 : Int) < ((y :: t).length : Int) := by rw [List.length_cons]; omega
      have hp3 : (1 : Int) ≤ ((y :: t).length : Int) := by rw [List.length_cons]; omega
      have hy := hl y (by simp)
      have hyw : wrap64 (y : Int) = (y : Int) := by unfold wrap64; omega
      have HL := Lib.hid (show (y :: t).length = t.length + 1 from rfl)
      generalize hL : (y :: t).length = L at *
      have hcc : c = 1 ∨ c ≠ 1 := Decidable.em _
      clear hL
      rcases hcc with hcc | hcc
      all_goals
        first | rw [if_pos hcc] at HRD | rw [if_neg hcc] at HRD
        go_enter Tryd.func47, Tryd.ntmps47
        go_wp2_with fail
        go_ret
        exact ⟨rfl, by first | exact HRD.out | (have h := HRD.out; rw [hcc] at h; exact h), grown_set w g 0 _⟩
  · rw [byteF_err l he]
    have g1 : ((e : Int) == 0) = false := by simp; omega
    have g2 : ((e : Int) != 0) = true := by simp; omega
    have HE := Lib.hid he
    clear he
    go_enter Tryd.func47, Tryd.ntmps47
    go_wp2_with fail
    go_ret
    exact ⟨rfl, ⟨A, c, HH.out, hn, HR.out, HDD.out⟩, grown_refl _ _⟩
set_option maxHeartbeats 2000000 in
theorem RSigned_get (h : RrD D w g l e) (hl : ∀ x ∈ l, x < 256) (hb : l.length ≤ 1000000) :
    Calls Tryd.prog 48 #[.pointer (some ⟨g, 0, none⟩)] w (StepR D w g (.int .i64 (zag (numF 18446744073709551615 l e).1)) (numF 18446744073709551615 l e).2.1 (numF 18446744073709551615 l e).2.2) := by
  obtain ⟨A, c, hh, hn, hr, hdd⟩ := h
  have HH := Lib.hid hh
  have HR := Lib.hid hr
  have HDD := Lib.hid hdd
  have HT := Lib.hid (take_any A l c w hb hl hr)
  have hle := head_len 18446744073709551615 10 0 0 l
  have hbg := head_big 18446744073709551615 10 0 0 l
  have HPOS := Lib.hid (head_pos 18446744073709551615 10 0 0 l)
  have c0 : w.cell? ⟨g, 0, none⟩ = some (.slice A l.length c) := hh.cell 0
  have c1 : w.cell? ⟨g, 1, none⟩ = some (.int .i64 e) := hh.cell 1
  have f0 := hh.free 0
  have f1 := hh.free 1
  clear hh hr hdd
  have HN : Hid (numF 18446744073709551615 l e = if e ≠ 0 then (0, l, e) else if (headF 18446744073709551615 10 0 0 l).2.2 ≠ 0 then (0, l, (headF 18446744073709551615 10 0 0 l).2.2) else ((headF 18446744073709551615 10 0 0 l).1, l.drop (headF 18446744073709551615 10 0 0 l).2.1, 0)) := rfl
  obtain ⟨NF, hNF⟩ : ∃ x, numF 18446744073709551615 l e = x := ⟨_, rfl⟩
  rw [hNF] at HN
  rw [hNF]
  clear hNF
  generalize headF 18446744073709551615 10 0 0 l = R at *
  obtain ⟨r1, r2, r3⟩ := R
  simp only at hle hbg HN
  by_cases he : e = 0
  · subst he
    have hNF2 := HN.out
    rw [if_neg (by simp)] at hNF2
    by_cases h3 : r3 = 0
    · subst h3
      rw [if_neg (by simp)] at hNF2
      have HN2 := Lib.hid hNF2
      clear HN hNF2
      have hk : r2 ≤ l.length := by omega
      have hkz : (r2 : Int) ≤ (l.length : Int) := by omega
      have hpos : 0 < r2 := HPOS.out rfl
      have hlne : l ≠ [] := by rintro rfl; simp at hk; omega
      obtain ⟨b, off, rfl, _⟩ := HR.out hlne
      have hbD := HDD.out hlne _ rfl
      simp only at hbD
      have HRD := Lib.hid (rr_drop HH.out hn HR.out hbD r2 hk)
      have hcc : c = r2 ∨ c ≠ r2 := Decidable.em _
      have hpar : (r1 % 2 = 0 ∧ (r1 : Int) % 2 = 0 ∧ zag r1 = (r1 : Int) / 2) ∨ (r1 % 2 = 1 ∧ (r1 : Int) % 2 = 1 ∧ zag r1 = -((r1 : Int) / 2) - 1) := by
        unfold zag
        rcases Nat.mod_two_eq_zero_or_one r1 with h | h
        · left; refine ⟨h, by omega, ?_⟩; rw [if_pos h]; omega
        · right; refine ⟨h, by omega, ?_⟩; rw [if_neg (by omega)]; omega
      clear hlne HPOS
      rcases hcc with hcc | hcc
      all_goals
        first | (rw [if_pos hcc] at HRD; subst hcc; rw [Nat.sub_self, show l.length - c = 0 by omega] at HRD) | rw [if_neg hcc] at HRD
        rcases hpar with ⟨_, hp, hz⟩ | ⟨_, hp, hz⟩
      all_goals
        have HZ := Lib.hid hz
        clear hz
        go_enter Tryd.func48, Tryd.ntmps48
        go_wp2_with fail
        refine HT.out.mono ?_
        rintro x w1 ⟨rfl, rfl⟩
        go_wp2_with fail
        go_ret
        exact ⟨by rw [HN2.out]; show _ = Ending.returned (.int .i64 (zag r1)); rw [HZ.out]; rfl, by rw [HN2.out]; exact HRD.out, grown_set w g 0 _⟩
    · rw [if_pos h3] at hNF2
      have HN2 := Lib.hid hNF2
      have g1 : ((r3 : Int) == 0) = false := by simp; omega
      have g2 : ((r3 : Int) != 0) = true := by simp; omega
      clear HN hNF2 h3
      go_enter Tryd.func48, Tryd.ntmps48
      go_wp2_with fail
      refine HT.out.mono ?_
      rintro x w1 ⟨rfl, rfl⟩
      go_wp2_with fail
      go_ret
      exact ⟨by rw [HN2.out]; show _ = Ending.returned (.int .i64 (zag 0)); rw [zag_zero]; rfl, by rw [HN2.out]; exact rr_err HH.out hn HR.out HDD.out r3, grown_set w g 1 _⟩
  · have hNF2 := HN.out
    rw [if_pos he] at hNF2
    have HN2 := Lib.hid hNF2
    have g1 : ((e : Int) == 0) = false := by simp; omega
    have g2 : ((e : Int) != 0) = true := by simp; omega
    clear he HN hNF2
    go_enter Tryd.func48, Tryd.ntmps48
    go_wp2_with fail
    go_ret
    exact ⟨by rw [HN2.out]; show _ = Ending.returned (.int .i64 (zag 0)); rw [zag_zero]; rfl, by rw [HN2.out]; exact ⟨A, c, HH.out, hn, HR.out, HDD.out⟩, grown_refl _ _⟩
set_option maxHeartbeats 2000000 in
theorem RNumber_get (h : RrD D w g l e) (hl : ∀ x ∈ l, x < 256) (hb : l.length ≤ 1000000) :
    Calls Tryd.prog 84 #[.pointer (some ⟨g, 0, none⟩)] w (StepR D w g (.int .i64 ((numF 9223372036854775807 l e).1 : Int)) (numF 9223372036854775807 l e).2.1 (numF 9223372036854775807 l e).2.2) := by
  obtain ⟨A, c, hh, hn, hr, hdd⟩ := h
  have HH := Lib.hid hh
  have HR := Lib.hid hr
  have HDD := Lib.hid hdd
  have HT := Lib.hid (take_any A l c w hb hl hr)
  have hle := head_len 18446744073709551615 10 0 0 l
  have hbg := head_big 18446744073709551615 10 0 0 l
  have HPOS := Lib.hid (head_pos 18446744073709551615 10 0 0 l)
  have c0 : w.cell? ⟨g, 0, none⟩ = some (.slice A l.length c) := hh.cell 0
  have c1 : w.cell? ⟨g, 1, none⟩ = some (.int .i64 e) := hh.cell 1
  have f0 := hh.free 0
  have f1 := hh.free 1
  clear hh hr hdd
  have HN : Hid (numF 9223372036854775807 l e = if e ≠ 0 then (0, l, e) else if (headF 18446744073709551615 10 0 0 l).2.2 ≠ 0 then (0, l, (headF 18446744073709551615 10 0 0 l).2.2) else if 9223372036854775807 < (headF 18446744073709551615 10 0 0 l).1 then (0, l, 2) else ((headF 18446744073709551615 10 0 0 l).1, l.drop (headF 18446744073709551615 10 0 0 l).2.1, 0)) := numF_most l e
  obtain ⟨NF, hNF⟩ : ∃ x, numF 9223372036854775807 l e = x := ⟨_, rfl⟩
  rw [hNF] at HN
  rw [hNF]
  clear hNF
  generalize headF 18446744073709551615 10 0 0 l = R at *
  obtain ⟨r1, r2, r3⟩ := R
  simp only at hle hbg HN
  by_cases he : e = 0
  · subst he
    have hNF2 := HN.out
    rw [if_neg (by simp)] at hNF2
    by_cases h3 : r3 = 0
    · subst h3
      rw [if_neg (by simp)] at hNF2
      have HN2 := Lib.hid hNF2
      clear HN hNF2
      have hk : r2 ≤ l.length := by omega
      have hkz : (r2 : Int) ≤ (l.length : Int) := by omega
      have hpos : 0 < r2 := HPOS.out rfl
      have hlne : l ≠ [] := by rintro rfl; simp at hk; omega
      obtain ⟨b, off, rfl, _⟩ := HR.out hlne
      have hbD := HDD.out hlne _ rfl
      simp only at hbD
      by_cases hbig : 9223372036854775807 < r1
      · have hbz : (9223372036854775807 : Int) < (r1 : Int) := by omega
        have HN3 := Lib.hid (HN2.out.trans (if_pos hbig))
        clear HN2 hlne HPOS
        go_enter Tryd.func84, Tryd.ntmps84
        go_wp2_with fail
        refine HT.out.mono ?_
        rintro x w1 ⟨rfl, rfl⟩
        go_wp2_with fail
        go_ret
        exact ⟨by rw [HN3.out]; rfl, by rw [HN3.out]; exact rr_err HH.out hn HR.out HDD.out 2, grown_set w g 1 _⟩
      · have HN3 := Lib.hid (HN2.out.trans (if_neg hbig))
        have hbz : ¬ (9223372036854775807 : Int) < (r1 : Int) := by omega
        have hw1 : wrap64 (r1 : Int) = (r1 : Int) := by unfold wrap64; omega
        have HRD := Lib.hid (rr_drop HH.out hn HR.out hbD r2 hk)
        have hcc : c = r2 ∨ c ≠ r2 := Decidable.em _
        clear HN2 hlne HPOS
        rcases hcc with hcc | hcc
        all_goals
          first | (rw [if_pos hcc] at HRD; subst hcc; rw [Nat.sub_self, show l.length - c = 0 by omega] at HRD) | rw [if_neg hcc] at HRD
          go_enter Tryd.func84, Tryd.ntmps84
          go_wp2_with fail
          refine HT.out.mono ?_
          rintro x w1 ⟨rfl, rfl⟩
          go_wp2_with fail
          go_ret
          exact ⟨by rw [HN3.out]; rfl, by rw [HN3.out]; exact HRD.out, grown_set w g 0 _⟩
    · rw [if_pos h3] at hNF2
      have HN2 := Lib.hid hNF2
      have g1 : ((r3 : Int) == 0) = false := by simp; omega
      have g2 : ((r3 : Int) != 0) = true := by simp; omega
      clear HN hNF2 h3
      go_enter Tryd.func84, Tryd.ntmps84
      go_wp2_with fail
      refine HT.out.mono ?_
      rintro x w1 ⟨rfl, rfl⟩
      go_wp2_with fail
      go_ret
      exact ⟨by rw [HN2.out]; rfl, by rw [HN2.out]; exact rr_err HH.out hn HR.out HDD.out r3, grown_set w g 1 _⟩
  · have hNF2 := HN.out
    rw [if_pos he] at hNF2
    have HN2 := Lib.hid hNF2
    have g1 : ((e : Int) == 0) = false := by simp; omega
    have g2 : ((e : Int) != 0) = true := by simp; omega
    clear he HN hNF2
    go_enter Tryd.func84, Tryd.ntmps84
    go_wp2_with fail
    go_ret
    exact ⟨by rw [HN2.out]; rfl, by rw [HN2.out]; exact ⟨A, c, HH.out, hn, HR.out, HDD.out⟩, grown_refl _ _⟩
end
end Go.Proofs.YtbbdmajlbofcmaaDoor
namespace Go.Proofs.YtbbdmajlbofcmaaDoor
open Go.RowKit Dg
set_option maxRecDepth 100000
theorem numF_bad (m : Nat) (l : List Nat) (e : Nat) (h : (numF m l e).2.2 ≠ 0) : (numF m l e).2.1 = l := by
  unfold numF at h ⊢
  split
  · rfl
  · split
    · rfl
    · rename_i h1 h2
      rw [if_neg h1, if_neg h2] at h
      exact absurd rfl h
theorem textF_num (most : Int) (l : List Nat) (e : Nat) : textF most l e = if (numF 9223372036854775807 l e).2.2 ≠ 0 then ([], l, (numF 9223372036854775807 l e).2.2) else if most < (numF 9223372036854775807 l e).1 then ([], l, 2) else if ((numF 9223372036854775807 l e).2.1.length : Int) < (numF 9223372036854775807 l e).1 then ([], l, 4) else ((numF 9223372036854775807 l e).2.1.take (numF 9223372036854775807 l e).1, (numF 9223372036854775807 l e).2.1.drop (numF 9223372036854775807 l e).1, 0) := by
  have hle := head_len 9223372036854775807 10 0 0 l
  unfold textF numF
  by_cases he : e ≠ 0
  · rw [if_pos he, if_pos he, if_pos he]
  · rw [if_neg he, if_neg he]
    generalize headF 9223372036854775807 10 0 0 l = R at *
    obtain ⟨a, b, c⟩ := R
    simp only at hle ⊢
    by_cases hc : c ≠ 0
    · rw [if_pos hc, if_pos hc, if_pos hc]
    · rw [if_neg hc, if_neg hc]
      simp only
      rw [if_neg (show ¬ ((0 : Nat) ≠ 0) by simp), List.length_drop]
      have e1 : ((l.length : Int) - (b : Int) < (a : Int)) ↔ (((l.length - b : Nat) : Int) < (a : Int)) := by omega
      by_cases hm : most < (a : Int)
      · rw [if_pos hm, if_pos hm]
      · rw [if_neg hm, if_neg hm]
        by_cases hs : (l.length : Int) - (b : Int) < (a : Int)
        · rw [if_pos hs, if_pos (e1.1 hs)]
        · rw [if_neg hs, if_neg (fun h => hs (e1.2 h)), List.drop_drop]
theorem rr_back {D : Nat} {w : World} {g : Nat} {l : List Nat} {A : Option Addr} {c : Nat} {A1 : Option Addr} {n1 c1 : Nat} {e1 : Int} (h1 : Has w g 33 #[.slice A1 n1 c1, .int .i64 e1]) (h2 : l.length ≤ c) (h3 : Rd w A l) (h4 : l ≠ [] → ∀ a, A = some a → a.block < D) (e' : Nat) :
    RrD D ((w.setCell ⟨g, 1, none⟩ (.int .i64 (e' : Int))).setCell ⟨g, 0, none⟩ (.slice A l.length c)) g l e' :=
  ⟨A, c, (h1.put 1 _).put 0 _, h2, Rd.turn (h3.turn (grown_set w g 1 _) h1 (rdr_cells _ _ _ _)) (grown_set _ g 0 _) (h1.put 1 (.int .i64 (e' : Int))) (rdr_cells _ _ _ _), h4⟩
set_option maxHeartbeats 2000000 in
theorem RText_get {D : Nat} (g : Nat) (l : List Nat) (e : Nat) (w : World) (most : Nat) (h : RrD D w g l e) (hl : ∀ x ∈ l, x < 256) (hb : l.length ≤ 1000000) :
    Calls Tryd.prog 49 #[.pointer (some ⟨g, 0, none⟩), .int .i64 (most : Int)] w (StepR D w g (.string (bs (textF (most : Int) l e).1)) (textF (most : Int) l e).2.1 (textF (most : Int) l e).2.2) := by
  have HNU := Lib.hid (RNumber_get g l e w h hl hb)
  obtain ⟨A, c, hh, hn, hr, hdd⟩ := h
  have HH := Lib.hid hh
  have HR := Lib.hid hr
  have HDD := Lib.hid hdd
  have c0 : w.cell? ⟨g, 0, none⟩ = some (.slice A l.length c) := hh.cell 0
  have HTF := Lib.hid (textF_num (most : Int) l e)
  have HBD := Lib.hid (numF_bad 9223372036854775807 l e)
  have hn63 := numF_le 9223372036854775807 l e
  obtain ⟨TF, hTF⟩ : ∃ x, textF (most : Int) l e = x := ⟨_, rfl⟩
  rw [hTF] at HTF
  rw [hTF]
  clear hTF hh hr hdd
  generalize numF 9223372036854775807 l e = NF at *
  obtain ⟨n, l1, e1⟩ := NF
  simp only at HNU HTF HBD hn63
  go_enter Tryd.func49, Tryd.ntmps49
  go_wp2_with fail
  refine HNU.out.mono ?_
  rintro x w1 ⟨rfl, ⟨A1, c1, hh1, hn1, hr1, hdd1⟩, hg⟩
  have HH1 := Lib.hid hh1
  have HR1 := Lib.hid hr1
  have HDD1 := Lib.hid hdd1
  have HG1 := Lib.hid hg
  have HRA := Lib.hid (HR.out.turn hg HH.out (rdr_cells _ _ _ _))
  have d0 : w1.cell? ⟨g, 0, none⟩ = some (.slice A1 l1.length c1) := hh1.cell 0
  have d1 : w1.cell? ⟨g, 1, none⟩ = some (.int .i64 e1) := hh1.cell 1
  have f0 := hh1.free 0
  have f1 := hh1.free 1
  clear hh1 hr1 hdd1 hg HNU c0 HR HH
  by_cases he : e1 = 0
  · subst he
    have HT2 := Lib.hid (HTF.out.trans (if_neg (by simp)))
    clear HTF HBD
    by_cases hm : (most : Int) < (n : Int)
    · have HT3 := Lib.hid (HT2.out.trans (if_pos hm))
      clear HT2
      go_wp2_with fail
      go_ret
      exact ⟨by rw [HT3.out]; rfl, by rw [HT3.out]; exact rr_back HH1.out hn HRA.out HDD.out 2, grown_trans HG1.out (grown_trans (grown_set w1 g 1 _) (grown_set _ g 0 _))⟩
    · have HT3 := Lib.hid (HT2.out.trans (if_neg hm))
      clear HT2
      by_cases hs : (l1.length : Int) < (n : Int)
      · have HT4 := Lib.hid (HT3.out.trans (if_pos hs))
        clear HT3
        go_wp2_with fail
        go_ret
        exact ⟨by rw [HT4.out]; rfl, by rw [HT4.out]; exact rr_back HH1.out hn HRA.out HDD.out 4, grown_trans HG1.out (grown_trans (grown_set w1 g 1 _) (grown_set _ g 0 _))⟩
      · have HT4 := Lib.hid (HT3.out.trans (if_neg hs))
        clear HT3
        have hk : n ≤ l1.length := by omega
        have hkz : (n : Int) ≤ (l1.length : Int) := by omega
        have hnc : (n : Int) ≤ (c1 : Int) := by omega
        have hcv := conv_len w1 A1 (l1.take n) n c1 (by rw [List.length_take]; omega) (HR1.out.take n)
        by_cases h0 : n = 0
        · subst h0
          rw [List.take_zero] at hcv
          go_wp2_with fail
          go_ret
          exact ⟨by rw [HT4.out]; rfl, by rw [HT4.out]; exact ⟨A1, c1, HH1.out.put 0 _, hn1, HR1.out.turn (grown_set w1 g 0 _) HH1.out (rdr_cells _ _ _ _), HDD1.out⟩, grown_trans HG1.out (grown_set w1 g 0 _)⟩
        · have hlne : l1 ≠ [] := by rintro rfl; simp at hk; omega
          obtain ⟨b, off, rfl, _⟩ := HR1.out hlne
          have hbD := HDD1.out hlne _ rfl
          simp only at hbD
          have HRD := Lib.hid (rr_drop HH1.out hn1 HR1.out hbD n hk)
          have hcc : c1 = n ∨ c1 ≠ n := Decidable.em _
          clear hlne
          rcases hcc with hcc | hcc
          all_goals
            first | (rw [if_pos hcc] at HRD; subst hcc; rw [Nat.sub_self, show l1.length - c1 = 0 by omega] at HRD) | rw [if_neg hcc] at HRD
            go_wp2_with fail
            go_ret
            exact ⟨by rw [HT4.out]; rfl, by rw [HT4.out]; exact HRD.out, grown_trans HG1.out (grown_set w1 g 0 _)⟩
  · have HT2 := Lib.hid (HTF.out.trans (if_pos he))
    have HL1 := Lib.hid (HBD.out he)
    have g1 : ((e1 : Int) == 0) = false := by simp; omega
    have g2 : ((e1 : Int) != 0) = true := by simp; omega
    clear he HTF HBD
    go_wp2_with fail
    go_ret
    exact ⟨by rw [HT2.out]; rfl, by rw [HT2.out, ← HL1.out]; exact ⟨A1, c1, HH1.out, hn1, HR1.out, HDD1.out⟩, HG1.out⟩
end Go.Proofs.YtbbdmajlbofcmaaDoor
namespace Go.Proofs.YtbbdmajlbofcmaaDoor
open Go.RowKit Dg
set_option maxRecDepth 100000
theorem infoI : (Tryd.prog.info? 3).map (fun i => (i.zero, i.size, i.bytes)) = some (some (.int .i64 0), 1, 8) := by kernel_rfl
def iv (n : Nat) : Value := .int .i64 (n : Int)
/-- Numbers in a row of the call's own. -/
def OwnI (B : Nat) (w : World) (v : Value) (l : List Nat) : Prop := w.ownsRow B 3 1 v l.length (l.map iv)
theorem ownI_nil (B : Nat) (w : World) : OwnI B w (.slice none 0 0) [] := World.ownsRow_nil _ _ _ _
/-- A row of numbers at an address. -/
def IRow (w : World) (A : Option Addr) (l : List Nat) : Prop := l ≠ [] → ∃ b off, A = some ⟨b, off, none⟩ ∧ ∀ i (h : i < l.length), w.cell? ⟨b, off + i, none⟩ = some (.int .i64 (l[i] : Nat))
theorem OwnI.below {B : Nat} {w w' : World} {v : Value} {L : List Nat} (h : OwnI B w v L) (hb : Below w.heap.size w w') : OwnI B w' v L := by
  rcases h.2 with ⟨hv, hn⟩ | ⟨g, cap, cur, hv, hg, hh, hc, hcm, hsz, ht⟩
  · exact ⟨h.1, .inl ⟨hv, hn⟩⟩
  · exact ⟨h.1, .inr ⟨g, cap, cur, hv, hg, Has.below (t := 3) (cs := cur) hh hb (Has.lt (t := 3) (cs := cur) hh), hc, hcm, hsz, ht⟩⟩
theorem ownI_open {B : Nat} {w : World} {v : Value} {l : List Nat} (h : OwnI B w v l) : ∃ A n c, v = .slice A n c ∧ Hid (l.length = n) ∧ n ≤ c ∧ Hid (IRow w A l) := by
  rcases h.2 with ⟨hv, hn⟩ | ⟨g, cap, cur, hv, _, hh, hc, hm, _, ht⟩
  · obtain rfl := List.eq_nil_of_length_eq_zero hn
    exact ⟨none, 0, 0, hv, rfl, Nat.le_refl _, fun h => absurd rfl h⟩
  · subst hv
    refine ⟨_, _, _, rfl, rfl, hc, fun _ => ⟨g, 0, rfl, fun i hi => ?_⟩⟩
    have h1 : (l.map iv)[i]? = some (iv l[i]) := by simp [hi]
    rw [← ht, List.getElem?_take, if_pos (by omega)] at h1
    rw [Nat.zero_add, Has.cell (t := 3) (cs := cur) hh i]
    simpa [iv] using h1
theorem appI (w : World) (B : Nat) (v : Value) (l : List Nat) (d : Nat) (z : Int) (hz : (d : Int) = z) (h : OwnI B w v l) (hB : B ≤ w.heap.size) (hl : l.length ≤ 10000) :
    ∃ R W', (Builtin.append_ #[93, 93] 93 #[v, .slice (some ⟨w.heap.size, 0, none⟩) 1 1]).run Tryd.prog (w.alloc (.cells #[.int .i64 z] 3)) = .ok R W' ∧ OwnI B W' R (l ++ [d]) ∧ Below B w W' := by
  subst hz
  obtain ⟨i0, hi, hz0, hz1, hz2⟩ := info_parts infoI
  obtain ⟨R, W', hrun, hown, hg, _⟩ := run_append_own (P := Tryd.prog) (w.alloc (.cells #[iv d] 3)) B 93 93 3 i0 (.int .i64 0) 1 8 Tryd.underlying93 hi hz0 hz1 hz2 rfl (by decide) v l.length (l.map iv) (h.below ((Below.refl _ w).alloc (Nat.le_refl _) _))
    ⟨w.heap.size, 0, none⟩ 1 1 [iv d] rfl (fun j u hj => by
      rcases j with _ | j
      · have := (Has.new w 3 #[iv d]).cell 0
        simpa [Addr.add] using this.trans hj
      · simp at hj) (fun u hu => by simp at hu; subst hu; rfl) (by unfold maxLen; omega) (by omega) (by simp; omega)
  refine ⟨R, W', hrun, ?_, ?_⟩
  · unfold OwnI; rw [List.map_append, List.length_append]; exact hown
  · exact ((Below.refl B w).alloc hB _).grown hg (by simp; omega) fun k hk => (World.ownsRow.lt h k hk).1
/-- The first k bits of a byte, as numbers. -/
def numsTo (b k : Nat) : List Nat := (List.range k).map fun i => (b / 2 ^ i) % 2
theorem numsTo_succ (b k : Nat) : numsTo b (k + 1) = numsTo b k ++ [(b / 2 ^ k) % 2] := by unfold numsTo; rw [List.range_succ, List.map_append]; rfl
theorem numsTo_len (b k : Nat) : (numsTo b k).length = k := by simp [numsTo]
theorem half_succ (b k : Nat) : b / 2 ^ k / 2 = b / 2 ^ (k + 1) := by rw [Nat.div_div_eq_div_mul, Nat.pow_succ]
theorem readC_text (k : Int) (l : List Nat) (e : Nat) (h1 : k ≠ 1) (h2 : k ≠ 2) : readC false k l e = (⟨k, 0, bs (textF 4096 l e).1⟩, (textF 4096 l e).2) := by
  unfold readC readV
  rw [if_neg (by simp), if_neg h1, if_neg h2]
theorem crow_has {w w' : World} {g : Nat} {t : TypeId} {R : Option Addr} {n c : Nat} {e : Int} {A : Option Addr} {L : List Cl} (h : CRow w A L) (hh : Has w g t #[.slice R n c, .int .i64 e]) (hg : w.grownBy w' (some g)) : CRow w' A L := fun hne => by
  obtain ⟨b, off, ea, hc⟩ := h hne
  have hb : b ≠ g := by
    rintro rfl
    have h0 := (hc 0 (List.length_pos_iff.2 hne)).1
    rw [hh.cell] at h0
    generalize off + 0 * 3 = o at h0
    rcases o with _ | _ | o <;> simp at h0
  exact ⟨b, off, ea, fun i hi => ⟨cell_grown hg (hc i hi).1 hb, cell_grown hg (hc i hi).2.1 hb, cell_grown hg (hc i hi).2.2 hb⟩⟩
theorem irow_has {w w' : World} {g : Nat} {t : TypeId} {R : Option Addr} {n c : Nat} {e : Int} {A : Option Addr} {L : List Nat} (hl : 2 ≤ L.length) (h : IRow w A L) (hh : Has w g t #[.slice R n c, .int .i64 e]) (hg : w.grownBy w' (some g)) : IRow w' A L := fun hne => by
  obtain ⟨b, off, ea, hc⟩ := h hne
  have hb : b ≠ g := by
    rintro rfl
    have h0 := hc 0 (by omega)
    have h1 := hc 1 (by omega)
    rw [hh.cell] at h0 h1
    rw [Nat.add_zero] at h0
    rcases off with _ | _ | o <;> simp at h0 h1
  exact ⟨b, off, ea, fun i hi => cell_grown hg (hc i hi) hb⟩
set_option maxHeartbeats 4000000 in
theorem rread_any {D : Nat} (g : Nat) (l : List Nat) (A : Option Addr) (M : List Cl) (n c : Nat) (w : World) (h : RrD D w g l 0) (hD : D ≤ w.heap.size) (hl : ∀ x ∈ l, x < 256) (hb : l.length ≤ 100000) (hM : M.length = n) (h1 : 1 ≤ n) (h8 : n ≤ 8) (hA : CRow w A M) (hk : ∀ x ∈ M, 1 ≤ x.k ∧ x.k ≤ 4) :
    Calls Tryd.prog 15 #[.pointer (some ⟨g, 0, none⟩), .slice A n c] w fun x w' => (∃ A' n' c', x = .returned (.tuple #[.slice A' n' c', .bool (readF M l 0).1.isSome]) ∧ Hid (((readF M l 0).1.getD []).length = n') ∧ Hid (VRow w' A' ((readF M l 0).1.getD []))) ∧ Hid ((readF M l 0).1.isSome = true → RrD D w' g (readF M l 0).2.1 0) ∧ Hid (∃ l' e', RrD D w' g l' e') ∧ Hid (w.grownBy w' (some g)) := by
  have HR := Lib.hid h
  have hgl := h.lt
  have HM := Lib.hid hM
  have HK := Lib.hid hk
  have HA := Lib.hid hA
  have HBY := Lib.hid (RByte_get g l 0 w h hl (by omega))
  have HL1 : Hid ((∀ x ∈ (byteF l 0).2.1, x < 256) ∧ (byteF l 0).2.1.length ≤ 100000) := by
    obtain ⟨j, hj⟩ := byteF_drop l 0
    show _ ∧ _
    rw [hj]
    exact ⟨fun x hx => hl x (List.mem_of_mem_drop hx), by rw [List.length_drop]; omega⟩
  have hby := byteF_lt l 0 hl
  have HRF : Hid (readF M l 0 = if ((bitsTo (byteF l 0).1 8).drop n).any id = true then (none, (byteF l 0).2.1, (byteF l 0).2.2)
      else if (readTo M (bitsTo (byteF l 0).1 8) (byteF l 0).2.1 (byteF l 0).2.2 n).2.2 = 0 ∧ fitsF M (readTo M (bitsTo (byteF l 0).1 8) (byteF l 0).2.1 (byteF l 0).2.2 n).1 = true then (some (readTo M (bitsTo (byteF l 0).1 8) (byteF l 0).2.1 (byteF l 0).2.2 n).1, (readTo M (bitsTo (byteF l 0).1 8) (byteF l 0).2.1 (byteF l 0).2.2 n).2)
      else (none, (readTo M (bitsTo (byteF l 0).1 8) (byteF l 0).2.1 (byteF l 0).2.2 n).2)) := by
    show _ = _
    rw [← HM.out]
    rfl
  obtain ⟨RF, hRF⟩ : ∃ x, readF M l 0 = x := ⟨_, rfl⟩
  rw [hRF] at HRF
  rw [hRF]
  clear h hM hA hk hRF hl
  generalize (byteF l 0).1 = by0 at *
  generalize (byteF l 0).2.1 = l1 at *
  generalize (byteF l 0).2.2 = e1 at *
  have hq : ((n : Int) + 7) / 8 = 1 := by omega
  go_enter Tryd.func15, Tryd.ntmps15
  go_wp2_with fail
  rw [hq]
  go_loopw [8, 9] (fun v i wr => (i = .int .i64 0 ∧ v = .slice none 0 0 ∧ wr = w) ∨ (i = .int .i64 1 ∧ Hid (OwnI w.heap.size wr v (numsTo by0 8)) ∧ Hid (RrD D wr g l1 e1) ∧ Hid (w.grownBy wr (some g)))) (fun _ i _ => 1 - (intOf i).toNat)
  case atStart => exact .inl ⟨rfl, rfl, rfl⟩
  case round =>
    rcases hrel with ⟨rfl, rfl, rfl⟩ | ⟨rfl, HO, HR1, HG1⟩
    · go_wp2_with fail
      refine HBY.out.mono ?_
      rintro x w2 ⟨rfl, hd, hg⟩
      have HR2 := Lib.hid hd
      have HG2 := Lib.hid hg
      clear hd hg HBY
      obtain ⟨wo, rfl⟩ : ∃ wo : World, wo = wr := ⟨_, rfl⟩
      go_wp2_with fail
      go_loopw [8, 10, 11] (fun v x i wr => ∃ k q : Nat, k ≤ 8 ∧ i = .int .i64 k ∧ x = .int .i64 q ∧ Hid (by0 / 2 ^ k = q) ∧ Hid (OwnI wo.heap.size wr v (numsTo by0 k)) ∧ Hid (RrD D wr g l1 e1) ∧ Hid (wo.grownBy wr (some g))) (fun _ _ i _ => 8 - (intOf i).toNat)
      case atStart => exact ⟨0, by0, by omega, rfl, rfl, by show _ = _; simp, ownI_nil _ _, HR2, HG2⟩
      case round =>
        obtain ⟨k, q, hk, rfl, rfl, HQ, HO, HR3, HG3⟩ := hrel
        clear HR2 HG2
        obtain ⟨Ao, no, co, rfl, HNO, hnoc, HVO⟩ := ownI_open HO.out
        by_cases hlt : k < 8
        · have HBS := Lib.hid (numsTo_succ by0 k)
          have HQ2 : Hid (by0 / 2 ^ (k + 1) = q / 2) := by show _ = _; rw [← half_succ, HQ.out]
          have hkz : (k : Int) < 8 := by omega
          have hqb : q ≤ by0 := by rw [← HQ.out]; exact Nat.div_le_self _ _
          have hqw : wrap64 ((q : Int) / 2) = ((q / 2 : Nat) : Int) := by unfold wrap64; omega
          rw [HQ.out] at HBS
          have HAP := Lib.hid (appI wr wo.heap.size (.slice Ao no co) (numsTo by0 k) (q % 2) ((q : Int) % 2) (by omega) HO.out HG3.out.size (by rw [numsTo_len]; omega))
          rw [← HBS.out] at HAP
          go_wp2_with (at_builtin; refine wpList_app rfl _ _ 93 93 rfl (.slice Ao no co) (.slice (some ⟨wr.heap.size, 0, none⟩) 1 1) rfl rfl ?_; obtain ⟨R, W', hrun, hmade⟩ := HAP.out; refine ⟨R, W', hrun, ?_⟩; have HO5 := Lib.hid hmade.1; have HB5 := Lib.hid hmade.2; clear hrun hmade HAP)
          go_roundw
          case rel => exact ⟨k + 1, q / 2, by omega, by go_num, by first | go_num | rfl | (rw [hqw]), HQ2, HO5, HR3.out.keep (HB5.out.block g hgl) (HB5.out.mono hD), grown_at HG3.out HB5.out⟩
          case measure => simp [intOf]; omega
        · obtain rfl : k = 8 := by omega
          go_wp2_with fail
          go_roundw
          case rel => exact .inr ⟨by go_num, HO, HR3, HG3⟩
          case measure => simp [intOf]
    · clear HBY
      obtain ⟨An, no, cn, rfl, HNN, hnn, HVN⟩ := ownI_open HO.out
      have hno : 8 = no := by have h := HNN.out; rw [numsTo_len] at h; exact h
      subst hno
      have hsz1 : w.heap.size ≤ wr.heap.size := HG1.out.size
      have HA1 : Hid (CRow wr A M) := by
        obtain ⟨Ar, cr, hh, _⟩ := HR.out
        exact crow_has HA.out hh HG1.out
      obtain ⟨w2, rfl⟩ : ∃ w2 : World, w2 = wr := ⟨_, rfl⟩
      clear HO HR
      go_wp2_with fail
      obtain ⟨Ar, cr, hhr, _⟩ : ∃ Ar cr, Has w2 g 33 #[.slice Ar l1.length cr, .int .i64 (e1 : Int)] ∧ True := by
        obtain ⟨Ar, cr, hh, _⟩ := HR1.out
        exact ⟨Ar, cr, hh, trivial⟩
      have HHR := Lib.hid hhr
      have hgl2 : g < w2.heap.size := Nat.lt_of_lt_of_le hgl hsz1
      clear hhr
      go_loopw [12, 13] (fun v i wr => ∃ k : Nat, k ≤ 8 ∧ i = .int .i64 k ∧ Hid (∀ j, n ≤ j → j < k → (by0 / 2 ^ j) % 2 = 0) ∧ Hid (OwnV w2.heap.size wr v (readTo M (bitsTo by0 8) l1 e1 (min k n)).1) ∧ Hid (RrD D wr g (readTo M (bitsTo by0 8) l1 e1 (min k n)).2.1 (readTo M (bitsTo by0 8) l1 e1 (min k n)).2.2) ∧ Hid (w2.grownBy wr (some g))) (fun _ i _ => 8 - (intOf i).toNat)
      case atStart => exact ⟨0, by omega, rfl, fun j _ h => absurd h (by omega), by rw [Nat.zero_min]; exact ownV_nil _ _, by rw [Nat.zero_min]; exact HR1, grown_refl _ _⟩
      case round =>
        obtain ⟨k, hk, rfl, HZ, HO, HRk, HGk⟩ := hrel
        obtain ⟨Ao, no, co, rfl, HNO, hnoc, hcom, _, _⟩ := ownV_open HO.out
        have hlk := Lib.hid (readTo_ok M (bitsTo by0 8) l1 e1 (min k n) HL1.out.1 HL1.out.2)
        by_cases hlt : k < 8
        · have HNk := irow_has (by rw [numsTo_len]; omega) HVN.out HHR.out HGk.out
          obtain ⟨bb, bo, rfl, hbc⟩ := HNk (by intro e; have := congrArg List.length e; rw [numsTo_len] at this; cases this)
          have b0 := hbc k (by rw [numsTo_len]; exact hlt)
          have hnk : (numsTo by0 8)[k]'(by rw [numsTo_len]; exact hlt) = (by0 / 2 ^ k) % 2 := by simp [numsTo]
          rw [hnk] at b0
          have hz01 : (by0 / 2 ^ k) % 2 = 0 ∨ (by0 / 2 ^ k) % 2 = 1 := Nat.mod_two_eq_zero_or_one _
          have hbk := bitsTo_get by0 k hlt
          have hkz : (k : Int) < 8 := by omega
          have hk0 : (0 : Int) ≤ (k : Int) := by omega
          clear hbc HNk hnk
          by_cases hkn : k < n
          · have hknz : (k : Int) < (n : Int) := by omega
            have hkM : k < M.length := by rw [HM.out]; exact hkn
            have hm1 : min k n = k := by omega
            have hm2 : min (k + 1) n = k + 1 := by omega
            have HZ2 : Hid (∀ j, n ≤ j → j < k + 1 → (by0 / 2 ^ j) % 2 = 0) := fun j h1 h2 => by omega
            rw [hm1] at HO HRk hlk HNO
            have HM2 := Lib.hid hm2
            have HAk := crow_has HA1.out HHR.out HGk.out
            obtain ⟨b, off, rfl, hc⟩ := HAk (by intro e; rw [e] at hkM; simp at hkM)
            obtain ⟨c0, c1, c2⟩ := hc k hkM
            have hkd := HK.out M[k] (List.getElem_mem hkM)
            have HRS : Hid (readTo M (bitsTo by0 8) l1 e1 (k + 1) = ((readTo M (bitsTo by0 8) l1 e1 k).1 ++ [(readC (decide ((by0 / 2 ^ k) % 2 = 1)) M[k].k (readTo M (bitsTo by0 8) l1 e1 k).2.1 (readTo M (bitsTo by0 8) l1 e1 k).2.2).1], (readC (decide ((by0 / 2 ^ k) % 2 = 1)) M[k].k (readTo M (bitsTo by0 8) l1 e1 k).2.1 (readTo M (bitsTo by0 8) l1 e1 k).2.2).2)) := by
              show _ = _
              rw [← hbk, List.getElem_eq_getD (⟨⟨#[]⟩, 0, false⟩ : Cl)]
              rfl
            have HLEN := Lib.hid (readTo_len M (bitsTo by0 8) l1 e1 k)
            clear hc HAk hbk hm1 hm2
            generalize (by0 / 2 ^ k) % 2 = z at *
            generalize M[k] = x at *
            obtain ⟨xa, xb, xc⟩ := x
            simp only at c0 c1 c2 hkd
            generalize readTo M (bitsTo by0 8) l1 e1 k = S at *
            obtain ⟨R, lk, ek⟩ := S
            simp only at HO HRk hlk HNO HRS HLEN
            have HRI := Lib.hid HRF.out
            clear HRI
            have hrl := HRk.out.lt
            rcases hz01 with rfl | rfl
            · have HBC := Lib.hid ((Below.refl wr.heap.size wr).alloc (Nat.le_refl _) (.cells #[.int .i64 0, .int .i64 0, .string ⟨#[]⟩] 88))
              have b1 : (wr.alloc (.cells #[.int .i64 0, .int .i64 0, .string ⟨#[]⟩] 88)).cell? ⟨bb, bo + k, none⟩ = some (.int .i64 ((0 : Nat) : Int)) := (HBC.out.cell (World.block_lt_of_cell? _ _ b0)).trans b0
              have d1 : (wr.alloc (.cells #[.int .i64 0, .int .i64 0, .string ⟨#[]⟩] 88)).cell? ⟨b, off + k * 3 + 1, none⟩ = some (.int .i64 xb) := (HBC.out.cell (World.block_lt_of_cell? _ _ c1)).trans c1
              clear b0 c0 c1 c2
              rw [show decide ((0 : Nat) = 1) = false by simp] at HRS
              have hks : xb = 1 ∨ xb = 2 ∨ (xb ≠ 1 ∧ xb ≠ 2) := by omega
              rcases hks with rfl | rfl | ⟨hx1, hx2⟩
              · have HB1 := Lib.hid ((Below.refl wr.heap.size wr).alloc (Nat.le_refl _) (.cells #[.int .i64 1, .int .i64 0, .string ⟨#[]⟩] 88))
                have HXV := Lib.hid (Has.new wr 88 #[.int .i64 1, .int .i64 0, .string ⟨#[]⟩])
                have HR1k := Lib.hid (HRk.out.keep (w' := (wr.alloc (.cells #[.int .i64 1, .int .i64 0, .string ⟨#[]⟩] 88))) (HB1.out.block g hrl) (HB1.out.mono (Nat.le_trans hD (Nat.le_trans hsz1 HGk.out.size))))
                have HCR := Lib.hid (RByte_get g lk ek (wr.alloc (.cells #[.int .i64 1, .int .i64 0, .string ⟨#[]⟩] 88))  HR1k.out hlk.out.1 (by have := hlk.out.2; omega))
                rw [readC_one] at HRS
                skip
                have m0 : (wr.alloc (.cells #[.int .i64 1, .int .i64 0, .string ⟨#[]⟩] 88)).cell? ⟨wr.heap.size, 0, none⟩ = some (.int .i64 1) := HXV.out.cell 0
                have q0 : (wr.alloc (.cells #[.int .i64 0, .int .i64 0, .string ⟨#[]⟩] 88)).frozen? ⟨wr.heap.size, 0, none⟩ = false := (Has.new wr 88 #[.int .i64 0, .int .i64 0, .string ⟨#[]⟩]).free 0
                have q1 : (wr.alloc (.cells #[.int .i64 0, .int .i64 0, .string ⟨#[]⟩] 88)).cell? ⟨wr.heap.size, 0, none⟩ = some (.int .i64 0) := (Has.new wr 88 #[.int .i64 0, .int .i64 0, .string ⟨#[]⟩]).cell 0
                go_wp2_with fail
                refine HCR.out.mono ?_
                rintro x w3 ⟨rfl, hd, hg⟩
                have HR3 := Lib.hid hd
                have HX3 := Lib.hid (HXV.out.grown hg (by omega))
                have HW3 := Lib.hid (grown_trans (grown_below (grown_refl wr g) HB1.out) hg)
                clear hd hg HCR HR1k m0 q0 q1 b1 d1
                generalize (byteF lk ek).1 = val at *
                have HX4 := Lib.hid (HX3.out.put 1 (.int .i64 val))
                have HW4 := Lib.hid (grown_set2 HW3.out (p := ⟨wr.heap.size, 1, none⟩) (by show wr.heap.size ≤ wr.heap.size; omega) (.int .i64 val))
                have HO4 := Lib.hid (OwnV.grown HO.out HW4.out hgl2)
                have HG4 := Lib.hid (grown_trans HGk.out HW4.out)
                have HR4 := Lib.hid (HR3.out.keep (w' := (w3.setCell ⟨wr.heap.size, 1, none⟩ (.int .i64 val))) (Below.heap_setCell w3 ⟨wr.heap.size, 1, none⟩ (.int .i64 val) g (by show g ≠ wr.heap.size; omega)) ((Below.refl D w3).setCell (p := ⟨wr.heap.size, 1, none⟩) (by show D ≤ wr.heap.size; exact Nat.le_trans hD (Nat.le_trans hsz1 HGk.out.size)) (.int .i64 val)))
                have f1 : w3.frozen? ⟨wr.heap.size, 1, none⟩ = false := HX3.out.free 1
                have y1 : w3.cell? ⟨wr.heap.size, 1, none⟩ = some (.int .i64 0) := HX3.out.cell 1
                have x0 : (w3.setCell ⟨wr.heap.size, 1, none⟩ (.int .i64 val)).cell? ⟨wr.heap.size, 0, none⟩ = some (.int .i64 1) := HX4.out.cell 0
                have x1 : (w3.setCell ⟨wr.heap.size, 1, none⟩ (.int .i64 val)).cell? ⟨wr.heap.size, 1, none⟩ = some (.int .i64 val) := HX4.out.cell 1
                have x2 : (w3.setCell ⟨wr.heap.size, 1, none⟩ (.int .i64 val)).cell? ⟨wr.heap.size, 2, none⟩ = some (.string ⟨#[]⟩) := HX4.out.cell 2
                have HAP := Lib.hid (appVR (w3.setCell ⟨wr.heap.size, 1, none⟩ (.int .i64 val)) w3.heap.size (by rw [size_set]) w2.heap.size (.slice Ao no co) R ⟨1, val, ⟨#[]⟩⟩ HO4.out HG4.out.size (by rw [HLEN.out]; omega))
                go_wp2_with (at_builtin; refine wpList_app rfl _ _ 35 35 rfl (.slice Ao no co) (.slice (some ⟨w3.heap.size, 0, none⟩) 1 1) rfl rfl ?_; obtain ⟨R5, W', hrun, hmade⟩ := HAP.out; refine ⟨R5, W', hrun, ?_⟩; have HO5 := Lib.hid hmade.1; have HB5 := Lib.hid hmade.2; clear hrun hmade HAP)
                go_roundw
                case rel => exact ⟨k + 1, by omega, by go_num, HZ2, by rw [HM2.out, HRS.out]; exact HO5, by rw [HM2.out, HRS.out]; exact HR4.out.keep (HB5.out.block g hgl2) (HB5.out.mono (Nat.le_trans hD hsz1)), grown_at HG4.out HB5.out⟩
                case measure => simp [intOf]; omega
              · have HB1 := Lib.hid ((Below.refl wr.heap.size wr).alloc (Nat.le_refl _) (.cells #[.int .i64 2, .int .i64 0, .string ⟨#[]⟩] 88))
                have HXV := Lib.hid (Has.new wr 88 #[.int .i64 2, .int .i64 0, .string ⟨#[]⟩])
                have HR1k := Lib.hid (HRk.out.keep (w' := (wr.alloc (.cells #[.int .i64 2, .int .i64 0, .string ⟨#[]⟩] 88))) (HB1.out.block g hrl) (HB1.out.mono (Nat.le_trans hD (Nat.le_trans hsz1 HGk.out.size))))
                have HCR := Lib.hid (RSigned_get g lk ek (wr.alloc (.cells #[.int .i64 2, .int .i64 0, .string ⟨#[]⟩] 88))  HR1k.out hlk.out.1 (by have := hlk.out.2; omega))
                rw [readC_two] at HRS
                skip
                have m0 : (wr.alloc (.cells #[.int .i64 2, .int .i64 0, .string ⟨#[]⟩] 88)).cell? ⟨wr.heap.size, 0, none⟩ = some (.int .i64 2) := HXV.out.cell 0
                have q0 : (wr.alloc (.cells #[.int .i64 0, .int .i64 0, .string ⟨#[]⟩] 88)).frozen? ⟨wr.heap.size, 0, none⟩ = false := (Has.new wr 88 #[.int .i64 0, .int .i64 0, .string ⟨#[]⟩]).free 0
                have q1 : (wr.alloc (.cells #[.int .i64 0, .int .i64 0, .string ⟨#[]⟩] 88)).cell? ⟨wr.heap.size, 0, none⟩ = some (.int .i64 0) := (Has.new wr 88 #[.int .i64 0, .int .i64 0, .string ⟨#[]⟩]).cell 0
                go_wp2_with fail
                refine HCR.out.mono ?_
                rintro x w3 ⟨rfl, hd, hg⟩
                have HR3 := Lib.hid hd
                have HX3 := Lib.hid (HXV.out.grown hg (by omega))
                have HW3 := Lib.hid (grown_trans (grown_below (grown_refl wr g) HB1.out) hg)
                clear hd hg HCR HR1k m0 q0 q1 b1 d1
                generalize zag (numF 18446744073709551615 lk ek).1 = val at *
                have HX4 := Lib.hid (HX3.out.put 1 (.int .i64 val))
                have HW4 := Lib.hid (grown_set2 HW3.out (p := ⟨wr.heap.size, 1, none⟩) (by show wr.heap.size ≤ wr.heap.size; omega) (.int .i64 val))
                have HO4 := Lib.hid (OwnV.grown HO.out HW4.out hgl2)
                have HG4 := Lib.hid (grown_trans HGk.out HW4.out)
                have HR4 := Lib.hid (HR3.out.keep (w' := (w3.setCell ⟨wr.heap.size, 1, none⟩ (.int .i64 val))) (Below.heap_setCell w3 ⟨wr.heap.size, 1, none⟩ (.int .i64 val) g (by show g ≠ wr.heap.size; omega)) ((Below.refl D w3).setCell (p := ⟨wr.heap.size, 1, none⟩) (by show D ≤ wr.heap.size; exact Nat.le_trans hD (Nat.le_trans hsz1 HGk.out.size)) (.int .i64 val)))
                have f1 : w3.frozen? ⟨wr.heap.size, 1, none⟩ = false := HX3.out.free 1
                have y1 : w3.cell? ⟨wr.heap.size, 1, none⟩ = some (.int .i64 0) := HX3.out.cell 1
                have x0 : (w3.setCell ⟨wr.heap.size, 1, none⟩ (.int .i64 val)).cell? ⟨wr.heap.size, 0, none⟩ = some (.int .i64 2) := HX4.out.cell 0
                have x1 : (w3.setCell ⟨wr.heap.size, 1, none⟩ (.int .i64 val)).cell? ⟨wr.heap.size, 1, none⟩ = some (.int .i64 val) := HX4.out.cell 1
                have x2 : (w3.setCell ⟨wr.heap.size, 1, none⟩ (.int .i64 val)).cell? ⟨wr.heap.size, 2, none⟩ = some (.string ⟨#[]⟩) := HX4.out.cell 2
                have HAP := Lib.hid (appVR (w3.setCell ⟨wr.heap.size, 1, none⟩ (.int .i64 val)) w3.heap.size (by rw [size_set]) w2.heap.size (.slice Ao no co) R ⟨2, val, ⟨#[]⟩⟩ HO4.out HG4.out.size (by rw [HLEN.out]; omega))
                go_wp2_with (at_builtin; refine wpList_app rfl _ _ 35 35 rfl (.slice Ao no co) (.slice (some ⟨w3.heap.size, 0, none⟩) 1 1) rfl rfl ?_; obtain ⟨R5, W', hrun, hmade⟩ := HAP.out; refine ⟨R5, W', hrun, ?_⟩; have HO5 := Lib.hid hmade.1; have HB5 := Lib.hid hmade.2; clear hrun hmade HAP)
                go_roundw
                case rel => exact ⟨k + 1, by omega, by go_num, HZ2, by rw [HM2.out, HRS.out]; exact HO5, by rw [HM2.out, HRS.out]; exact HR4.out.keep (HB5.out.block g hgl2) (HB5.out.mono (Nat.le_trans hD hsz1)), grown_at HG4.out HB5.out⟩
                case measure => simp [intOf]; omega
              · have hq1 : (xb == 1) = false := by simp [hx1]
                have hq2 : (xb == 2) = false := by simp [hx2]
                have HB1 := Lib.hid ((Below.refl wr.heap.size wr).alloc (Nat.le_refl _) (.cells #[.int .i64 xb, .int .i64 0, .string ⟨#[]⟩] 88))
                have HXV := Lib.hid (Has.new wr 88 #[.int .i64 xb, .int .i64 0, .string ⟨#[]⟩])
                have HR1k := Lib.hid (HRk.out.keep (w' := (wr.alloc (.cells #[.int .i64 xb, .int .i64 0, .string ⟨#[]⟩] 88))) (HB1.out.block g hrl) (HB1.out.mono (Nat.le_trans hD (Nat.le_trans hsz1 HGk.out.size))))
                have HCR := Lib.hid (RText_get g lk ek (wr.alloc (.cells #[.int .i64 xb, .int .i64 0, .string ⟨#[]⟩] 88)) 4096 HR1k.out hlk.out.1 (by have := hlk.out.2; omega))
                rw [readC_text xb lk ek hx1 hx2] at HRS
                skip
                have m0 : (wr.alloc (.cells #[.int .i64 xb, .int .i64 0, .string ⟨#[]⟩] 88)).cell? ⟨wr.heap.size, 0, none⟩ = some (.int .i64 xb) := HXV.out.cell 0
                have q0 : (wr.alloc (.cells #[.int .i64 0, .int .i64 0, .string ⟨#[]⟩] 88)).frozen? ⟨wr.heap.size, 0, none⟩ = false := (Has.new wr 88 #[.int .i64 0, .int .i64 0, .string ⟨#[]⟩]).free 0
                have q1 : (wr.alloc (.cells #[.int .i64 0, .int .i64 0, .string ⟨#[]⟩] 88)).cell? ⟨wr.heap.size, 0, none⟩ = some (.int .i64 0) := (Has.new wr 88 #[.int .i64 0, .int .i64 0, .string ⟨#[]⟩]).cell 0
                go_wp2_with fail
                refine HCR.out.mono ?_
                rintro x w3 ⟨rfl, hd, hg⟩
                have HR3 := Lib.hid hd
                have HX3 := Lib.hid (HXV.out.grown hg (by omega))
                have HW3 := Lib.hid (grown_trans (grown_below (grown_refl wr g) HB1.out) hg)
                clear hd hg HCR HR1k m0 q0 q1 b1 d1
                generalize bs (textF 4096 lk ek).1 = val at *
                have HX4 := Lib.hid (HX3.out.put 2 (.string val))
                have HW4 := Lib.hid (grown_set2 HW3.out (p := ⟨wr.heap.size, 2, none⟩) (by show wr.heap.size ≤ wr.heap.size; omega) (.string val))
                have HO4 := Lib.hid (OwnV.grown HO.out HW4.out hgl2)
                have HG4 := Lib.hid (grown_trans HGk.out HW4.out)
                have HR4 := Lib.hid (HR3.out.keep (w' := (w3.setCell ⟨wr.heap.size, 2, none⟩ (.string val))) (Below.heap_setCell w3 ⟨wr.heap.size, 2, none⟩ (.string val) g (by show g ≠ wr.heap.size; omega)) ((Below.refl D w3).setCell (p := ⟨wr.heap.size, 2, none⟩) (by show D ≤ wr.heap.size; exact Nat.le_trans hD (Nat.le_trans hsz1 HGk.out.size)) (.string val)))
                have f1 : w3.frozen? ⟨wr.heap.size, 2, none⟩ = false := HX3.out.free 2
                have y1 : w3.cell? ⟨wr.heap.size, 2, none⟩ = some (.string ⟨#[]⟩) := HX3.out.cell 2
                have x0 : (w3.setCell ⟨wr.heap.size, 2, none⟩ (.string val)).cell? ⟨wr.heap.size, 0, none⟩ = some (.int .i64 xb) := HX4.out.cell 0
                have x1 : (w3.setCell ⟨wr.heap.size, 2, none⟩ (.string val)).cell? ⟨wr.heap.size, 1, none⟩ = some (.int .i64 0) := HX4.out.cell 1
                have x2 : (w3.setCell ⟨wr.heap.size, 2, none⟩ (.string val)).cell? ⟨wr.heap.size, 2, none⟩ = some (.string val) := HX4.out.cell 2
                have HAP := Lib.hid (appVR (w3.setCell ⟨wr.heap.size, 2, none⟩ (.string val)) w3.heap.size (by rw [size_set]) w2.heap.size (.slice Ao no co) R ⟨xb, 0, val⟩ HO4.out HG4.out.size (by rw [HLEN.out]; omega))
                go_wp2_with (at_builtin; refine wpList_app rfl _ _ 35 35 rfl (.slice Ao no co) (.slice (some ⟨w3.heap.size, 0, none⟩) 1 1) rfl rfl ?_; obtain ⟨R5, W', hrun, hmade⟩ := HAP.out; refine ⟨R5, W', hrun, ?_⟩; have HO5 := Lib.hid hmade.1; have HB5 := Lib.hid hmade.2; clear hrun hmade HAP)
                go_roundw
                case rel => exact ⟨k + 1, by omega, by go_num, HZ2, by rw [HM2.out, HRS.out]; exact HO5, by rw [HM2.out, HRS.out]; exact HR4.out.keep (HB5.out.block g hgl2) (HB5.out.mono (Nat.le_trans hD hsz1)), grown_at HG4.out HB5.out⟩
                case measure => simp [intOf]; omega
            · have HBC := Lib.hid ((Below.refl wr.heap.size wr).alloc (Nat.le_refl _) (.cells #[.int .i64 0, .int .i64 0, .string ⟨#[]⟩] 88))
              have b1 : (wr.alloc (.cells #[.int .i64 0, .int .i64 0, .string ⟨#[]⟩] 88)).cell? ⟨bb, bo + k, none⟩ = some (.int .i64 ((1 : Nat) : Int)) := (HBC.out.cell (World.block_lt_of_cell? _ _ b0)).trans b0
              have d1 : (wr.alloc (.cells #[.int .i64 0, .int .i64 0, .string ⟨#[]⟩] 88)).cell? ⟨b, off + k * 3 + 1, none⟩ = some (.int .i64 xb) := (HBC.out.cell (World.block_lt_of_cell? _ _ c1)).trans c1
              clear b0 c0 c1 c2
              rw [show decide ((1 : Nat) = 1) = true by simp, readC_true] at HRS
              have HXV := Lib.hid (Has.new wr 88 #[.int .i64 0, .int .i64 0, .string ⟨#[]⟩])
              have x0 : (wr.alloc (.cells #[.int .i64 0, .int .i64 0, .string ⟨#[]⟩] 88)).cell? ⟨wr.heap.size, 0, none⟩ = some (.int .i64 0) := HXV.out.cell 0
              have x1 : (wr.alloc (.cells #[.int .i64 0, .int .i64 0, .string ⟨#[]⟩] 88)).cell? ⟨wr.heap.size, 1, none⟩ = some (.int .i64 0) := HXV.out.cell 1
              have x2 : (wr.alloc (.cells #[.int .i64 0, .int .i64 0, .string ⟨#[]⟩] 88)).cell? ⟨wr.heap.size, 2, none⟩ = some (.string ⟨#[]⟩) := HXV.out.cell 2
              have HAP := Lib.hid (appVR (wr.alloc (.cells #[.int .i64 0, .int .i64 0, .string ⟨#[]⟩] 88)) (wr.heap.size + 1) (by simp) w2.heap.size (.slice Ao no co) R vlNil (HO.out.below HBC.out) (Nat.le_trans HGk.out.size HBC.out.size) (by rw [HLEN.out]; omega))
              unfold vlNil at HAP
              go_wp2_with (at_builtin; refine wpList_app rfl _ _ 35 35 rfl (.slice Ao no co) (.slice (some ⟨wr.heap.size + 1, 0, none⟩) 1 1) rfl rfl ?_; obtain ⟨R5, W', hrun, hmade⟩ := HAP.out; refine ⟨R5, W', hrun, ?_⟩; have HO5 := Lib.hid hmade.1; have HB5 := Lib.hid hmade.2; clear hrun hmade HAP)
              have HB6 := Lib.hid ((HBC.out.mono HGk.out.size).trans HB5.out)
              go_roundw
              case rel => exact ⟨k + 1, by omega, by go_num, HZ2, by rw [HM2.out, HRS.out]; exact HO5, by rw [HM2.out, HRS.out]; exact HRk.out.keep (HB6.out.block g hgl2) (HB6.out.mono (Nat.le_trans hD hsz1)), grown_at HGk.out HB6.out⟩
              case measure => simp [intOf]; omega
          · have hknz : ¬ ((k : Int) < (n : Int)) := by omega
            have hm1 : min k n = n := by omega
            have hm2 : min (k + 1) n = n := by omega
            rw [hm1] at HO HRk HNO
            have HM2 := Lib.hid hm2
            clear hm1 hm2
            rcases hz01 with hz | hz
            · rw [hz] at b0
              go_wp2_with fail
              go_roundw
              case rel => exact ⟨k + 1, by omega, by go_num, fun j h1 h2 => by
                by_cases hjk : j = k
                · rw [hjk]; exact hz
                · exact HZ.out j h1 (by omega), by rw [HM2.out]; exact HO, by rw [HM2.out]; exact HRk, HGk⟩
              case measure => simp [intOf]; omega
            · rw [hz] at b0
              have hany : ((bitsTo by0 8).drop n).any id = true := List.any_eq_true.2 ⟨true, by
                have h3 : (bitsTo by0 8)[k]'(by rw [bitsTo_len]; exact hlt) = true := by simp [bitsTo, hz]
                rw [← h3]
                exact List.mem_drop_iff_getElem.2 ⟨k - n, by rw [bitsTo_len]; omega, by congr 1; omega⟩, rfl⟩
              have HRF2 := Lib.hid (HRF.out.trans (if_pos hany))
              have HGw : Hid (w.grownBy wr (some g)) := grown_trans HG1.out HGk.out
              clear hany
              go_wp2_with fail
              go_ret2
              first | exact ⟨⟨none, 0, 0, by rw [HRF2.out]; rfl, by rw [HRF2.out]; rfl, (by rw [HRF2.out]; exact fun h => absurd rfl h)⟩, (by rw [HRF2.out]; exact fun h => (by cases h)), ⟨_, _, HRk.out⟩, HGw⟩ | exact ⟨⟨none, 0, ⟨0, by rw [HRF2.out]; rfl⟩, by rw [HRF2.out]; rfl, (by rw [HRF2.out]; exact fun h => absurd rfl h)⟩, (by rw [HRF2.out]; exact fun h => (by cases h)), ⟨_, _, HRk.out⟩, HGw⟩
        · obtain rfl : k = 8 := by omega
          have hm1 : min 8 n = n := by omega
          rw [hm1] at HO HRk HNO
          have hany : ((bitsTo by0 8).drop n).any id = false := by
            rw [List.any_eq_false]
            intro x hx
            obtain ⟨i, hi, rfl⟩ := List.getElem_of_mem hx
            rw [List.length_drop, bitsTo_len] at hi
            rw [List.getElem_drop]
            unfold bitsTo
            simp only [List.getElem_map, List.getElem_range]
            rw [HZ.out (n + i) (by omega) (by omega)]
            simp
          have HRF1 := Lib.hid (HRF.out.trans (if_neg (by rw [hany]; simp)))
          have HFT := Lib.hid (readTo_fit M (bitsTo by0 8) l1 e1 n HL1.out.1 HL1.out.2)
          have HAk := Lib.hid (crow_has HA1.out HHR.out HGk.out)
          have HGw : Hid (w.grownBy wr (some g)) := grown_trans HG1.out HGk.out
          clear hany hm1 HRF
          generalize readTo M (bitsTo by0 8) l1 e1 n = S at *
          obtain ⟨R, lk, ek⟩ := S
          simp only at HO HRk HNO HRF1 HFT
          have HCF := Lib.hid (refFits_any A M n c 0 Ao R no co wr HM.out (by omega) HAk.out HNO.out (ownV_row' HO.out) HFT.out)
          obtain ⟨qf, hqf⟩ : ∃ x, fitsF M R = x := ⟨_, rfl⟩
          rw [hqf] at HRF1 HCF
          clear hqf
          have hgr : g < wr.heap.size := HRk.out.lt
          go_wp2_with fail
          refine HCF.out.mono ?_
          rintro x w5 ⟨rfl, hb5⟩
          have HO5 := Lib.hid (HO.out.below hb5.out)
          have HR5 := Lib.hid (HRk.out.keep (hb5.out.block g hgr) (hb5.out.mono (Nat.le_trans hD HGw.out.size)))
          have HG5 := Lib.hid (grown_below HGw.out hb5.out)
          have r1 : w5.cell? ⟨g, 1, none⟩ = some (.int .i64 ek) := by
            obtain ⟨Aq, cq, hh, _⟩ := HR5.out
            exact hh.cell 1
          clear hb5 HCF
          by_cases he : ek = 0
          · subst he
            cases qf
            · have HRF2 : Hid (RF = (none, lk, 0)) := HRF1.out.trans (if_neg (by simp))
              clear HRF1
              go_wp2_with fail
              go_ret2
              exact ⟨⟨none, 0, 0, by rw [HRF2.out]; rfl, by rw [HRF2.out]; rfl, (by rw [HRF2.out]; exact fun h => absurd rfl h)⟩, (by rw [HRF2.out]; exact fun h => (by cases h)), ⟨_, _, HR5.out⟩, HG5⟩
            · have HRF2 : Hid (RF = (some R, lk, 0)) := HRF1.out.trans (if_pos (by simp))
              clear HRF1
              go_wp2_with fail
              go_ret2
              exact ⟨⟨Ao, no, co, by rw [HRF2.out]; rfl, by rw [HRF2.out]; exact HNO, by rw [HRF2.out]; exact ownV_row' HO5.out⟩, by rw [HRF2.out]; exact fun _ => HR5.out, ⟨_, _, HR5.out⟩, HG5⟩
          · have HRF2 : Hid (RF = (none, lk, ek)) := HRF1.out.trans (if_neg (fun h => he h.1))
            have he1 : ((ek : Int) != 0) = true := by simp; omega
            have he2 : ((ek : Int) == 0) = false := by simp; omega
            clear HRF1 he
            go_wp2_with fail
            go_ret2
            exact ⟨⟨none, 0, 0, by rw [HRF2.out]; rfl, by rw [HRF2.out]; rfl, (by rw [HRF2.out]; exact fun h => absurd rfl h)⟩, (by rw [HRF2.out]; exact fun h => (by cases h)), ⟨_, _, HR5.out⟩, HG5⟩
end Go.Proofs.YtbbdmajlbofcmaaDoor
namespace Go.Proofs.YtbbdmajlbofcmaaDoor
open Go.RowKit Dg
set_option maxRecDepth 100000
section
variable {w w' : World} {g : Nat} {t : TypeId} {R : Option Addr} {n c : Nat} {e : Int}
theorem vrow_has {A : Option Addr} {L : List Vl} (h : VRow w A L) (hh : Has w g t #[.slice R n c, .int .i64 e]) (hg : w.grownBy w' (some g)) : VRow w' A L := fun hne => by
  obtain ⟨b, off, ea, hc⟩ := h hne
  have hb : b ≠ g := by
    rintro rfl
    have h0 := (hc 0 (List.length_pos_iff.2 hne)).1
    have h1 := (hc 0 (List.length_pos_iff.2 hne)).2.1
    rw [hh.cell] at h0 h1
    generalize off + 0 * 3 = o at h0 h1
    rcases o with _ | _ | o <;> simp at h0 h1
  exact ⟨b, off, ea, fun i hi => ⟨cell_grown hg (hc i hi).1 hb, cell_grown hg (hc i hi).2.1 hb, cell_grown hg (hc i hi).2.2 hb⟩⟩
theorem u8_has (hh : Has w g t #[.slice R n c, .int .i64 e]) {b o : Nat} {x : Int} (hc : w.cell? ⟨b, o, none⟩ = some (.int .u8 x)) : b ≠ g := by
  rintro rfl
  rw [hh.cell] at hc
  rcases o with _ | _ | o <;> simp at hc
theorem tabs_has (h : Tabs w) (hh : Has w g t #[.slice R n c, .int .i64 e]) (hg : w.grownBy w' (some g)) : Tabs w' :=
  ⟨fun c hc => cell_grown hg (h.1 c hc) (u8_has hh (h.1 c hc)), fun i hi => ⟨cell_grown hg (h.2 i hi).1 (u8_has hh (h.2 i hi).1), cell_grown hg (h.2 i hi).2 (u8_has hh (h.2 i hi).2)⟩⟩
theorem rdr_has {p : Nat} {l : List Nat} {k : Nat} (h : Rdr w p l k) (hh : Has w g t #[.slice R n c, .int .i64 e]) (hg : w.grownBy w' (some g)) (hne : p ≠ g) : Rdr w' p l k := by
  obtain ⟨A, d, h1, h2, h3⟩ := h
  exact ⟨A, d, h1.grown hg hne, h2, h3.turn hg hh (rdr_cells _ _ _ _)⟩
theorem rr_has {D p : Nat} {l : List Nat} {k : Nat} (h : RrD D w p l k) (hh : Has w g t #[.slice R n c, .int .i64 e]) (hg : w.grownBy w' (some g)) (hne : p ≠ g) : RrD D w' p l k := by
  obtain ⟨A, d, h1, h2, h3, h4⟩ := h
  exact ⟨A, d, h1.grown hg hne, h2, h3.turn hg hh (rdr_cells _ _ _ _), h4⟩
theorem Rdr.has {p : Nat} {l : List Nat} {k : Nat} (h : Rdr w p l k) : ∃ A d, Has w p 79 #[.slice A l.length d, .int .i64 (k : Int)] := by
  obtain ⟨A, d, h1, _⟩ := h
  exact ⟨A, d, h1⟩
theorem RrD.has {D p : Nat} {l : List Nat} {k : Nat} (h : RrD D w p l k) : ∃ A d, Has w p 33 #[.slice A l.length d, .int .i64 (k : Int)] := by
  obtain ⟨A, d, h1, _⟩ := h
  exact ⟨A, d, h1⟩
theorem RrD.dd {D p : Nat} {l : List Nat} {k : Nat} (h : RrD D w p l k) : RrD w.heap.size w p l k := by
  obtain ⟨A, d, h1, h2, h3, h4⟩ := h
  refine ⟨A, d, h1, h2, h3, fun hne a ha => ?_⟩
  obtain ⟨b, off, e, hc⟩ := h3 hne
  rw [e] at ha
  injection ha with ha
  subst ha
  exact World.block_lt_of_cell? w _ (hc 0 (List.length_pos_iff.2 hne))
theorem RrD.below {D p : Nat} {l : List Nat} {k : Nat} (h : RrD D w p l k) (hb : Below w.heap.size w w') : RrD w.heap.size w' p l k :=
  h.dd.keep (hb.block p h.lt) hb
theorem rr_new {A : Option Addr} {l : List Nat} {n c : Nat} (hn : l.length = n) (hnc : n ≤ c) (h : Rd w A l) : RrD (w.heap.size + 1) (w.alloc (.cells #[.slice A n c, .int .i64 0] 33)) w.heap.size l 0 := by
  subst hn
  refine ⟨A, c, Has.new w _ _, hnc, h.below ((Below.refl _ w).alloc (Nat.le_refl _) _), fun hne a ha => ?_⟩
  obtain ⟨b, off, e, hc⟩ := h hne
  rw [e] at ha
  injection ha with ha
  subst ha
  exact Nat.lt_succ_of_lt (World.block_lt_of_cell? w _ (hc 0 (List.length_pos_iff.2 hne)))
end
theorem readF_len (M : List Cl) (l : List Nat) (e : Nat) : ((readF M l e).1.getD []).length ≤ M.length := by
  unfold readF
  split
  · simp
  · split
    · simp [readTo_len]
    · simp
end Go.Proofs.YtbbdmajlbofcmaaDoor
