/-
  Keys' bytes; and what puts them behind others.
-/
import Derived.Test.YtcdjeibcnkpadaaDoorVal
namespace Go.Proofs.YtcdjeibcnkpadaaDoor
open Go.RowKit Dg
theorem info5 : (Tryd.prog.info? 5).map (fun i => (i.zero, i.size, i.bytes)) = some (some (.int .u8 0), 1, 1) := by kernel_rfl
/-- Bytes in a row of the call's own. -/
def Own (B : Nat) (w : World) (v : Value) (l : List Nat) : Prop := w.ownsRow B 5 1 v l.length (l.map bv)
/-- Bytes come back, in a row of the call's own. -/
def OutO (w : World) (l : List Nat) (e : Ending) (w' : World) : Prop := ∃ v, e = .returned v ∧ Own w.heap.size w' v l ∧ Below w.heap.size w w'
theorem own_nil (B : Nat) (w : World) : Own B w (.slice none 0 0) [] := World.ownsRow_nil _ _ _ _
theorem Own.below {B : Nat} {w w' : World} {v : Value} {l : List Nat} (h : Own B w v l) (hb : Below w.heap.size w w') : Own B w' v l := by
  rcases h.2 with ⟨hv, hn⟩ | ⟨g, cap, cur, hv, hg, hh, hc, hcm, hsz, ht⟩
  · exact ⟨h.1, .inl ⟨hv, hn⟩⟩
  · exact ⟨h.1, .inr ⟨g, cap, cur, hv, hg, Has.below (t := 5) (cs := cur) hh hb (Has.lt (t := 5) (cs := cur) hh), hc, hcm, hsz, ht⟩⟩
theorem own_full {B : Nat} {w : World} {v : Value} {l : List Nat} (h : Own B w v l) : ∃ A c, v = .slice A l.length c ∧ l.length ≤ c ∧ Rd w A l := by
  rcases h.2 with ⟨hv, hn⟩ | ⟨g, cap, cur, hv, _, hh, hc, _, _, ht⟩
  · obtain rfl := List.eq_nil_of_length_eq_zero hn
    exact ⟨none, 0, hv, Nat.le_refl _, Rd.nil _ _⟩
  · subst hv
    exact ⟨_, _, rfl, hc, Rd.of_has (t := 5) (cs := cur) hh fun i hi => by
      have h1 : (l.map bv)[i]? = some (bv l[i]) := by simp [hi]
      rw [← ht, List.getElem?_take, if_pos (by omega)] at h1
      simpa using h1⟩
/-- Its length under a letter; and what a conversion makes of it. -/
theorem own_conv {B : Nat} {w : World} {v : Value} {l : List Nat} (h : Own B w v l) : ∃ A n c, v = .slice A n c ∧ Hid (l.length = n) ∧ Sem.run Tryd.prog (convert 131 9 (.slice A n c)) w = .ok (.string (bs l)) w := by
  obtain ⟨A, c, e, _, hr⟩ := own_full h
  exact ⟨A, l.length, c, e, rfl, conv_len w A l _ c rfl hr⟩
/-- Blocks of other types are as they were. -/
def Kept (w w' : World) : Prop := ∀ (g : Nat) (t : TypeId) (cs : Array Value), t ≠ 5 → Has w g t cs → Has w' g t cs
theorem Kept.trans {a b c : World} (h : Kept a b) (k : Kept b c) : Kept a c := fun g t cs ht hh => k g t cs ht (h g t cs ht hh)
theorem Kept.below {a b : World} (h : Below a.heap.size a b) : Kept a b := fun _ _ _ _ hh => hh.below h hh.lt
/-- Bytes that lie in a new block are put behind a row of the call's own. -/
theorem app_at (w : World) (g : Nat) (hg0 : g = w.heap.size) (B : Nat) (v : Value) (l : List Nat) (ds : List Nat) (cs : Array Value) (hcs : cs = (ds.map bv).toArray) (m : Nat) (hm : ds.length = m) (h : Own B w v l) (hB : B ≤ w.heap.size) (hl : l.length + m ≤ 1000000) :
    ∃ R W', (Builtin.append_ #[131, 131] 131 #[v, .slice (some ⟨g, 0, none⟩) m m]).run Tryd.prog (w.alloc (.cells cs 5)) = .ok R W' ∧ Own B W' R (l ++ ds) ∧ Below B w W' ∧ Kept w W' := by
  subst hcs; subst hm; subst hg0
  obtain ⟨i0, hi, hz0, hz1, hz2⟩ := info_parts info5
  obtain ⟨R, W', hrun, hown, hg, _⟩ := run_append_own (P := Tryd.prog) (w.alloc (.cells (ds.map bv).toArray 5)) B 131 131 5 i0 (.int .u8 0) 1 1 Tryd.underlying131 hi hz0 hz1 hz2 rfl (by decide) v l.length (l.map bv) (h.alloc _)
    ⟨w.heap.size, 0, none⟩ ds.length ds.length (ds.map bv) (by simp) (fun j u hj => by
      have := (Has.new w 5 (ds.map bv).toArray).cell j
      rw [List.getElem?_toArray] at this
      rw [Addr.add_lit, Nat.zero_add]
      exact this.trans hj) (bv_one ds) (by unfold maxLen; omega) (by omega) (by simp; omega)
  refine ⟨R, W', hrun, ?_, ?_, ?_⟩
  · unfold Own; rw [List.map_append, List.length_append]; exact hown
  · exact ((Below.refl B w).alloc hB _).grown hg (by simp; omega) fun k hk => (World.ownsRow.lt h k hk).1
  · intro g t cs ht hh
    have hh2 := hh.alloc (.cells (ds.map bv).toArray 5)
    refine (hg.block g hh2.lt fun e => ?_).trans hh2
    rcases h.2 with ⟨hv, _⟩ | ⟨g', cap, cur, hv, _, hc, _⟩
    · rw [hv] at e; cases e
    · rw [hv] at e
      have e2 : g = g' := by simpa [Value.ownBlock] using e
      subst e2
      unfold Has at hh
      rw [hc] at hh
      simp at hh
      exact ht hh.2.symm
theorem app_new (w : World) (B : Nat) (v : Value) (l : List Nat) (ds : List Nat) (cs : Array Value) (hcs : cs = (ds.map bv).toArray) (m : Nat) (hm : ds.length = m) (h : Own B w v l) (hB : B ≤ w.heap.size) (hl : l.length + m ≤ 1000000) :
    ∃ R W', (Builtin.append_ #[131, 131] 131 #[v, .slice (some ⟨w.heap.size, 0, none⟩) m m]).run Tryd.prog (w.alloc (.cells cs 5)) = .ok R W' ∧ Own B W' R (l ++ ds) ∧ Below B w W' := by
  obtain ⟨R, W', h1, h2, h3, _⟩ := app_at w _ rfl B v l ds cs hcs m hm h hB hl
  exact ⟨R, W', h1, h2, h3⟩
/-- The bytes of a number, the highest one first. -/
def hi (n : Int) (size k : Nat) : List Nat := (List.range k).map fun i => (n / 2 ^ (8 * (size - 1 - i)) % 256).toNat
theorem hi_succ (n : Int) (size k : Nat) : hi n size (k + 1) = hi n size k ++ [(n / 2 ^ (8 * (size - 1 - k)) % 256).toNat] := by
  unfold hi; rw [List.range_succ, List.map_append]; rfl
theorem hi_len (n : Int) (size k : Nat) : (hi n size k).length = k := by simp [hi]
set_option maxHeartbeats 1000000 in
set_option maxRecDepth 100000 in
theorem addNumber_any (B : Nat) (v : Value) (l : List Nat) (n : Int) (size : Nat) (w : World) (h : Own B w v l) (hB : B ≤ w.heap.size) (hl : l.length ≤ 900000) (hs : size ≤ 8) :
    Calls Tryd.prog 95 #[v, .int .i64 n, .int .i64 size] w fun e w' => ∃ v', e = .returned v' ∧ Hid (Own B w' v' (l ++ hi n size size)) ∧ Hid (Below B w w') := by
  have H := Lib.hid h
  clear h
  go_enter Tryd.func95, Tryd.ntmps95
  go_wp2_with fail
  go_loopw [0, 9] (fun x i wr => ∃ (k : Nat) (u : Value), k ≤ size ∧ i = .int .i64 k ∧ u = x ∧ Hid (Own B wr u (l ++ hi n size k)) ∧ Hid (Below B w wr)) (fun _ i _ => size - (intOf i).toNat)
  case atStart => exact ⟨0, v, by omega, rfl, rfl, by simpa [hi] using H, Below.refl _ _⟩
  case round =>
    obtain ⟨k, u, hk, rfl, rfl, HO, HB⟩ := hrel
    by_cases hlt : k < size
    · have HA := Lib.hid (app_new wr B u (l ++ hi n size k) [(n / 2 ^ (8 * (size - 1 - k)) % 256).toNat] #[.int .u8 (n / 2 ^ (8 * (size - 1 - k)) % 256)] (by simp [bv]; omega) 1 rfl HO.out (Nat.le_trans hB HB.out.size) (by rw [List.length_append, hi_len]; omega))
      go_wp2_with (at_builtin; refine wpList_app rfl _ _ 131 131 rfl u (.slice (some ⟨wr.heap.size, 0, none⟩) 1 1) rfl rfl ?_; obtain ⟨R, W', hrun, hmade⟩ := HA.out; refine ⟨R, W', hrun, ?_⟩; have HM := Lib.hid hmade; clear hrun hmade)
      go_roundw
      case rel => exact ⟨k + 1, R, by omega, by go_num, rfl, by rw [hi_succ, ← List.append_assoc]; exact HM.out.1, HB.out.trans HM.out.2⟩
      case measure => simp [intOf]; omega
    · obtain rfl : k = size := by omega
      go_wp2_with fail
      go_ret
      exact ⟨u, rfl, HO, HB⟩
/-- A text as it stands in a key, without its end. -/
def esc : List Nat → List Nat
  | [] => []
  | x :: t => if x = 0 then 0 :: 255 :: esc t else x :: esc t
theorem esc_append : ∀ l m : List Nat, esc (l ++ m) = esc l ++ esc m
  | [], _ => rfl
  | x :: t, m => by
    simp only [List.cons_append, esc]
    rw [esc_append t m]
    split <;> simp
theorem esc_len : ∀ l : List Nat, (esc l).length ≤ 2 * l.length
  | [] => by simp [esc]
  | x :: t => by
    have := esc_len t
    simp only [esc]
    split <;> simp <;> omega
theorem sb_get (s : ByteArray) (k : Nat) (h : k < s.size) : (sb s)[k]'(by rw [sb_length]; exact h) = (s[k]'h).toNat := by
  simp [sb]
  rfl
theorem sb_take_succ (s : ByteArray) (k : Nat) (h : k < s.size) : (sb s).take (k + 1) = (sb s).take k ++ [(s[k]'h).toNat] := by
  rw [List.take_succ_eq_append_getElem (by rw [sb_length]; exact h), sb_get s k h]
set_option maxHeartbeats 2000000 in
set_option maxRecDepth 100000 in
theorem addText_any (B : Nat) (v : Value) (l : List Nat) (s : ByteArray) (w : World) (h : Own B w v l) (hB : B ≤ w.heap.size) (hl : l.length + 2 * s.size ≤ 900000) :
    Calls Tryd.prog 96 #[v, .string s] w fun e w' => ∃ v', e = .returned v' ∧ Hid (Own B w' v' (l ++ (esc (sb s) ++ [0, 1]))) ∧ Hid (Below B w w') := by
  have H := Lib.hid h
  clear h
  go_enter Tryd.func96, Tryd.ntmps96
  go_wp2_with fail
  go_loopw [0, 8] (fun x i wr => ∃ (k : Nat) (u : Value), k ≤ s.size ∧ i = .int .i64 k ∧ u = x ∧ Hid (Own B wr u (l ++ esc ((sb s).take k))) ∧ Hid (Below B w wr)) (fun _ i _ => s.size - (intOf i).toNat)
  case atStart => exact ⟨0, v, by omega, rfl, rfl, by simpa [esc] using H, Below.refl _ _⟩
  case round =>
    obtain ⟨k, u, hk, rfl, rfl, HO, HB⟩ := hrel
    have hel : (esc ((sb s).take k)).length ≤ 2 * k := by
      have := esc_len ((sb s).take k)
      rw [List.length_take] at this
      omega
    by_cases hlt : k < s.size
    · have HS := Lib.hid (sb_take_succ s k hlt)
      have HA := Lib.hid (app_new wr B u (l ++ esc ((sb s).take k)) [s[k].toNat] #[.int .u8 s[k].toNat] (by simp [bv]) 1 rfl HO.out (Nat.le_trans hB HB.out.size) (by rw [List.length_append]; omega))
      by_cases hz : s[k].toNat = 0
      · have HE : Hid (esc ((sb s).take (k + 1)) = esc ((sb s).take k) ++ [0] ++ [255]) := by
          show _ = _
          rw [HS.out, esc_append, hz]; simp [esc]
        have HA := Lib.hid (app_new wr B u (l ++ esc ((sb s).take k)) [0] #[.int .u8 0] rfl 1 rfl HO.out (Nat.le_trans hB HB.out.size) (by rw [List.length_append]; omega))
        have hzz : ((s[k].toNat : Int) == 0) = true := by rw [hz]; rfl
        go_wp2_with (first
          | (at_builtin; refine wpList_app rfl _ _ 131 131 rfl u (.slice (some ⟨wr.heap.size, 0, none⟩) 1 1) rfl rfl ?_; obtain ⟨R, W', hrun, hmade⟩ := HA.out; refine ⟨R, W', hrun, ?_⟩; have HM := Lib.hid hmade; clear hrun hmade HA)
          | (at_builtin; refine wpList_app rfl _ _ 131 131 rfl R (.slice (some ⟨W'.heap.size, 0, none⟩) 1 1) rfl rfl ?_; obtain ⟨R2, W2, hrun, hmade⟩ := app_new W' B R _ [255] #[.int .u8 255] rfl 1 rfl HM.out.1 (Nat.le_trans hB (Nat.le_trans HB.out.size HM.out.2.size)) (by rw [List.length_append, List.length_append]; simp; omega); refine ⟨R2, W2, hrun, ?_⟩; have HM2 := Lib.hid hmade; clear hrun hmade))
        go_roundw
        case rel => exact ⟨k + 1, R2, by omega, by go_num, rfl, by rw [HE.out, ← List.append_assoc, ← List.append_assoc]; exact HM2.out.1, HB.out.trans (HM.out.2.trans HM2.out.2)⟩
        case measure => simp [intOf]; omega
      · have HE : Hid (esc ((sb s).take (k + 1)) = esc ((sb s).take k) ++ [s[k].toNat]) := by
          show _ = _
          rw [HS.out, esc_append]; simp [esc, hz]
        have hzz : ((s[k].toNat : Int) == 0) = false := by simp; omega
        go_wp2_with (at_builtin; refine wpList_app rfl _ _ 131 131 rfl u (.slice (some ⟨wr.heap.size, 0, none⟩) 1 1) rfl rfl ?_; obtain ⟨R, W', hrun, hmade⟩ := HA.out; refine ⟨R, W', hrun, ?_⟩; have HM := Lib.hid hmade; clear hrun hmade HA)
        go_roundw
        case rel => exact ⟨k + 1, R, by omega, by go_num, rfl, by rw [HE.out, ← List.append_assoc]; exact HM.out.1, HB.out.trans HM.out.2⟩
        case measure => simp [intOf]; omega
    · obtain rfl : k = s.size := by omega
      have HT : Hid ((sb s).take s.size = sb s) := List.take_of_length_le (by rw [sb_length]; exact Nat.le_refl _)
      have HA := Lib.hid (app_new wr B u (l ++ esc ((sb s).take s.size)) [0, 1] #[.int .u8 0, .int .u8 1] rfl 2 rfl HO.out (Nat.le_trans hB HB.out.size) (by rw [List.length_append]; omega))
      go_wp2_with (at_builtin; refine wpList_app rfl _ _ 131 131 rfl u (.slice (some ⟨wr.heap.size, 0, none⟩) 2 2) rfl rfl ?_; obtain ⟨R, W', hrun, hmade⟩ := HA.out; refine ⟨R, W', hrun, ?_⟩; have HM := Lib.hid hmade; clear hrun hmade HA)
      go_ret
      refine ⟨R, rfl, ?_, HB.out.trans HM.out.2⟩
      have h := HM.out.1
      rw [HT.out, List.append_assoc] at h
      exact h
end Go.Proofs.YtcdjeibcnkpadaaDoor
