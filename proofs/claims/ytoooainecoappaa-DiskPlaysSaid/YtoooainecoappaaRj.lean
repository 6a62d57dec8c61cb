/-
  The document's Up.
-/
import Derived.Test.YtoooainecoappaaRh
import Derived.Test.YtoooainecoappaaDkV
namespace Go.Proofs.Ytoooainecoappaa
open Go.RowKit Go.Maps Go.WideShapes
theorem bs_ext (M : List Nat) (T : Nat) : (bs M).extract 0 T = bs (M.take T) := by
  apply ByteArray.ext
  simp [bs, ByteArray.data_extract]
theorem upTo_len (keep : List Int) (l : List Pf) (k : Nat) : (upTo keep l k).length = l.length := by unfold upTo; simp
theorem torn_cells (x : Pf) (n : Int) (N : Nat) (hN : (if n < 0 then -(n + 1) else n) = (N : Int)) :
    bs (x.l.take x.k) ++ (bs (x.l.drop x.k)).extract 0 (N % (x.l.length - x.k + 1)) = bs ((torn x n).l.take (torn x n).k) ∧ bs ((torn x n).l.drop (torn x n).k) = ⟨#[]⟩ := by
  have hT : tornK x.l.length x.k n = x.k + N % (x.l.length - x.k + 1) := by
    unfold tornK
    congr 2
    split <;> rename_i h <;> simp only [h, if_true, if_false] at hN <;> omega
  unfold torn
  rw [hT]
  constructor
  · rw [bs_ext, ← bs_append, List.take_take, Nat.min_self, List.take_add]
  · rw [List.drop_eq_nil_of_le (by show _ ≤ x.k + N % (x.l.length - x.k + 1); rw [List.length_take]; exact Nat.min_le_left _ _)]; rfl
section
variable {r : Nat} {w : World} {S : Ds} {v : Value} {ra : Int}
set_option maxHeartbeats 8000000 in
set_option maxRecDepth 100000 in
theorem rup_any (h : RIn r w S v ra) (hg : Good S) (hl : S.fs.length ≤ 100000) (A : Option Addr) (keep : List Int) (nk ck : Nat) (hnk : keep.length = nk) (hnk2 : nk ≤ 140737488355328) (hI : Ints w A keep) (hX : keep ≠ [] → ∀ a, A = some a → a.block ∉ rft r v)
    (hr : ∀ x ∈ keep, -9223372036854775808 ≤ x ∧ x ≤ 9223372036854775807) :
    Calls Try.prog 38 #[.pointer (some ⟨r, 0, none⟩), .slice A nk ck] w fun e w' => e = .returned (.tuple #[]) ∧ ∃ rb, Hid (RIn r w' (upD S keep) v rb) ∧ Hid (Tur (rft r v) w w') := by
  have H := Lib.hid h
  have HI := Lib.hid hI
  have HX := Lib.hid hX
  have HR := Lib.hid hr
  have HG := Lib.hid hg
  have t3 := h.top.cell 3
  have f3 := h.top.free 3
  have f2 := h.top.free 2
  have t2 := h.top.cell 2
  clear h hI hX hr hg
  by_cases hd : S.down = true
  · rw [hd] at t3
    have HU : Hid (upD S keep = { S with down := false, armed := -1, fs := upTo keep S.fs S.fs.length }) := by show _ = _; unfold upD; rw [if_pos hd]
    have HI1 : Hid (RIn r ((w.setCell ⟨r, 3, none⟩ (.bool false)).setCell ⟨r, 2, none⟩ (.int .i64 (-1))) { S with armed := -1, down := false } v (-1)) :=
      H.out.tops (-1) (-1) false ((H.out.top.put 3 (.bool false)).put 2 _) (fun b hb => (Below.heap_setCell _ ⟨r, 2, none⟩ _ _ hb).trans (Below.heap_setCell _ ⟨r, 3, none⟩ _ _ hb)) (.inr (.inl rfl)) (by decide)
    have HT1 : Hid (Tur (rft r v) w ((w.setCell ⟨r, 3, none⟩ (.bool false)).setCell ⟨r, 2, none⟩ (.int .i64 (-1)))) := (Tur.setCell w (p := ⟨r, 3, none⟩) (rft_iff.2 (.inl rfl)) _).trans (Tur.setCell _ (p := ⟨r, 2, none⟩) (rft_iff.2 (.inl rfl)) _) (Fre.refl _ _)
    have e2 : (w.setCell ⟨r, 3, none⟩ (.bool false)).cell? ⟨r, 2, none⟩ = some (.int .i64 ra) := (H.out.top.put 3 (.bool false)).cell 2
    go_enter Try.func38, Try.ntmps38
    go_wp2_with fail
    obtain ⟨w1, hW1⟩ : ∃ w1, w1 = (w.setCell ⟨r, 3, none⟩ (.bool false)).setCell ⟨r, 2, none⟩ (.int .i64 (-1)) := ⟨_, rfl⟩
    rw [← hW1] at HI1 HT1 ⊢
    clear hW1 e2 t3 f3 f2 t2
    obtain ⟨A1, c, rfl, q1, q2, q3, q4, -⟩ := HI1.out.row
    clear q2 q3 q4
    have HQ1 := Lib.hid q1
    clear q1
    go_loopw [4] (fun i wr => ∃ k : Nat, k ≤ S.fs.length ∧ i = .int .i64 k ∧ Hid (RIn r wr { S with down := false, armed := -1, fs := upTo keep S.fs k } (.slice A1 S.fs.length c) (-1)) ∧ Hid (Tur (rft r (.slice A1 S.fs.length c)) w1 wr))
      (fun i _ => S.fs.length - (intOf i).toNat)
    case atStart => exact ⟨0, by omega, rfl, by rw [upTo_zero]; exact HI1, Tur.refl _ _⟩
    case round =>
      obtain ⟨k, hk, rfl, HD, HT⟩ := hrel
      have t1 : wr.cell? ⟨r, 1, none⟩ = some (.slice A1 S.fs.length c) := HD.out.top.cell 1
      by_cases hlt : k < S.fs.length
      · have hk1 := List.getElem?_eq_getElem hlt
        have HS := fun n (hn : keep.getD k 0 = n) => Lib.hid (hn ▸ upTo_succ keep S.fs k _ hk1 : upTo keep S.fs (k + 1) = (upTo keep S.fs k).set k (torn S.fs[k] n))
        have hkx : (upTo keep S.fs k)[k]? = some S.fs[k] := by rw [upTo_get, hk1]; simp
        obtain ⟨A', c', he', q1, q2, q3, q4, hrow⟩ := HD.out.row
        injection he' with e1 e2 e3
        obtain ⟨g, hAg, c0, c1, c2, f0⟩ := hrow k S.fs[k] hkx
        rw [← e1] at hAg
        subst hAg
        clear e1 e2 e3 q1 q2 q3 q4 hrow c0
        have hkp := (HG.out.kept S.fs[k] (List.getElem_mem _)).1
        have hlx := HG.out.len (List.getElem_mem (h := hlt))
        have hroom := HG.out.room
        have HC := fun n N hN => Lib.hid (torn_cells S.fs[k] n N hN)
        have HKX := Lib.hid hkx
        clear hk1 hkx
        generalize S.fs[k] = x at *
        have f1 := f0 (k * 3 + 1)
        have f2 := f0 (k * 3 + 2)
        have hr0 : g ≠ r := HD.out.ne g rfl
        have s1 : (bs (x.l.take x.k)).size ≤ 1000 := by rw [bs_size, List.length_take]; omega
        have s2 : (bs (x.l.drop x.k)).size ≤ 1000 := by rw [bs_size, List.length_drop]; omega
        have s3 : (bs (x.l.drop x.k)).size = x.l.length - x.k := by rw [bs_size, List.length_drop]
        have HSET : Hid (∀ n N, (if n < 0 then -(n + 1) else n) = ((N : Nat) : Int) → keep.getD k 0 = n → RIn r (((wr.drew).setCell ⟨g, k * 3 + 1, none⟩ (.string (bs (x.l.take x.k) ++ (bs (x.l.drop x.k)).extract 0 (N % (x.l.length - x.k + 1))))).setCell ⟨g, k * 3 + 2, none⟩ (.string ⟨#[]⟩)) { S with down := false, armed := -1, fs := upTo keep S.fs (k + 1) } (.slice (some ⟨g, 0, none⟩) S.fs.length c) (-1)) := by
          intro n N hN hn
          have hdr : RIn r wr.drew { S with down := false, armed := -1, fs := upTo keep S.fs k } (.slice (some ⟨g, 0, none⟩) S.fs.length c) (-1) := HD.out.keep fun _ _ => rfl
          rw [(HS n hn).out, (HC n N hN).out.1]
          have h1 := rcs_set (upTo keep S.fs k) k x (torn x n) HKX.out rfl
          rw [(HC n N hN).out.2] at h1
          have h2 := row_set (row_set hdr.own (g := g) rfl (k * 3 + 1) (.string (bs ((torn x n).l.take (torn x n).k)))) (g := g) rfl (k * 3 + 2) (.string ⟨#[]⟩)
          rw [h1] at h2
          exact hdr.sets h2 (by rw [List.length_set]) ((Below.heap_setCell _ ⟨g, k * 3 + 2, none⟩ _ _ (fun e => hr0 e.symm)).trans (Below.heap_setCell _ ⟨g, k * 3 + 1, none⟩ _ _ (fun e => hr0 e.symm)))
        have HTS : Hid (∀ u1 u2, Tur (rft r (.slice (some ⟨g, 0, none⟩) S.fs.length c)) w1 (((wr.drew).setCell ⟨g, k * 3 + 1, none⟩ u1).setCell ⟨g, k * 3 + 2, none⟩ u2)) := fun u1 u2 =>
          ((HT.out.trans (Tur.drew _ _) (Fre.refl _ _)).trans (Tur.setCell _ (p := ⟨g, k * 3 + 1, none⟩) (rft_iff.2 (.inr rfl)) _) (Fre.refl _ _)).trans (Tur.setCell _ (p := ⟨g, k * 3 + 2, none⟩) (rft_iff.2 (.inr rfl)) _) (Fre.refl _ _)
        clear HS HC HKX hkp hlx hroom f0
        by_cases hkk : k < nk
        · obtain ⟨ab, ao, rfl, hIc⟩ := HI.out (by intro e; rw [e] at hnk; simp at hnk; omega)
          have hIk := hIc k (by omega)
          have a0 : wr.cell? ⟨ab, ao + k, none⟩ = some (.int .i64 keep[k]) := by
            have hlw := World.block_lt_of_cell? w ⟨ab, ao + k, none⟩ hIk
            have hnx := HX.out (by intro e; rw [e] at hnk; simp at hnk; omega) _ rfl
            have h1 := HT1.out.block ab hlw hnx
            have h2 := HT.out.block ab (by have := HT1.out.size; have : ab < w.heap.size := hlw; omega) hnx
            exact (World.cell?_of_block (w := w) (a := ⟨ab, ao + k, none⟩) (h2.trans h1)).trans hIk
          have hkd : keep.getD k 0 = keep[k] := by rw [List.getD_eq_getElem?_getD, List.getElem?_eq_getElem (by omega)]; rfl
          have hrk := HR.out _ (List.getElem_mem (l := keep) (n := k) (by omega))
          have HKD := Lib.hid hkd
          clear hIk hIc hkd
          generalize keep[k] = n at *
          by_cases hneg : n < 0
          · obtain ⟨N, hN⟩ : ∃ N : Nat, -(n + 1) = (N : Int) := ⟨(-(n + 1)).toNat, by omega⟩
            have b1 : -9223372036854775808 ≤ n + 1 := by omega
            have b2 : n + 1 ≤ 9223372036854775807 := by omega
            have b3 : -9223372036854775808 ≤ -(n + 1) := by omega
            have b4 : -(n + 1) ≤ 9223372036854775807 := by omega
            have HRI := Lib.hid (HSET.out (n) (N) (by rw [if_pos hneg]; exact hN) HKD.out)
            have hML := Nat.mod_lt (N) (show 0 < x.l.length - x.k + 1 by omega)
            have hmod : ((N : Nat) : Int).tmod (((bs (x.l.drop x.k)).size : Int) + 1) = (((N) % (x.l.length - x.k + 1) : Nat) : Int) := by
              rw [s3, show (((x.l.length - x.k : Nat) : Int) + 1) = ((x.l.length - x.k + 1 : Nat) : Int) by omega]
              exact (Int.ofNat_tmod _ _).symm
            generalize (N) % (x.l.length - x.k + 1) = M at *
            have m1 : (M : Int) ≤ ((bs (x.l.drop x.k)).size : Int) := by omega
            have m0 : (0 : Int) ≤ (M : Int) := by omega
            have hes : ((bs (x.l.drop x.k)).extract 0 M).size ≤ 1000 := by rw [ByteArray.size_extract]; omega
            have hcc : ¬ (9223372036854775807 < (bs (x.l.take x.k)).size + min M (bs (x.l.drop x.k)).size) := by omega
            have a3 : ¬ (((bs (x.l.drop x.k)).size : Int) + 1 = 0) := by omega
            have a4 : IntKind.i64.wrap (((bs (x.l.drop x.k)).size : Int) + 1) = ((bs (x.l.drop x.k)).size : Int) + 1 := by rw [IntKind.wrap_i64]; omega
            clear HSET s3
            generalize bs (x.l.take x.k) = sa at *
            generalize bs (x.l.drop x.k) = sb2 at *
            generalize hnn : S.fs.length = nn at *
            go_wp2_with fail
            go_still_tail 37, (by kernel_rfl)
            change wpList _ _ _ _ _ wr.drew
            go_wp2_with fail
            go_roundw
            case rel => exact ⟨k + 1, by omega, by go_num, HRI, HTS.out _ _⟩
            case measure => simp [intOf]; omega
          · obtain ⟨N, rfl⟩ : ∃ N : Nat, n = (N : Int) := ⟨n.toNat, by omega⟩
            have HRI := Lib.hid (HSET.out ((N : Int)) (N) (by rw [if_neg hneg]) HKD.out)
            have hML := Nat.mod_lt (N) (show 0 < x.l.length - x.k + 1 by omega)
            have hmod : ((N : Nat) : Int).tmod (((bs (x.l.drop x.k)).size : Int) + 1) = (((N) % (x.l.length - x.k + 1) : Nat) : Int) := by
              rw [s3, show (((x.l.length - x.k : Nat) : Int) + 1) = ((x.l.length - x.k + 1 : Nat) : Int) by omega]
              exact (Int.ofNat_tmod _ _).symm
            generalize (N) % (x.l.length - x.k + 1) = M at *
            have m1 : (M : Int) ≤ ((bs (x.l.drop x.k)).size : Int) := by omega
            have m0 : (0 : Int) ≤ (M : Int) := by omega
            have hes : ((bs (x.l.drop x.k)).extract 0 M).size ≤ 1000 := by rw [ByteArray.size_extract]; omega
            have hcc : ¬ (9223372036854775807 < (bs (x.l.take x.k)).size + min M (bs (x.l.drop x.k)).size) := by omega
            have a3 : ¬ (((bs (x.l.drop x.k)).size : Int) + 1 = 0) := by omega
            have a4 : IntKind.i64.wrap (((bs (x.l.drop x.k)).size : Int) + 1) = ((bs (x.l.drop x.k)).size : Int) + 1 := by rw [IntKind.wrap_i64]; omega
            clear HSET s3
            generalize bs (x.l.take x.k) = sa at *
            generalize bs (x.l.drop x.k) = sb2 at *
            generalize hnn : S.fs.length = nn at *
            go_wp2_with fail
            go_still_tail 37, (by kernel_rfl)
            change wpList _ _ _ _ _ wr.drew
            go_wp2_with fail
            go_roundw
            case rel => exact ⟨k + 1, by omega, by go_num, HRI, HTS.out _ _⟩
            case measure => simp [intOf]; omega
        · have hkd : keep.getD k 0 = 0 := by rw [List.getD_eq_getElem?_getD, List.getElem?_eq_none (by omega)]; rfl
          have HKD := Lib.hid hkd
          clear hkd
          have HRI := Lib.hid (HSET.out (0) (0) (by decide) HKD.out)
          have hML := Nat.mod_lt (0) (show 0 < x.l.length - x.k + 1 by omega)
          have hmod : ((0 : Nat) : Int).tmod (((bs (x.l.drop x.k)).size : Int) + 1) = (((0) % (x.l.length - x.k + 1) : Nat) : Int) := by
            rw [s3, show (((x.l.length - x.k : Nat) : Int) + 1) = ((x.l.length - x.k + 1 : Nat) : Int) by omega]
            exact (Int.ofNat_tmod _ _).symm
          rw [Nat.zero_mod] at *
          have m1 : ((0 : Nat) : Int) ≤ ((bs (x.l.drop x.k)).size : Int) := by omega
          have m0 : (0 : Int) ≤ ((0 : Nat) : Int) := by omega
          have hes : ((bs (x.l.drop x.k)).extract 0 0).size ≤ 1000 := by rw [ByteArray.size_extract]; omega
          have hcc : ¬ (9223372036854775807 < (bs (x.l.take x.k)).size + min 0 (bs (x.l.drop x.k)).size) := by omega
          have a3 : ¬ (((bs (x.l.drop x.k)).size : Int) + 1 = 0) := by omega
          have a4 : IntKind.i64.wrap (((bs (x.l.drop x.k)).size : Int) + 1) = ((bs (x.l.drop x.k)).size : Int) + 1 := by rw [IntKind.wrap_i64]; omega
          clear HSET s3
          have hcc0 : ¬ (9223372036854775807 < (bs (x.l.take x.k)).size) := by omega
          have hx0 : bs (x.l.take x.k) ++ (bs (x.l.drop x.k)).extract 0 0 = bs (x.l.take x.k) := by rw [bs_ext, List.take_zero, ← bs_append, List.append_nil]
          rw [hx0] at HRI
          clear hx0
          generalize bs (x.l.take x.k) = sa at *
          generalize bs (x.l.drop x.k) = sb2 at *
          generalize hnn : S.fs.length = nn at *
          go_wp2_with fail
          go_still_tail 37, (by kernel_rfl)
          change wpList _ _ _ _ _ wr.drew
          go_wp2_with fail
          go_roundw
          case rel => exact ⟨k + 1, by omega, by go_num, HRI, HTS.out _ _⟩
          case measure => simp [intOf]; omega
      · obtain rfl : k = S.fs.length := by omega
        go_wp2_with fail
        go_end0
        rw [HU.out]
        exact ⟨rfl, ⟨-1, HD⟩, HT1.out.trans HT.out (Fre.refl _ _)⟩
  · have hd' : S.down = false := by simpa using hd
    have HU : Hid (upD S keep = S) := by show _ = _; unfold upD; rw [if_neg hd]
    rw [hd'] at t3
    go_enter Try.func38, Try.ntmps38
    go_wp2_with fail
    refine bodyPost_ret (results_none rfl _ _ _) rfl ?_
    rw [HU.out]
    exact ⟨rfl, ra, H.out, Tur.refl _ _⟩
end
end Go.Proofs.Ytoooainecoappaa
