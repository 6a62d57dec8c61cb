/-
  Keys: the first keys behind one.
-/
import Derived.Test.YtmapclocbhkpbaaTrS
namespace Go.Proofs.Ytmapclocbhkpbaa
open Go.RowKit Go.Shelf Go.Maps Dg
set_option linter.unusedVariables false
attribute [local go_sem] Oper.semAt_some
/-- Is a key left out, behind one? -/
def skp (after k : ByteArray) : Bool := (k.toList == after.toList) && !after.toList.isEmpty
def outL (after : ByteArray) (xs : List Nd) : List ByteArray := (xs.filter fun x => !skp after x.k).map Nd.k
def keysF (T : Tr) (after : ByteArray) (most : Int) : List ByteArray := if most < 1 then [] else (outL after (T.from after)).take most.toNat
theorem outL_no {after : ByteArray} {pre : List Nd} {x : Nd} (h : skp after x.k = true) : outL after (pre ++ [x]) = outL after pre := by simp [outL, h]
theorem outL_yes {after : ByteArray} {pre : List Nd} {x : Nd} (h : skp after x.k = false) : outL after (pre ++ [x]) = outL after pre ++ [x.k] := by simp [outL, h]
theorem outL_take {after : ByteArray} {pre xs : List Nd} (h : pre <+: xs) : (outL after xs).take (outL after pre).length = outL after pre := by
  obtain ⟨r, rfl⟩ := h
  simp [outL]
theorem outL_len (after : ByteArray) (xs : List Nd) : (outL after xs).length ≤ xs.length := by
  unfold outL
  rw [List.length_map]
  exact List.length_filter_le _ _
theorem from_len (key : ByteArray) : ∀ T : Tr, (T.from key).length ≤ T.size
  | .nil => Nat.le_refl _
  | .node b l k v lo le r => by
    have h1 := from_len key l
    have h2 := from_len key r
    unfold Tr.from Tr.size
    split <;> simp <;> omega
/-- A node that is told lies there. -/
theorem from_at {n : Nat} {w : World} (key : ByteArray) : ∀ {T : Tr}, IsTr n w T → ∀ x ∈ T.from key, x.b < n ∧ w.cell? ⟨x.b, 0, none⟩ = some (.string x.k) ∧ w.cell? ⟨x.b, 1, none⟩ = some (.int .i64 x.v)
  | .nil, _, x, hx => by cases hx
  | .node b l k v lo le r, ⟨h1, h2, h3, h4⟩, x, hx => by
    unfold Tr.from at hx
    rcases List.mem_append.1 hx with hx | hx
    · split at hx
      · cases hx
      · rcases List.mem_append.1 hx with hx | hx
        · exact from_at key h3 x hx
        · rw [List.mem_singleton.1 hx]
          exact ⟨h1, h2.cell 0, h2.cell 1⟩
    · exact from_at key h4 x hx
/-- What Keys has, between two rounds. -/
structure KI (w : World) (after : ByteArray) (most : Int) (L : List ByteArray) (X : List Nat) (V : World) (v : Value) : Prop where
  X : X = (w.heap.size + 2) :: v.ownBlock.toList
  l : Has V (w.heap.size + 2) 26 #[v]
  own : OwnS w.heap.size V v L
  far : ∀ g, v.ownBlock = some g → w.heap.size + 3 ≤ g
  a : Has V w.heap.size 9 #[.string after]
  m : Has V (w.heap.size + 1) 3 #[.int .i64 most]
  below : Below w.heap.size w V
theorem KI.stays {w : World} {after : ByteArray} {most : Int} {L : List ByteArray} {X : List Nat} {V W : World} {v : Value} {B : Nat} {Z : List Nat} (h : KI w after most L X V v) (hB : w.heap.size + 3 ≤ B) (ht : Tur Z V W) (hz : ∀ b ∈ Z, B ≤ b ∧ b ∉ X) : KI w after most L X W v := by
  have hX := h.X
  refine ⟨h.X, h.l.tur ht fun hh => ?_, h.own.keep fun g hg => ht.block g (h.own.lt hg).2 fun hh => ?_, h.far, h.a.tur ht fun hh => ?_, h.m.tur ht fun hh => ?_, ?_⟩
  · have := (hz _ hh).1; omega
  · exact (hz _ hh).2 (by rw [hX, hg]; simp)
  · have := (hz _ hh).1; omega
  · have := (hz _ hh).1; omega
  · exact h.below.trans (ht.below (fun b hb => by have := (hz b hb).1; omega) h.below.size)
theorem KI.lt {w : World} {after : ByteArray} {most : Int} {L : List ByteArray} {X : List Nat} {V : World} {v : Value} (h : KI w after most L X V v) : ∀ b ∈ X, b < V.heap.size := by
  intro b hb
  rw [h.X] at hb
  rcases List.mem_cons.1 hb with rfl | hb
  · exact h.l.lt
  · exact (h.own.lt (by simpa using hb)).2
set_option maxRecDepth 100000 in
set_option maxHeartbeats 4000000 in
theorem keys_any (w : World) (tb : Nat) (T : Tr) (hT : IsTr w.heap.size w T) (ht : Has w tb 49 #[.pointer T.ptr]) (hsz : T.size ≤ 100000) (after : ByteArray) (most : Int) :
    Calls Try.prog 15 #[.pointer (some ⟨tb, 0, none⟩), .string after, .int .i64 most] w fun e w' => ∃ v, e = .returned v ∧ OwnS w.heap.size w' v (keysF T after most) ∧ Below w.heap.size w w' := by
  obtain ⟨n, hn⟩ : ∃ n : Nat, Hid (n = 3) := ⟨3, rfl⟩
  refine (callsIn_wide (n := n)).1 ?_
  have hro : Fence.wide.round = none := rfl
  have hdd : ∀ k : Nat, (Fence.wide.depth.isSome = true → 1 ≤ k) := fun k h => by cases h
  have hmix : Try.prog.follows .mixedOrders = true := by kernel_rfl
  obtain ⟨W1, hW1⟩ : ∃ W1, Hid (W1 = ((w.alloc (.cells #[.string after] 9)).alloc (.cells #[.int .i64 most] 3)).alloc (.cells #[.slice none 0 0] 26)) := ⟨_, rfl⟩
  have a1 : Has W1 w.heap.size 9 #[.string after] := by rw [hW1.out]; exact ((Has.new w _ _).alloc _).alloc _
  have m1 : Has W1 (w.heap.size + 1) 3 #[.int .i64 most] := by
    rw [hW1.out]
    have := Has.new (w.alloc (.cells #[.string after] 9)) 3 #[.int .i64 most]
    rw [World.size_alloc] at this
    exact this.alloc _
  have l1 : Has W1 (w.heap.size + 2) 26 #[.slice none 0 0] := by
    rw [hW1.out]
    have := Has.new ((w.alloc (.cells #[.string after] 9)).alloc (.cells #[.int .i64 most] 3)) 26 #[.slice none 0 0]
    rw [World.size_alloc, World.size_alloc] at this
    exact this
  have b1 : Below w.heap.size w W1 := by rw [hW1.out]; exact (((Below.refl _ w).alloc (Nat.le_refl _) _).alloc (by simp) _).alloc (by simp; omega) _
  have s1 : W1.heap.size = w.heap.size + 3 := by rw [hW1.out]; simp
  have t1 : Has W1 tb 49 #[.pointer T.ptr] := ht.below b1 ht.lt
  have T1 : IsTr w.heap.size W1 T := hT.below b1
  have hc1 : (((w.alloc (.cells #[.string after] 9)).alloc (.cells #[.int .i64 most] 3)).alloc (.cells #[.slice none 0 0] 26)).cell? ⟨w.heap.size + 1, 0, none⟩ = some (.int .i64 most) := by rw [← hW1.out]; exact m1.cell 0
  have hc2 : (((w.alloc (.cells #[.string after] 9)).alloc (.cells #[.int .i64 most] 3)).alloc (.cells #[.slice none 0 0] 26)).cell? ⟨w.heap.size + 1 + 1, 0, none⟩ = some (.slice none 0 0) := by rw [← hW1.out]; exact l1.cell 0
  by_cases hm : most < 1
  · refine callsIn_of_wp_marks Try.func15 rfl trivial ?_ rfl
    simp only [Try.ntmps15, List.size_toArray, List.length_cons, List.length_nil, Nat.reduceAdd, Nat.reduceSub, Array.replicate_succ, Array.replicate_zero, List.push_toArray, List.append_toArray, List.nil_append, List.cons_append]
    gi_wp2
    rw [← hW1.out]
    refine ⟨_, results_tmp rfl _ _ _, _, rfl, ?_, b1⟩
    rw [show keysF T after most = [] by unfold keysF; rw [if_pos hm]]
    exact ownS_nil _ _
  · refine callsIn_of_wp_marks Try.func15 rfl trivial ?_ rfl
    simp only [Try.ntmps15, List.size_toArray, List.length_cons, List.length_nil, Nat.reduceAdd, Nat.reduceSub, Array.replicate_succ, Array.replicate_zero, List.push_toArray, List.append_toArray, List.nil_append, List.cons_append]
    gi_wp2
    rw [← hW1.out]
    clear hc1 hc2
    have ca : W1.cell? ⟨w.heap.size, 0, none⟩ = some (.string after) := a1.cell 0
    have ct : W1.cell? ⟨tb, 0, none⟩ = some (.pointer T.ptr) := t1.cell 0
    apply meet
    · intro hT
      (first | gi_region_with_o ((refine ⟨trivial, hdd _, ?_⟩); gi_at_call 26; refine (callsIn_wide.2 (nodes_any _ _ _)).mono ?_; rintro e w' ⟨rfl, rfl⟩) | fail)
      all_goals gi_wp2
      all_goals exact hT.out
    obtain ⟨V, hV⟩ : ∃ V, Hid (V = ((W1.alloc (.cells #[.pointer T.ptr] 47)).alloc (.cells #[.string after] 9)).drew) := ⟨_, rfl⟩
    rw [← hV.out]
    have t2 : Tur [] W1 V := by
      rw [hV.out]
      exact ((Tur.alloc [] W1 _).trans (Tur.alloc [] _ _) (Fre.refl _ _)).trans (Tur.drew [] _) (Fre.refl _ _)
    have z2 : V.heap.size = w.heap.size + 5 := by rw [hV.out]; simp [s1]
    have nn : Has V (w.heap.size + 3) 47 #[.pointer T.ptr] := by
      rw [hV.out, ← s1]
      exact (Has.new W1 _ _).alloc _
    have kk : Has V (w.heap.size + 4) 9 #[.string after] := by
      rw [hV.out]
      have := Has.new (W1.alloc (.cells #[.pointer T.ptr] 47)) 9 #[.string after]
      rw [World.size_alloc, s1] at this
      exact this
    have TV : IsTr w.heap.size V T := T1.keep fun c hc => t2.block c (by omega) (by simp)
    have bV : Below w.heap.size w V := b1.trans (t2.below (by simp) (by omega))
    have h0 : KI w after most [] [w.heap.size + 2] V (.slice none 0 0) := ⟨rfl, l1.tur t2 (by simp), ownS_nil _ _, (fun g hg => by cases hg), a1.tur t2 (by simp), m1.tur t2 (by simp), bV⟩
    clear hV t2 T1 a1 m1 l1 b1 t1 ca ct
    refine wp_tells (xs := T.from after) rfl rfl (gf := 34) (lb := #[.pointer (some ⟨w.heap.size + 3, 0, none⟩), .pointer (some ⟨w.heap.size + 4, 0, none⟩)]) rfl trivial (enters_of Try.func34 (by kernel_rfl) rfl)
      (nodes1_tells w.heap.size after T V (w.heap.size + 3) (w.heap.size + 4) TV (by omega) nn kk) (Nat.le_refl _) (fun _ _ => rfl) (by intro c hc; omega) (fun _ => rfl)
      (fun p Y U => ((outL after p).length : Int) < most ∧ ∃ v, KI w after most (outL after p) Y U v)
      (fun c p Y U => c = .exit 0 ∧ p <+: T.from after ∧ ((outL after p).length : Int) = most ∧ ∃ v, KI w after most (outL after p) Y U v)
      (fun p Y U U' Z h ht hz => ⟨h.1, h.2.elim fun v hv => ⟨v, hv.stays (by omega) ht hz⟩⟩)
      (fun c p Y U U' Z h ht hz => ⟨h.1, h.2.1, h.2.2.1, h.2.2.2.elim fun v hv => ⟨v, hv.stays (by omega) ht hz⟩⟩)
      (fun p Y U h => h.2.elim fun v hv => hv.lt)
      [w.heap.size + 2] (by intro c hc; simp at hc; omega) ⟨by show ((0 : Nat) : Int) < most; omega, _, h0⟩ ?loop ?done ?stop
    case loop =>
      apply Exists.intro
      constructor
      · intro m' l' x U K hK
        dsimp only [Nd.enc]
        gi_wp2
        exact hK
      · rintro m' l' p x Y U ⟨hlt, v, hk⟩ hpre
        have hx : x ∈ T.from after := hpre.subset (by simp)
        obtain ⟨xlt, xk, -⟩ := from_at after hT x hx
        have cx : U.cell? ⟨x.b, 0, none⟩ = some (.string x.k) := (hk.below.cell (p := ⟨x.b, 0, none⟩) xlt).trans xk
        have ca : U.cell? ⟨w.heap.size, 0, none⟩ = some (.string after) := hk.a.cell 0
        have cm : U.cell? ⟨w.heap.size + 1, 0, none⟩ = some (.int .i64 most) := hk.m.cell 0
        have cl : U.cell? ⟨w.heap.size + 1 + 1, 0, none⟩ = some v := hk.l.cell 0
        cases h1 : (x.k.toList == after.toList) with
        | true =>
          cases h2 : after.toList.isEmpty with
          | true =>
            have hs : skp after x.k = false := by simp [skp, h1, h2]
            have hpl : (outL after p).length ≤ 100000 := by
              have q1 := outL_len after p
              have q2 := hpre.length_le
              have q3 := from_len after T
              rw [List.length_append] at q2
              omega
            obtain ⟨R, U', hrun, hown, htur, hfre⟩ := appS U.drew.drew U.heap.size rfl w.heap.size v (outL after p) x.k (hk.own.keep fun _ _ => rfl) hk.below.size (by omega)
            obtain ⟨A, rn, rc, rfl, hrl, -⟩ := ownS_row hown
            have hrun2 : (Builtin.append_ #[26, 26] 26 #[v, .slice (some ⟨U.heap.size, 0, none⟩) 1 1]).run Try.prog ((U.alloc (.cells #[.string x.k] 9)).drew.drew) = .ok (.slice A rn rc) U' := hrun
            rw [List.length_append, List.length_singleton] at hrl
            have hX := hk.X
            have hf1 : w.heap.size + 2 ∉ v.ownBlock.toList := by
              intro hh
              have := hk.far _ (by simpa using hh)
              omega
            have hf2 : w.heap.size + 1 ∉ v.ownBlock.toList := by
              intro hh
              have := hk.far _ (by simpa using hh)
              omega
            have hf3 : w.heap.size ∉ v.ownBlock.toList := by
              intro hh
              have := hk.far _ (by simpa using hh)
              omega
            have lU : Has U' (w.heap.size + 2) 26 #[v] := (hk.l.drew.drew).tur htur hf1
            have mU : Has U' (w.heap.size + 1) 3 #[.int .i64 most] := (hk.m.drew.drew).tur htur hf2
            have aU : Has U' w.heap.size 9 #[.string after] := (hk.a.drew.drew).tur htur hf3
            have cl1 : (U.alloc (.cells #[.string x.k] 9)).cell? ⟨w.heap.size + 1 + 1, 0, none⟩ = some v := (hk.l.alloc _).cell 0
            have cl2 : U'.cell? ⟨w.heap.size + 1 + 1, 0, none⟩ = some v := lU.cell 0
            have fl2 : U'.frozen? ⟨w.heap.size + 1 + 1, 0, none⟩ = false := lU.free 0
            have lW := lU.put 0 (.slice A rn rc)
            have mW := mU.far (p := ⟨w.heap.size + 2, 0, none⟩) (by simp) (.slice A rn rc)
            have aW := aU.far (p := ⟨w.heap.size + 2, 0, none⟩) (by simp) (.slice A rn rc)
            have cl3 : (U'.setCell ⟨w.heap.size + 1 + 1, 0, none⟩ (.slice A rn rc)).cell? ⟨w.heap.size + 1 + 1, 0, none⟩ = some (.slice A rn rc) := lW.cell 0
            have cm3 : (U'.setCell ⟨w.heap.size + 1 + 1, 0, none⟩ (.slice A rn rc)).cell? ⟨w.heap.size + 1, 0, none⟩ = some (.int .i64 most) := mW.cell 0
            have tW : Tur Y U (U'.setCell ⟨w.heap.size + 2, 0, none⟩ (.slice A rn rc)) :=
              ((((Tur.drew _ U).trans (Tur.drew _ _) (Fre.refl _ _)).trans (htur.sub fun c hc => by rw [hX]; exact List.mem_cons_of_mem _ hc) (Fre.refl _ _)).trans (Tur.setCell U' (p := ⟨w.heap.size + 2, 0, none⟩) (by rw [hX]; simp) _) (Fre.refl _ _))
            have hown2 : OwnS w.heap.size (U'.setCell ⟨w.heap.size + 2, 0, none⟩ (.slice A rn rc)) (.slice A rn rc) (outL after p ++ [x.k]) := hown.keep fun g hg => Below.heap_setCell _ _ _ _ (fun e => by
              rcases hfre g hg with hh | hh
              · have := hk.far g hh; simp at e; omega
              · have := hk.l.lt; simp at e hh; omega)
            have hki : KI w after most (outL after p ++ [x.k]) ((w.heap.size + 2) :: (Value.slice A rn rc).ownBlock.toList) (U'.setCell ⟨w.heap.size + 2, 0, none⟩ (.slice A rn rc)) (.slice A rn rc) :=
              ⟨rfl, lW, hown2, fun g hg => (hfre g hg).elim (hk.far g) (fun hh => by have := hk.l.lt; simp at hh; omega), aW, mW, hk.below.trans (tW.below (fun c hc => by
                rw [hX] at hc
                rcases List.mem_cons.1 hc with rfl | hc
                · omega
                · have := hk.far c (by simpa using hc); omega) hk.below.size)⟩
            have hFre : Fre Y ((w.heap.size + 2) :: (Value.slice A rn rc).ownBlock.toList) U := by
              intro c hc
              rw [hX]
              rcases List.mem_cons.1 hc with rfl | hc
              · exact .inl List.mem_cons_self
              · rcases hfre c (by simpa using hc) with hh | hh
                · exact .inl (List.mem_cons_of_mem _ (by simpa using hh))
                · exact .inr hh
            clear hX hf1 hf2 hf3 lU mU aU lW mW aW hown hown2 htur hfre
            have HKI := Lib.hid hki
            have HTW := Lib.hid tW
            have HFR := Lib.hid hFre
            clear hki tW hFre
            gi_wp2
            apply meet
            · intro hT
              gi_region_o
              all_goals exact hT.out
            gi_wp2
            refine wpIn_region_any (by assumption) ?_
            try (change wpAnyIn _ _ _ _ _ _ _ _ _ (World.drew _))
            apply meet
            · intro hT
              refine wpAnyIn_ready (rs := [0, 1]) (by kernel_rfl) (by simp) ?_
              refine AllReadyIn.cons rfl (fun K hK => ?_) ?_
              · go_simp
                refine hK _ _ ?_
                clear hK K
                refine wpAnyIn_ready (rs := [1]) (by kernel_rfl) (by simp) ?_
                refine AllReadyIn.cons rfl (fun K hK => ?_) ?_
                · go_simp
                  refine hK _ _ ?_
                  clear hK K
                  refine wpAnyIn_ready (rs := [2]) (by kernel_rfl) (by simp) ?_
                  refine AllReadyIn.cons rfl (fun K hK => ?_) ?_
                  · go_simp
                    refine hK _ _ ?_
                    clear hK K
                    refine wpAnyIn_ready (rs := [3]) (by kernel_rfl) (by simp) ?_
                    refine AllReadyIn.cons rfl (fun K hK => ?_) ?_
                    · go_simp
                      refine hK _ _ ?_
                      clear hK K
                      refine wpAnyIn_ready (rs := [4]) (by kernel_rfl) (by simp) ?_
                      refine AllReadyIn.cons rfl (fun K hK => ?_) ?_
                      · go_simp
                        refine hK _ _ ?_
                        clear hK K
                        refine wpAnyIn_ready (rs := [5]) (by kernel_rfl) (by simp) ?_
                        refine AllReadyIn.cons rfl (fun K hK => ?_) ?_
                        · go_simp
                          refine hK _ _ ?_
                          clear hK K
                          exact hT.out
                        exact AllReadyIn.nil
                      exact AllReadyIn.nil
                    exact AllReadyIn.nil
                  exact AllReadyIn.nil
                exact AllReadyIn.nil
              refine AllReadyIn.cons rfl (fun K hK => ?_) ?_
              · go_simp
                refine hK _ _ ?_
                clear hK K
                refine wpAnyIn_ready (rs := [0, 2]) (by kernel_rfl) (by simp) ?_
                refine AllReadyIn.cons rfl (fun K hK => ?_) ?_
                · go_simp
                  refine hK _ _ ?_
                  clear hK K
                  refine wpAnyIn_ready (rs := [2]) (by kernel_rfl) (by simp) ?_
                  refine AllReadyIn.cons rfl (fun K hK => ?_) ?_
                  · go_simp
                    refine hK _ _ ?_
                    clear hK K
                    refine wpAnyIn_ready (rs := [3]) (by kernel_rfl) (by simp) ?_
                    refine AllReadyIn.cons rfl (fun K hK => ?_) ?_
                    · go_simp
                      refine hK _ _ ?_
                      clear hK K
                      refine wpAnyIn_ready (rs := [4]) (by kernel_rfl) (by simp) ?_
                      refine AllReadyIn.cons rfl (fun K hK => ?_) ?_
                      · go_simp
                        refine hK _ _ ?_
                        clear hK K
                        refine wpAnyIn_ready (rs := [5]) (by kernel_rfl) (by simp) ?_
                        refine AllReadyIn.cons rfl (fun K hK => ?_) ?_
                        · go_simp
                          refine hK _ _ ?_
                          clear hK K
                          exact hT.out
                        exact AllReadyIn.nil
                      exact AllReadyIn.nil
                    exact AllReadyIn.nil
                  exact AllReadyIn.nil
                refine AllReadyIn.cons rfl (fun K hK => ?_) ?_
                · go_simp
                  refine hK _ _ ?_
                  clear hK K
                  refine wpAnyIn_ready (rs := [0, 3]) (by kernel_rfl) (by simp) ?_
                  refine AllReadyIn.cons rfl (fun K hK => ?_) ?_
                  · go_simp
                    refine hK _ _ ?_
                    clear hK K
                    refine wpAnyIn_ready (rs := [3]) (by kernel_rfl) (by simp) ?_
                    refine AllReadyIn.cons rfl (fun K hK => ?_) ?_
                    · go_simp
                      refine hK _ _ ?_
                      clear hK K
                      refine wpAnyIn_ready (rs := [4]) (by kernel_rfl) (by simp) ?_
                      refine AllReadyIn.cons rfl (fun K hK => ?_) ?_
                      · go_simp
                        refine hK _ _ ?_
                        clear hK K
                        refine wpAnyIn_ready (rs := [5]) (by kernel_rfl) (by simp) ?_
                        refine AllReadyIn.cons rfl (fun K hK => ?_) ?_
                        · go_simp
                          refine hK _ _ ?_
                          clear hK K
                          exact hT.out
                        exact AllReadyIn.nil
                      exact AllReadyIn.nil
                    exact AllReadyIn.nil
                  refine AllReadyIn.cons rfl (fun K hK => ?_) ?_
                  · go_simp
                    refine hK _ _ ?_
                    clear hK K
                    refine wpAnyIn_ready (rs := [0, 4]) (by kernel_rfl) (by simp) ?_
                    refine AllReadyIn.cons rfl (fun K hK => ?_) ?_
                    · go_simp
                      refine hK _ _ ?_
                      clear hK K
                      refine wpAnyIn_ready (rs := [4]) (by kernel_rfl) (by simp) ?_
                      refine AllReadyIn.cons rfl (fun K hK => ?_) ?_
                      · go_simp
                        refine hK _ _ ?_
                        clear hK K
                        refine wpAnyIn_ready (rs := [5]) (by kernel_rfl) (by simp) ?_
                        refine AllReadyIn.cons rfl (fun K hK => ?_) ?_
                        · go_simp
                          refine hK _ _ ?_
                          clear hK K
                          exact hT.out
                        exact AllReadyIn.nil
                      exact AllReadyIn.nil
                    refine AllReadyIn.cons rfl (fun K hK => ?_) ?_
                    · go_simp
                      refine hK _ _ ?_
                      clear hK K
                      refine wpAnyIn_ready (rs := [0, 5]) (by kernel_rfl) (by simp) ?_
                      refine AllReadyIn.cons rfl (fun K hK => ?_) ?_
                      · go_simp
                        refine hK _ _ ?_
                        clear hK K
                        refine wpAnyIn_ready (rs := [5]) (by kernel_rfl) (by simp) ?_
                        refine AllReadyIn.cons rfl (fun K hK => ?_) ?_
                        · go_simp
                          refine hK _ _ ?_
                          clear hK K
                          exact hT.out
                        exact AllReadyIn.nil
                      refine AllReadyIn.cons rfl (fun K hK => ?_) ?_
                      · go_simp
                        refine hK _ _ ?_
                        clear hK K
                        refine wpAnyIn_ready (rs := [0]) (by kernel_rfl) (by simp) ?_
                        refine AllReadyIn.cons rfl (fun K hK => ?_) ?_
                        · go_simp
                          refine hK _ _ ?_
                          clear hK K
                          exact hT.out
                        exact AllReadyIn.nil
                      exact AllReadyIn.nil
                    exact AllReadyIn.nil
                  exact AllReadyIn.nil
                exact AllReadyIn.nil
              exact AllReadyIn.nil
            refine wpAnyIn_ready (rs := [6]) (by kernel_rfl) (by simp) ?_
            refine AllReadyIn.cons rfl (fun K hK => ?_) AllReadyIn.nil
            rw [if_pos (by rfl)]
            refine wpOp_app _ _ _ _ rfl _ _ _ (by rfl) (by rfl) hrun2 ?_
            refine hK _ _ ?_
            clear hK K
            go_simp
            refine wpAnyIn_ready (rs := [7]) (by kernel_rfl) (by simp) ?_
            refine AllReadyIn.cons rfl (fun K hK => ?_) AllReadyIn.nil
            go_simp
            refine hK _ _ ?_
            clear hK K
            refine wpAnyIn_done (by kernel_rfl) ?_ _
            gi_wp2
            · rename_i he
              have he' : (rn : Int) = most := by simpa using he
              exact ⟨_, ⟨rfl, hpre, by rw [outL_yes hs, List.length_append, List.length_singleton, hrl]; exact he', _, by rw [outL_yes hs]; exact HKI.out⟩, HTW.out, HFR.out⟩
            · rename_i he
              have he' : ¬ (rn : Int) = most := by simpa using he
              exact ⟨_, ⟨by rw [outL_yes hs, List.length_append, List.length_singleton]; omega, _, by rw [outL_yes hs]; exact HKI.out⟩, HTW.out, HFR.out⟩
          | false =>
            gi_wp2
            apply meet
            · intro hT
              gi_region_o
              all_goals gi_wp2
              all_goals exact hT.out
            have hs : skp after x.k = true := by simp [skp, h1, h2]
            exact ⟨Y, ⟨by rw [outL_no hs]; exact hlt, v, by rw [outL_no hs]; exact hk.stays (Z := []) (Nat.le_refl _) (Tur.drew _ _) (by simp)⟩, Tur.drew _ _, Fre.refl _ _⟩
        | false =>
          have hs : skp after x.k = false := by simp [skp, h1]
          have hpl : (outL after p).length ≤ 100000 := by
            have q1 := outL_len after p
            have q2 := hpre.length_le
            have q3 := from_len after T
            rw [List.length_append] at q2
            omega
          obtain ⟨R, U', hrun, hown, htur, hfre⟩ := appS U.drew.drew U.heap.size rfl w.heap.size v (outL after p) x.k (hk.own.keep fun _ _ => rfl) hk.below.size (by omega)
          obtain ⟨A, rn, rc, rfl, hrl, -⟩ := ownS_row hown
          have hrun2 : (Builtin.append_ #[26, 26] 26 #[v, .slice (some ⟨U.heap.size, 0, none⟩) 1 1]).run Try.prog ((U.alloc (.cells #[.string x.k] 9)).drew.drew) = .ok (.slice A rn rc) U' := hrun
          rw [List.length_append, List.length_singleton] at hrl
          have hX := hk.X
          have hf1 : w.heap.size + 2 ∉ v.ownBlock.toList := by
            intro hh
            have := hk.far _ (by simpa using hh)
            omega
          have hf2 : w.heap.size + 1 ∉ v.ownBlock.toList := by
            intro hh
            have := hk.far _ (by simpa using hh)
            omega
          have hf3 : w.heap.size ∉ v.ownBlock.toList := by
            intro hh
            have := hk.far _ (by simpa using hh)
            omega
          have lU : Has U' (w.heap.size + 2) 26 #[v] := (hk.l.drew.drew).tur htur hf1
          have mU : Has U' (w.heap.size + 1) 3 #[.int .i64 most] := (hk.m.drew.drew).tur htur hf2
          have aU : Has U' w.heap.size 9 #[.string after] := (hk.a.drew.drew).tur htur hf3
          have cl1 : (U.alloc (.cells #[.string x.k] 9)).cell? ⟨w.heap.size + 1 + 1, 0, none⟩ = some v := (hk.l.alloc _).cell 0
          have cl2 : U'.cell? ⟨w.heap.size + 1 + 1, 0, none⟩ = some v := lU.cell 0
          have fl2 : U'.frozen? ⟨w.heap.size + 1 + 1, 0, none⟩ = false := lU.free 0
          have lW := lU.put 0 (.slice A rn rc)
          have mW := mU.far (p := ⟨w.heap.size + 2, 0, none⟩) (by simp) (.slice A rn rc)
          have aW := aU.far (p := ⟨w.heap.size + 2, 0, none⟩) (by simp) (.slice A rn rc)
          have cl3 : (U'.setCell ⟨w.heap.size + 1 + 1, 0, none⟩ (.slice A rn rc)).cell? ⟨w.heap.size + 1 + 1, 0, none⟩ = some (.slice A rn rc) := lW.cell 0
          have cm3 : (U'.setCell ⟨w.heap.size + 1 + 1, 0, none⟩ (.slice A rn rc)).cell? ⟨w.heap.size + 1, 0, none⟩ = some (.int .i64 most) := mW.cell 0
          have tW : Tur Y U (U'.setCell ⟨w.heap.size + 2, 0, none⟩ (.slice A rn rc)) :=
            ((((Tur.drew _ U).trans (Tur.drew _ _) (Fre.refl _ _)).trans (htur.sub fun c hc => by rw [hX]; exact List.mem_cons_of_mem _ hc) (Fre.refl _ _)).trans (Tur.setCell U' (p := ⟨w.heap.size + 2, 0, none⟩) (by rw [hX]; simp) _) (Fre.refl _ _))
          have hown2 : OwnS w.heap.size (U'.setCell ⟨w.heap.size + 2, 0, none⟩ (.slice A rn rc)) (.slice A rn rc) (outL after p ++ [x.k]) := hown.keep fun g hg => Below.heap_setCell _ _ _ _ (fun e => by
            rcases hfre g hg with hh | hh
            · have := hk.far g hh; simp at e; omega
            · have := hk.l.lt; simp at e hh; omega)
          have hki : KI w after most (outL after p ++ [x.k]) ((w.heap.size + 2) :: (Value.slice A rn rc).ownBlock.toList) (U'.setCell ⟨w.heap.size + 2, 0, none⟩ (.slice A rn rc)) (.slice A rn rc) :=
            ⟨rfl, lW, hown2, fun g hg => (hfre g hg).elim (hk.far g) (fun hh => by have := hk.l.lt; simp at hh; omega), aW, mW, hk.below.trans (tW.below (fun c hc => by
              rw [hX] at hc
              rcases List.mem_cons.1 hc with rfl | hc
              · omega
              · have := hk.far c (by simpa using hc); omega) hk.below.size)⟩
          have hFre : Fre Y ((w.heap.size + 2) :: (Value.slice A rn rc).ownBlock.toList) U := by
            intro c hc
            rw [hX]
            rcases List.mem_cons.1 hc with rfl | hc
            · exact .inl List.mem_cons_self
            · rcases hfre c (by simpa using hc) with hh | hh
              · exact .inl (List.mem_cons_of_mem _ (by simpa using hh))
              · exact .inr hh
          clear hX hf1 hf2 hf3 lU mU aU lW mW aW hown hown2 htur hfre
          have HKI := Lib.hid hki
          have HTW := Lib.hid tW
          have HFR := Lib.hid hFre
          clear hki tW hFre
          gi_wp2
          apply meet
          · intro hT
            gi_region_o
            all_goals exact hT.out
          gi_wp2
          refine wpIn_region_any (by assumption) ?_
          try (change wpAnyIn _ _ _ _ _ _ _ _ _ (World.drew _))
          apply meet
          · intro hT
            refine wpAnyIn_ready (rs := [0, 1]) (by kernel_rfl) (by simp) ?_
            refine AllReadyIn.cons rfl (fun K hK => ?_) ?_
            · go_simp
              refine hK _ _ ?_
              clear hK K
              refine wpAnyIn_ready (rs := [1]) (by kernel_rfl) (by simp) ?_
              refine AllReadyIn.cons rfl (fun K hK => ?_) ?_
              · go_simp
                refine hK _ _ ?_
                clear hK K
                refine wpAnyIn_ready (rs := [2]) (by kernel_rfl) (by simp) ?_
                refine AllReadyIn.cons rfl (fun K hK => ?_) ?_
                · go_simp
                  refine hK _ _ ?_
                  clear hK K
                  refine wpAnyIn_ready (rs := [3]) (by kernel_rfl) (by simp) ?_
                  refine AllReadyIn.cons rfl (fun K hK => ?_) ?_
                  · go_simp
                    refine hK _ _ ?_
                    clear hK K
                    refine wpAnyIn_ready (rs := [4]) (by kernel_rfl) (by simp) ?_
                    refine AllReadyIn.cons rfl (fun K hK => ?_) ?_
                    · go_simp
                      refine hK _ _ ?_
                      clear hK K
                      refine wpAnyIn_ready (rs := [5]) (by kernel_rfl) (by simp) ?_
                      refine AllReadyIn.cons rfl (fun K hK => ?_) ?_
                      · go_simp
                        refine hK _ _ ?_
                        clear hK K
                        exact hT.out
                      exact AllReadyIn.nil
                    exact AllReadyIn.nil
                  exact AllReadyIn.nil
                exact AllReadyIn.nil
              exact AllReadyIn.nil
            refine AllReadyIn.cons rfl (fun K hK => ?_) ?_
            · go_simp
              refine hK _ _ ?_
              clear hK K
              refine wpAnyIn_ready (rs := [0, 2]) (by kernel_rfl) (by simp) ?_
              refine AllReadyIn.cons rfl (fun K hK => ?_) ?_
              · go_simp
                refine hK _ _ ?_
                clear hK K
                refine wpAnyIn_ready (rs := [2]) (by kernel_rfl) (by simp) ?_
                refine AllReadyIn.cons rfl (fun K hK => ?_) ?_
                · go_simp
                  refine hK _ _ ?_
                  clear hK K
                  refine wpAnyIn_ready (rs := [3]) (by kernel_rfl) (by simp) ?_
                  refine AllReadyIn.cons rfl (fun K hK => ?_) ?_
                  · go_simp
                    refine hK _ _ ?_
                    clear hK K
                    refine wpAnyIn_ready (rs := [4]) (by kernel_rfl) (by simp) ?_
                    refine AllReadyIn.cons rfl (fun K hK => ?_) ?_
                    · go_simp
                      refine hK _ _ ?_
                      clear hK K
                      refine wpAnyIn_ready (rs := [5]) (by kernel_rfl) (by simp) ?_
                      refine AllReadyIn.cons rfl (fun K hK => ?_) ?_
                      · go_simp
                        refine hK _ _ ?_
                        clear hK K
                        exact hT.out
                      exact AllReadyIn.nil
                    exact AllReadyIn.nil
                  exact AllReadyIn.nil
                exact AllReadyIn.nil
              refine AllReadyIn.cons rfl (fun K hK => ?_) ?_
              · go_simp
                refine hK _ _ ?_
                clear hK K
                refine wpAnyIn_ready (rs := [0, 3]) (by kernel_rfl) (by simp) ?_
                refine AllReadyIn.cons rfl (fun K hK => ?_) ?_
                · go_simp
                  refine hK _ _ ?_
                  clear hK K
                  refine wpAnyIn_ready (rs := [3]) (by kernel_rfl) (by simp) ?_
                  refine AllReadyIn.cons rfl (fun K hK => ?_) ?_
                  · go_simp
                    refine hK _ _ ?_
                    clear hK K
                    refine wpAnyIn_ready (rs := [4]) (by kernel_rfl) (by simp) ?_
                    refine AllReadyIn.cons rfl (fun K hK => ?_) ?_
                    · go_simp
                      refine hK _ _ ?_
                      clear hK K
                      refine wpAnyIn_ready (rs := [5]) (by kernel_rfl) (by simp) ?_
                      refine AllReadyIn.cons rfl (fun K hK => ?_) ?_
                      · go_simp
                        refine hK _ _ ?_
                        clear hK K
                        exact hT.out
                      exact AllReadyIn.nil
                    exact AllReadyIn.nil
                  exact AllReadyIn.nil
                refine AllReadyIn.cons rfl (fun K hK => ?_) ?_
                · go_simp
                  refine hK _ _ ?_
                  clear hK K
                  refine wpAnyIn_ready (rs := [0, 4]) (by kernel_rfl) (by simp) ?_
                  refine AllReadyIn.cons rfl (fun K hK => ?_) ?_
                  · go_simp
                    refine hK _ _ ?_
                    clear hK K
                    refine wpAnyIn_ready (rs := [4]) (by kernel_rfl) (by simp) ?_
                    refine AllReadyIn.cons rfl (fun K hK => ?_) ?_
                    · go_simp
                      refine hK _ _ ?_
                      clear hK K
                      refine wpAnyIn_ready (rs := [5]) (by kernel_rfl) (by simp) ?_
                      refine AllReadyIn.cons rfl (fun K hK => ?_) ?_
                      · go_simp
                        refine hK _ _ ?_
                        clear hK K
                        exact hT.out
                      exact AllReadyIn.nil
                    exact AllReadyIn.nil
                  refine AllReadyIn.cons rfl (fun K hK => ?_) ?_
                  · go_simp
                    refine hK _ _ ?_
                    clear hK K
                    refine wpAnyIn_ready (rs := [0, 5]) (by kernel_rfl) (by simp) ?_
                    refine AllReadyIn.cons rfl (fun K hK => ?_) ?_
                    · go_simp
                      refine hK _ _ ?_
                      clear hK K
                      refine wpAnyIn_ready (rs := [5]) (by kernel_rfl) (by simp) ?_
                      refine AllReadyIn.cons rfl (fun K hK => ?_) ?_
                      · go_simp
                        refine hK _ _ ?_
                        clear hK K
                        exact hT.out
                      exact AllReadyIn.nil
                    refine AllReadyIn.cons rfl (fun K hK => ?_) ?_
                    · go_simp
                      refine hK _ _ ?_
                      clear hK K
                      refine wpAnyIn_ready (rs := [0]) (by kernel_rfl) (by simp) ?_
                      refine AllReadyIn.cons rfl (fun K hK => ?_) ?_
                      · go_simp
                        refine hK _ _ ?_
                        clear hK K
                        exact hT.out
                      exact AllReadyIn.nil
                    exact AllReadyIn.nil
                  exact AllReadyIn.nil
                exact AllReadyIn.nil
              exact AllReadyIn.nil
            exact AllReadyIn.nil
          refine wpAnyIn_ready (rs := [6]) (by kernel_rfl) (by simp) ?_
          refine AllReadyIn.cons rfl (fun K hK => ?_) AllReadyIn.nil
          rw [if_pos (by rfl)]
          refine wpOp_app _ _ _ _ rfl _ _ _ (by rfl) (by rfl) hrun2 ?_
          refine hK _ _ ?_
          clear hK K
          go_simp
          refine wpAnyIn_ready (rs := [7]) (by kernel_rfl) (by simp) ?_
          refine AllReadyIn.cons rfl (fun K hK => ?_) AllReadyIn.nil
          go_simp
          refine hK _ _ ?_
          clear hK K
          refine wpAnyIn_done (by kernel_rfl) ?_ _
          gi_wp2
          · rename_i he
            have he' : (rn : Int) = most := by simpa using he
            exact ⟨_, ⟨rfl, hpre, by rw [outL_yes hs, List.length_append, List.length_singleton, hrl]; exact he', _, by rw [outL_yes hs]; exact HKI.out⟩, HTW.out, HFR.out⟩
          · rename_i he
            have he' : ¬ (rn : Int) = most := by simpa using he
            exact ⟨_, ⟨by rw [outL_yes hs, List.length_append, List.length_singleton]; omega, _, by rw [outL_yes hs]; exact HKI.out⟩, HTW.out, HFR.out⟩
    case done =>
      rintro D Y U hD ⟨hlt, v, hk⟩ hDY hDd
      have cl : U.cell? ⟨w.heap.size + 1 + 1, 0, none⟩ = some v := hk.l.cell 0
      have hX := hk.X
      have hpo : Tur [D] U (U.putObj D (.deferred none)) := Tur.putObj U (by simp) _
      have hown := hk.own.keep (w' := U.putObj D (.deferred none)) fun g hg => hpo.block g (hk.own.lt hg).2 fun hh => by
        rw [List.mem_singleton.1 hh] at hg
        exact hDY (by rw [hX, hg]; simp)
      have hbel : Below w.heap.size w (U.putObj D (.deferred none)) := hk.below.trans (hpo.below (fun c hc => by rw [List.mem_singleton.1 hc]; omega) hk.below.size)
      have hkf : keysF T after most = outL after (T.from after) := by
        unfold keysF
        rw [if_neg (by omega), List.take_of_length_le (by omega)]
      gi_wp2
      refine ⟨by simp, .inl ⟨_, _, rfl, run_takeDeferred hDd, ?_⟩⟩
      exact ⟨_, results_tmp rfl _ _ _, v, rfl, by rw [hkf]; exact hown, hbel⟩
    case stop =>
      rintro D c p Y U hD ⟨rfl, hpre, hlen, v, hk⟩ hDY hDd
      have cl : U.cell? ⟨w.heap.size + 1 + 1, 0, none⟩ = some v := hk.l.cell 0
      have hX := hk.X
      have hpo : Tur [D] U (U.putObj D (.deferred none)) := Tur.putObj U (by simp) _
      have hown := hk.own.keep (w' := U.putObj D (.deferred none)) fun g hg => hpo.block g (hk.own.lt hg).2 fun hh => by
        rw [List.mem_singleton.1 hh] at hg
        exact hDY (by rw [hX, hg]; simp)
      have hbel : Below w.heap.size w (U.putObj D (.deferred none)) := hk.below.trans (hpo.below (fun c hc => by rw [List.mem_singleton.1 hc]; omega) hk.below.size)
      have hkf : keysF T after most = outL after p := by
        unfold keysF
        rw [if_neg (by omega), show most.toNat = (outL after p).length by omega, outL_take hpre]
      gi_wp2
      refine ⟨by simp, .inl ⟨_, _, rfl, run_takeDeferred hDd, ?_⟩⟩
      exact ⟨_, results_tmp rfl _ _ _, v, rfl, by rw [hkf]; exact hown, hbel⟩
end Go.Proofs.Ytmapclocbhkpbaa
