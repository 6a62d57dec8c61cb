/-
  The document's tree: what Put of a new key, and Cut, make of its rows.
-/
import Derived.Test.YtmapclocbhkpbaaRTb
namespace Go.Proofs.Ytmapclocbhkpbaa
open Go.RowKit Go.Maps Dg
set_option linter.unusedVariables false
set_option maxHeartbeats 2000000 in
theorem put_chain {B rb : Nat} {X : List Nat} {w : World} {C : List (ByteArray × Int)} (h : RfAt B rb X w C) (hz : C.length ≤ 90000) (key : ByteArray) (v : Int) (p : Nat) {A A2 : Option Addr} {n c c2 : Nat}
    (h1 : Has w rb 29 #[.slice A n c, .slice A2 n c2]) (hn : C.length = n) (hp : p ≤ n) (hr : RdS w A (C.map (fun x : ByteArray × Int => x.1))) (hr2 : RdI w A2 (C.map (fun x : ByteArray × Int => x.2))) (hz1 : A = none → c = 0) (hz2 : A2 = none → c2 = 0) (hnc : n ≤ c) (hnc2 : n ≤ c2) (hg2 : ∀ a, A2 = some a → a.block ≠ rb)
    {A5 A6 : Option Addr} {n5 c5 n6 c6 : Nat} (l5 : ((C.map (fun x : ByteArray × Int => x.1)).drop p).length = n5) (h5 : RdS w A5 ((C.map (fun x : ByteArray × Int => x.1)).drop p)) (z5 : A5 = none → n5 = 0 ∧ c5 = 0) (l6 : ((C.map (fun x : ByteArray × Int => x.2)).drop p).length = n6) (h6 : RdI w A6 ((C.map (fun x : ByteArray × Int => x.2)).drop p)) (z6 : A6 = none → n6 = 0 ∧ c6 = 0) (g6 : ∀ a, A6 = some a → a.block ≠ rb) (hX : rb ∈ X)
    (hC : putL key v C = C.take p ++ (key, v) :: C.drop p) (hR : Rises (putL key v C)) :
    ∃ (a1 : Option Addr) (m1 d1 : Nat) (w1 : World), ∃ (a2 : Option Addr) (m2 d2 : Nat) (w2 : World), ∃ (a3 : Option Addr) (m3 d3 : Nat) (w3 : World), ∃ (a4 : Option Addr) (m4 d4 : Nat) (w4 : World), ∃ (a5 : Option Addr) (m5 d5 : Nat) (w5 : World), ∃ (a6 : Option Addr) (m6 d6 : Nat) (w6 : World), (Builtin.append_ #[26, 26] 26 #[.slice none 0 0, .slice A p c]).run Try.prog w.drew = .ok (.slice a1 m1 d1) w1 ∧
      (Builtin.append_ #[26, 26] 26 #[(.slice a1 m1 d1), (.slice (some ⟨w1.heap.size, 0, none⟩) 1 1)]).run Try.prog (w1.alloc (.cells #[Value.string key] 9)) = .ok (.slice a2 m2 d2) w2 ∧
      (Builtin.append_ #[27, 27] 27 #[.slice none 0 0, .slice A2 p c2]).run Try.prog w2 = .ok (.slice a3 m3 d3) w3 ∧
      (Builtin.append_ #[27, 27] 27 #[(.slice a3 m3 d3), (.slice (some ⟨w3.heap.size, 0, none⟩) 1 1)]).run Try.prog (w3.alloc (.cells #[Value.int .i64 v] 3)) = .ok (.slice a4 m4 d4) w4 ∧
      (Builtin.append_ #[26, 26] 26 #[(.slice a2 m2 d2), .slice A5 n5 c5]).run Try.prog w4 = .ok (.slice a5 m5 d5) w5 ∧
      (Builtin.append_ #[27, 27] 27 #[(.slice a4 m4 d4), .slice A6 n6 c6]).run Try.prog (w5.setCell ⟨rb, 0, none⟩ (.slice a5 m5 d5)) = .ok (.slice a6 m6 d6) w6 ∧
      w2.cell? ⟨rb, 1, none⟩ = some (.slice A2 n c2) ∧
      w4.cell? ⟨rb, 0, none⟩ = some (.slice A n c) ∧
      w5.cell? ⟨rb, 0, none⟩ = some (.slice A n c) ∧
      w5.frozen? ⟨rb, 0, none⟩ = false ∧
      (w5.setCell ⟨rb, 0, none⟩ (.slice a5 m5 d5)).cell? ⟨rb, 1, none⟩ = some (.slice A2 n c2) ∧
      w6.cell? ⟨rb, 1, none⟩ = some (.slice A2 n c2) ∧
      w6.frozen? ⟨rb, 1, none⟩ = false ∧
      ∃ X', RfAt B rb X' (w6.setCell ⟨rb, 1, none⟩ (.slice a6 m6 d6)) (putL key v C) ∧ Tur X w (w6.setCell ⟨rb, 1, none⟩ (.slice a6 m6 d6)) ∧ Fre X X' w := by
  have hd : Has w.drew rb 29 #[.slice A n c, .slice A2 n c2] := h1
  have hBd : B ≤ w.drew.heap.size := Nat.le_trans h.le (Nat.le_of_lt h1.lt)
  have hlt : rb < w.drew.heap.size := h1.lt
  have lk : (C.map (fun x : ByteArray × Int => x.1)).length = n := by rw [List.length_map, hn]
  have lv : (C.map (fun x : ByteArray × Int => x.2)).length = n := by rw [List.length_map, hn]
  obtain ⟨wd, hwd⟩ : ∃ wd, wd = w.drew := ⟨_, rfl⟩
  have td : Tur [rb] w wd := by rw [hwd]; exact Tur.drew _ _
  have hsz : wd.heap.size = w.heap.size := by rw [hwd]; rfl
  have hrd : RdS wd A (C.map (fun x : ByteArray × Int => x.1)) := by rw [hwd]; exact hr
  have hrd2 : RdI wd A2 (C.map (fun x : ByteArray × Int => x.2)) := by rw [hwd]; exact hr2
  have h5d : RdS wd A5 ((C.map (fun x : ByteArray × Int => x.1)).drop p) := by rw [hwd]; exact h5
  have h6d : RdI wd A6 ((C.map (fun x : ByteArray × Int => x.2)).drop p) := by rw [hwd]; exact h6
  rw [← hwd] at hd hBd hlt ⊢
  obtain ⟨R1, w1, r1, o1, t1, f1⟩ := appSS wd B (.slice none 0 0) [] A p c ((C.map (fun x : ByteArray × Int => x.1)).take p) (ownS_nil _ _) hBd (by rw [List.length_take, lk]; omega) (hrd.take p) (fun e => ⟨by have := hz1 e; omega, hz1 e⟩) (by simp; omega)
  rw [List.nil_append] at o1
  have b1 : Below wd.heap.size wd w1 := t1.below (fun b hb => by simp [Value.ownBlock] at hb) (Nat.le_refl _)
  have F1 : ∀ k, R1.ownBlock = some k → wd.heap.size ≤ k := fun k hk => (f1 k hk).elim (fun e => by cases e) id
  obtain ⟨a1, m1, d1, rfl, -⟩ := ownS_row o1
  have al1 : Below w1.heap.size w1 (w1.alloc (.cells #[Value.string key] 9)) := (Below.refl _ w1).alloc (Nat.le_refl _) _
  have s1 : (w1.alloc (.cells #[Value.string key] 9)).heap.size = w1.heap.size + 1 := by simp
  obtain ⟨R2, w2, r2, o2, t2, f2⟩ := appSS (w1.alloc (.cells #[Value.string key] 9)) B _ _ (some ⟨w1.heap.size, 0, none⟩) 1 1 [key] (o1.below al1) (by have := b1.size; omega) rfl (RdS.new w1 key) (fun e => by cases e) (by rw [List.length_take, lk]; omega)
  have b2 : Below wd.heap.size wd w2 := (b1.trans (al1.mono b1.size)).trans (t2.below (fun b hb => F1 b (by simpa using hb)) (by have := b1.size; omega))
  have F2 : ∀ k, R2.ownBlock = some k → wd.heap.size ≤ k := fun k hk => (f2 k hk).elim (F1 k) (fun e => by have := b1.size; omega)
  obtain ⟨a2, m2, d2, rfl, -⟩ := ownS_row o2
  obtain ⟨R3, w3, r3, o3, t3, f3⟩ := appII w2 B (.slice none 0 0) [] A2 p c2 ((C.map (fun x : ByteArray × Int => x.2)).take p) (ownI_nil _ _) (by have := b2.size; omega) (by rw [List.length_take, lv]; omega) ((hrd2.below b2).take p) (fun e => ⟨by have := hz2 e; omega, hz2 e⟩) (by simp; omega)
  rw [List.nil_append] at o3
  have t3b : Below w2.heap.size w2 w3 := t3.below (fun b hb => by simp [Value.ownBlock] at hb) (Nat.le_refl _)
  have b3 : Below wd.heap.size wd w3 := b2.trans (t3b.mono b2.size)
  have q3 := o2.below t3b
  have F3 : ∀ k, R3.ownBlock = some k → wd.heap.size ≤ k := fun k hk => (f3 k hk).elim (fun e => by cases e) (fun e => by have := b2.size; omega)
  obtain ⟨a3, m3, d3, rfl, -⟩ := ownI_row o3
  have al3 : Below w3.heap.size w3 (w3.alloc (.cells #[Value.int .i64 v] 3)) := (Below.refl _ w3).alloc (Nat.le_refl _) _
  have s3 : (w3.alloc (.cells #[Value.int .i64 v] 3)).heap.size = w3.heap.size + 1 := by simp
  have q3a := q3.below al3
  have o3a := o3.below al3
  obtain ⟨R4, w4, r4, o4, t4, f4⟩ := appII (w3.alloc (.cells #[Value.int .i64 v] 3)) B _ _ (some ⟨w3.heap.size, 0, none⟩) 1 1 [v] o3a (by have := b3.size; omega) rfl (RdI.new w3 v) (fun e => by cases e) (by rw [List.length_take, lv]; omega)
  have q4 := q3a.tur t4 fun g hg hx => by
    obtain ⟨_, x1⟩ := q3a.has hg
    obtain ⟨_, x2⟩ := o3a.has (g := g) (by simpa using hx)
    exact x1.ne x2 (by decide) rfl
  have b4 : Below wd.heap.size wd w4 := (b3.trans (al3.mono b3.size)).trans (t4.below (fun b hb => F3 b (by simpa using hb)) (by have := b3.size; omega))
  have F4 : ∀ k, R4.ownBlock = some k → wd.heap.size ≤ k := fun k hk => (f4 k hk).elim (F3 k) (fun e => by have := b3.size; omega)
  obtain ⟨a4, m4, d4, rfl, -⟩ := ownI_row o4
  obtain ⟨R5, w5, r5, o5, t5, f5⟩ := appSS w4 B _ _ A5 n5 c5 _ q4 (by have := b4.size; omega) l5 (h5d.below b4) z5 (by rw [List.length_append, List.length_take, lk]; rw [List.length_drop, lk] at l5; simp; omega)
  have p5 := o4.tur t5 fun g hg hx => by
    obtain ⟨_, x1⟩ := o4.has hg
    obtain ⟨_, x2⟩ := q4.has (g := g) (by simpa using hx)
    exact x1.ne x2 (by decide) rfl
  have b5 : Below wd.heap.size wd w5 := b4.trans (t5.below (fun b hb => F2 b (by simpa using hb)) b4.size)
  have F5 : ∀ k, R5.ownBlock = some k → wd.heap.size ≤ k := fun k hk => (f5 k hk).elim (F2 k) (fun e => by have := b4.size; omega)
  obtain ⟨a5, m5, d5, rfl, -⟩ := ownS_row o5
  have hs5 : Has w5 rb 29 #[.slice A n c, .slice A2 n c2] := hd.below b5 hlt
  have ts5 : Tur [rb] w5 (w5.setCell ⟨rb, 0, none⟩ (.slice a5 m5 d5)) := Tur.setCell w5 (p := ⟨rb, 0, none⟩) (by simp) _
  have hs5s : Has (w5.setCell ⟨rb, 0, none⟩ (.slice a5 m5 d5)) rb 29 #[.slice a5 m5 d5, .slice A2 n c2] := hs5.put 0 _
  have ne5 : ∀ g, (Value.slice a5 m5 d5).ownBlock = some g → g ∉ [rb] := fun g hg => by
    obtain ⟨_, x1⟩ := o5.has hg
    simpa using x1.ne hs5 (by decide)
  have nep5 : ∀ g, (Value.slice a4 m4 d4).ownBlock = some g → g ∉ [rb] := fun g hg => by
    obtain ⟨_, x1⟩ := p5.has hg
    simpa using x1.ne hs5 (by decide)
  have o5s := o5.tur ts5 ne5
  have p5s := p5.tur ts5 nep5
  have z5s : (w5.setCell ⟨rb, 0, none⟩ (.slice a5 m5 d5)).heap.size = w5.heap.size := size_set _ _ _
  obtain ⟨R6, w6, r6, o6, t6, f6⟩ := appII (w5.setCell ⟨rb, 0, none⟩ (.slice a5 m5 d5)) B _ _ A6 n6 c6 _ p5s (by rw [z5s]; have := b5.size; omega) l6 ((h6d.below b5).tur ts5 fun a ha => by simpa using g6 a ha) z6 (by rw [List.length_append, List.length_take, lv]; rw [List.length_drop, lv] at l6; simp; omega)
  have o56 := o5s.tur t6 fun g hg hx => by
    obtain ⟨_, x1⟩ := o5s.has hg
    obtain ⟨_, x2⟩ := p5s.has (g := g) (by simpa using hx)
    exact x1.ne x2 (by decide) rfl
  have F6 : ∀ k, R6.ownBlock = some k → wd.heap.size ≤ k := fun k hk => (f6 k hk).elim (F4 k) (fun e => by rw [z5s] at e; have := b5.size; omega)
  obtain ⟨a6, m6, d6, rfl, -⟩ := ownI_row o6
  have hs6 : Has w6 rb 29 #[.slice a5 m5 d5, .slice A2 n c2] := hs5s.tur t6 fun hx => by
    obtain ⟨_, x2⟩ := p5s.has (g := rb) (by simpa using hx)
    exact x2.ne hs5s (by decide) rfl
  have ts6 : Tur [rb] w6 (w6.setCell ⟨rb, 1, none⟩ (.slice a6 m6 d6)) := Tur.setCell w6 (p := ⟨rb, 1, none⟩) (by simp) _
  have hs6s : Has (w6.setCell ⟨rb, 1, none⟩ (.slice a6 m6 d6)) rb 29 #[.slice a5 m5 d5, .slice a6 m6 d6] := hs6.put 1 _
  have ne6 : ∀ g, (Value.slice a5 m5 d5).ownBlock = some g → g ∉ [rb] := ne5
  have ne66 : ∀ g, (Value.slice a6 m6 d6).ownBlock = some g → g ∉ [rb] := fun g hg => by
    obtain ⟨_, x1⟩ := o6.has hg
    simpa using x1.ne hs6 (by decide)
  have u5 : Tur [rb] w w5 := td.trans (Tur.of_below (X := []) b5) fun b hb => by cases hb
  have u5s : Tur [rb] w (w5.setCell ⟨rb, 0, none⟩ (.slice a5 m5 d5)) := u5.trans ts5 (Fre.refl _ _)
  have u6 : Tur [rb] w w6 := u5s.trans t6 fun b hb => .inr (by rw [← hsz]; exact F4 b (by simpa using hb))
  have u6s : Tur [rb] w (w6.setCell ⟨rb, 1, none⟩ (.slice a6 m6 d6)) := u6.trans ts6 (Fre.refl _ _)
  refine ⟨a1, m1, d1, w1, a2, m2, d2, w2, a3, m3, d3, w3, a4, m4, d4, w4, a5, m5, d5, w5, a6, m6, d6, w6, r1, r2, r3, r4, r5, r6, (hd.below b2 hlt).cell 1, (hd.below b4 hlt).cell 0, hs5.cell 0, hs5.free 0, hs5s.cell 1, hs6.cell 1, hs6.free 1, _, ⟨h.le, ⟨_, _, hs6s, ?_, ?_, rfl⟩, hR⟩, u6s.sub (by simpa using hX), ?_⟩
  · rw [hC]
    simpa using o56.tur ts6 ne6
  · rw [hC]
    simpa using o6.tur ts6 ne66
  · intro b hb
    rcases List.mem_cons.1 hb with e | hb
    · exact .inl (by rw [e]; exact hX)
    · refine .inr ?_
      rw [← hsz]
      rcases List.mem_append.1 hb with hb | hb
      · exact F5 b (by simpa using hb)
      · exact F6 b (by simpa using hb)
set_option maxHeartbeats 2000000 in
theorem cut_chain {B rb : Nat} {X : List Nat} {w : World} {C : List (ByteArray × Int)} (h : RfAt B rb X w C) (hz : C.length ≤ 90000) (key : ByteArray) (v : Int) (p : Nat) {A A2 : Option Addr} {n c c2 : Nat}
    (h1 : Has w rb 29 #[.slice A n c, .slice A2 n c2]) (hn : C.length = n) (hp : p ≤ n) (hr : RdS w A (C.map (fun x : ByteArray × Int => x.1))) (hr2 : RdI w A2 (C.map (fun x : ByteArray × Int => x.2))) (hz1 : A = none → c = 0) (hz2 : A2 = none → c2 = 0) (hnc : n ≤ c) (hnc2 : n ≤ c2) (hg2 : ∀ a, A2 = some a → a.block ≠ rb)
    {A5 A6 : Option Addr} {n5 c5 n6 c6 : Nat} (l5 : ((C.map (fun x : ByteArray × Int => x.1)).drop (p + 1)).length = n5) (h5 : RdS w A5 ((C.map (fun x : ByteArray × Int => x.1)).drop (p + 1))) (z5 : A5 = none → n5 = 0 ∧ c5 = 0) (l6 : ((C.map (fun x : ByteArray × Int => x.2)).drop (p + 1)).length = n6) (h6 : RdI w A6 ((C.map (fun x : ByteArray × Int => x.2)).drop (p + 1))) (z6 : A6 = none → n6 = 0 ∧ c6 = 0) (g6 : ∀ a, A6 = some a → a.block ≠ rb) (hX : rb ∈ X)
    (hC : cutL key C = C.take p ++ C.drop (p + 1)) (hR : Rises (cutL key C)) :
    ∃ (a1 : Option Addr) (m1 d1 : Nat) (w1 : World), ∃ (a3 : Option Addr) (m3 d3 : Nat) (w3 : World), ∃ (a5 : Option Addr) (m5 d5 : Nat) (w5 : World), ∃ (a6 : Option Addr) (m6 d6 : Nat) (w6 : World), (Builtin.append_ #[26, 26] 26 #[.slice none 0 0, .slice A p c]).run Try.prog w.drew = .ok (.slice a1 m1 d1) w1 ∧
      (Builtin.append_ #[27, 27] 27 #[.slice none 0 0, .slice A2 p c2]).run Try.prog w1 = .ok (.slice a3 m3 d3) w3 ∧
      (Builtin.append_ #[26, 26] 26 #[(.slice a1 m1 d1), .slice A5 n5 c5]).run Try.prog w3 = .ok (.slice a5 m5 d5) w5 ∧
      (Builtin.append_ #[27, 27] 27 #[(.slice a3 m3 d3), .slice A6 n6 c6]).run Try.prog (w5.setCell ⟨rb, 0, none⟩ (.slice a5 m5 d5)) = .ok (.slice a6 m6 d6) w6 ∧
      w1.cell? ⟨rb, 1, none⟩ = some (.slice A2 n c2) ∧
      w3.cell? ⟨rb, 0, none⟩ = some (.slice A n c) ∧
      w5.cell? ⟨rb, 0, none⟩ = some (.slice A n c) ∧
      w5.frozen? ⟨rb, 0, none⟩ = false ∧
      (w5.setCell ⟨rb, 0, none⟩ (.slice a5 m5 d5)).cell? ⟨rb, 1, none⟩ = some (.slice A2 n c2) ∧
      w6.cell? ⟨rb, 1, none⟩ = some (.slice A2 n c2) ∧
      w6.frozen? ⟨rb, 1, none⟩ = false ∧
      ∃ X', RfAt B rb X' (w6.setCell ⟨rb, 1, none⟩ (.slice a6 m6 d6)) (cutL key C) ∧ Tur X w (w6.setCell ⟨rb, 1, none⟩ (.slice a6 m6 d6)) ∧ Fre X X' w := by
  have hd : Has w.drew rb 29 #[.slice A n c, .slice A2 n c2] := h1
  have hBd : B ≤ w.drew.heap.size := Nat.le_trans h.le (Nat.le_of_lt h1.lt)
  have hlt : rb < w.drew.heap.size := h1.lt
  have lk : (C.map (fun x : ByteArray × Int => x.1)).length = n := by rw [List.length_map, hn]
  have lv : (C.map (fun x : ByteArray × Int => x.2)).length = n := by rw [List.length_map, hn]
  obtain ⟨wd, hwd⟩ : ∃ wd, wd = w.drew := ⟨_, rfl⟩
  have td : Tur [rb] w wd := by rw [hwd]; exact Tur.drew _ _
  have hsz : wd.heap.size = w.heap.size := by rw [hwd]; rfl
  have hrd : RdS wd A (C.map (fun x : ByteArray × Int => x.1)) := by rw [hwd]; exact hr
  have hrd2 : RdI wd A2 (C.map (fun x : ByteArray × Int => x.2)) := by rw [hwd]; exact hr2
  have h5d : RdS wd A5 ((C.map (fun x : ByteArray × Int => x.1)).drop (p + 1)) := by rw [hwd]; exact h5
  have h6d : RdI wd A6 ((C.map (fun x : ByteArray × Int => x.2)).drop (p + 1)) := by rw [hwd]; exact h6
  rw [← hwd] at hd hBd hlt ⊢
  obtain ⟨R1, w1, r1, o1, t1, f1⟩ := appSS wd B (.slice none 0 0) [] A p c ((C.map (fun x : ByteArray × Int => x.1)).take p) (ownS_nil _ _) hBd (by rw [List.length_take, lk]; omega) (hrd.take p) (fun e => ⟨by have := hz1 e; omega, hz1 e⟩) (by simp; omega)
  rw [List.nil_append] at o1
  have b1 : Below wd.heap.size wd w1 := t1.below (fun b hb => by simp [Value.ownBlock] at hb) (Nat.le_refl _)
  have F1 : ∀ k, R1.ownBlock = some k → wd.heap.size ≤ k := fun k hk => (f1 k hk).elim (fun e => by cases e) id
  obtain ⟨a1, m1, d1, rfl, -⟩ := ownS_row o1
  obtain ⟨R3, w3, r3, o3, t3, f3⟩ := appII w1 B (.slice none 0 0) [] A2 p c2 ((C.map (fun x : ByteArray × Int => x.2)).take p) (ownI_nil _ _) (by have := b1.size; omega) (by rw [List.length_take, lv]; omega) ((hrd2.below b1).take p) (fun e => ⟨by have := hz2 e; omega, hz2 e⟩) (by simp; omega)
  rw [List.nil_append] at o3
  have t3b : Below w1.heap.size w1 w3 := t3.below (fun b hb => by simp [Value.ownBlock] at hb) (Nat.le_refl _)
  have b3 : Below wd.heap.size wd w3 := b1.trans (t3b.mono b1.size)
  have q3 := o1.below t3b
  have F3 : ∀ k, R3.ownBlock = some k → wd.heap.size ≤ k := fun k hk => (f3 k hk).elim (fun e => by cases e) (fun e => by have := b1.size; omega)
  obtain ⟨a3, m3, d3, rfl, -⟩ := ownI_row o3
  obtain ⟨R5, w5, r5, o5, t5, f5⟩ := appSS w3 B _ _ A5 n5 c5 _ q3 (by have := b3.size; omega) l5 (h5d.below b3) z5 (by rw [List.length_take, lk]; rw [List.length_drop, lk] at l5; omega)
  have p5 := o3.tur t5 fun g hg hx => by
    obtain ⟨_, x1⟩ := o3.has hg
    obtain ⟨_, x2⟩ := q3.has (g := g) (by simpa using hx)
    exact x1.ne x2 (by decide) rfl
  have b5 : Below wd.heap.size wd w5 := b3.trans (t5.below (fun b hb => F1 b (by simpa using hb)) b3.size)
  have F5 : ∀ k, R5.ownBlock = some k → wd.heap.size ≤ k := fun k hk => (f5 k hk).elim (F1 k) (fun e => by have := b3.size; omega)
  obtain ⟨a5, m5, d5, rfl, -⟩ := ownS_row o5
  have hs5 : Has w5 rb 29 #[.slice A n c, .slice A2 n c2] := hd.below b5 hlt
  have ts5 : Tur [rb] w5 (w5.setCell ⟨rb, 0, none⟩ (.slice a5 m5 d5)) := Tur.setCell w5 (p := ⟨rb, 0, none⟩) (by simp) _
  have hs5s : Has (w5.setCell ⟨rb, 0, none⟩ (.slice a5 m5 d5)) rb 29 #[.slice a5 m5 d5, .slice A2 n c2] := hs5.put 0 _
  have ne5 : ∀ g, (Value.slice a5 m5 d5).ownBlock = some g → g ∉ [rb] := fun g hg => by
    obtain ⟨_, x1⟩ := o5.has hg
    simpa using x1.ne hs5 (by decide)
  have nep5 : ∀ g, (Value.slice a3 m3 d3).ownBlock = some g → g ∉ [rb] := fun g hg => by
    obtain ⟨_, x1⟩ := p5.has hg
    simpa using x1.ne hs5 (by decide)
  have o5s := o5.tur ts5 ne5
  have p5s := p5.tur ts5 nep5
  have z5s : (w5.setCell ⟨rb, 0, none⟩ (.slice a5 m5 d5)).heap.size = w5.heap.size := size_set _ _ _
  obtain ⟨R6, w6, r6, o6, t6, f6⟩ := appII (w5.setCell ⟨rb, 0, none⟩ (.slice a5 m5 d5)) B _ _ A6 n6 c6 _ p5s (by rw [z5s]; have := b5.size; omega) l6 ((h6d.below b5).tur ts5 fun a ha => by simpa using g6 a ha) z6 (by rw [List.length_take, lv]; rw [List.length_drop, lv] at l6; omega)
  have o56 := o5s.tur t6 fun g hg hx => by
    obtain ⟨_, x1⟩ := o5s.has hg
    obtain ⟨_, x2⟩ := p5s.has (g := g) (by simpa using hx)
    exact x1.ne x2 (by decide) rfl
  have F6 : ∀ k, R6.ownBlock = some k → wd.heap.size ≤ k := fun k hk => (f6 k hk).elim (F3 k) (fun e => by rw [z5s] at e; have := b5.size; omega)
  obtain ⟨a6, m6, d6, rfl, -⟩ := ownI_row o6
  have hs6 : Has w6 rb 29 #[.slice a5 m5 d5, .slice A2 n c2] := hs5s.tur t6 fun hx => by
    obtain ⟨_, x2⟩ := p5s.has (g := rb) (by simpa using hx)
    exact x2.ne hs5s (by decide) rfl
  have ts6 : Tur [rb] w6 (w6.setCell ⟨rb, 1, none⟩ (.slice a6 m6 d6)) := Tur.setCell w6 (p := ⟨rb, 1, none⟩) (by simp) _
  have hs6s : Has (w6.setCell ⟨rb, 1, none⟩ (.slice a6 m6 d6)) rb 29 #[.slice a5 m5 d5, .slice a6 m6 d6] := hs6.put 1 _
  have ne6 : ∀ g, (Value.slice a5 m5 d5).ownBlock = some g → g ∉ [rb] := ne5
  have ne66 : ∀ g, (Value.slice a6 m6 d6).ownBlock = some g → g ∉ [rb] := fun g hg => by
    obtain ⟨_, x1⟩ := o6.has hg
    simpa using x1.ne hs6 (by decide)
  have u5 : Tur [rb] w w5 := td.trans (Tur.of_below (X := []) b5) fun b hb => by cases hb
  have u5s : Tur [rb] w (w5.setCell ⟨rb, 0, none⟩ (.slice a5 m5 d5)) := u5.trans ts5 (Fre.refl _ _)
  have u6 : Tur [rb] w w6 := u5s.trans t6 fun b hb => .inr (by rw [← hsz]; exact F3 b (by simpa using hb))
  have u6s : Tur [rb] w (w6.setCell ⟨rb, 1, none⟩ (.slice a6 m6 d6)) := u6.trans ts6 (Fre.refl _ _)
  refine ⟨a1, m1, d1, w1, a3, m3, d3, w3, a5, m5, d5, w5, a6, m6, d6, w6, r1, r3, r5, r6, (hd.below b1 hlt).cell 1, (hd.below b3 hlt).cell 0, hs5.cell 0, hs5.free 0, hs5s.cell 1, hs6.cell 1, hs6.free 1, _, ⟨h.le, ⟨_, _, hs6s, ?_, ?_, rfl⟩, hR⟩, u6s.sub (by simpa using hX), ?_⟩
  · rw [hC]
    simpa using o56.tur ts6 ne6
  · rw [hC]
    simpa using o6.tur ts6 ne66
  · intro b hb
    rcases List.mem_cons.1 hb with e | hb
    · exact .inl (by rw [e]; exact hX)
    · refine .inr ?_
      rw [← hsz]
      rcases List.mem_append.1 hb with hb | hb
      · exact F5 b (by simpa using hb)
      · exact F6 b (by simpa using hb)
end Go.Proofs.Ytmapclocbhkpbaa
