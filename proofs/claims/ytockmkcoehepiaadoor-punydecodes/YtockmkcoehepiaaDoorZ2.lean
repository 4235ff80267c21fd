/-
  What is proved here: a struct's cells in its block; what puny's bound, digits and Digits answer, and the document's sign and Digits.
-/
import Derived.Test.YtockmkcoehepiaaDoorZ1
import Derived.Laws.BytesArg
namespace Go.Proofs.YtockmkcoehepiaaDoor
open Go.RowKit

/-- the block B holds these cells -/
def Blk (w : World) (B : Nat) (T : TypeId) (xs : List Value) : Prop := w.heap[B]? = some (.cells xs.toArray T (0, 0))
theorem Blk.lt {w : World} {B : Nat} {T : TypeId} {xs : List Value} (h : Blk w B T xs) : B < w.heap.size := by
  rcases Nat.lt_or_ge B w.heap.size with g | g
  · exact g
  · unfold Blk at h; rw [Array.getElem?_eq_none g] at h; cases h
theorem Blk.cell {w : World} {B : Nat} {T : TypeId} {xs : List Value} (h : Blk w B T xs) (o : Nat) {v : Value} (hv : xs[o]? = some v) : w.cell? ⟨B, o, none⟩ = some v := by
  unfold Blk at h
  simp [World.cell?, h, hv]
theorem Blk.free {w : World} {B : Nat} {T : TypeId} {xs : List Value} (h : Blk w B T xs) (o : Nat) : w.frozen? ⟨B, o, none⟩ = false := by
  unfold Blk at h
  simp [World.frozen?, h]
theorem Blk.set {w : World} {B : Nat} {T : TypeId} {xs : List Value} (h : Blk w B T xs) (o : Nat) (u : Value) : Blk (w.setCell ⟨B, o, none⟩ u) B T (xs.set o u) := by
  have hlt := h.lt
  unfold Blk at *
  have h' : w.heap[B] = .cells xs.toArray T (0, 0) := by simpa [Array.getElem?_eq_getElem hlt] using h
  show (w.heap.modify B _)[B]? = _
  rw [Array.getElem?_eq_getElem (by simpa using hlt), Array.getElem_modify_self, h']
  simp
theorem Blk.drew {w : World} {B : Nat} {T : TypeId} {xs : List Value} (h : Blk w B T xs) : Blk w.drew B T xs := h
theorem Blk.below {w w' : World} {B : Nat} {T : TypeId} {xs : List Value} (h : Blk w B T xs) (hb : Below w.heap.size w w') : Blk w' B T xs := (hb.block B h.lt).trans h
theorem Blk.new (w : World) (T : TypeId) (xs : List Value) : Blk (w.alloc (.cells xs.toArray T)) w.heap.size T xs := Array.getElem?_push_size
theorem Blk.other {w w' : World} {B g : Nat} {T : TypeId} {xs : List Value} (h : Blk w B T xs) (hg : w.grownBy w' (some g)) (hne : B ≠ g) : Blk w' B T xs := (hg.block B h.lt (fun e => hne (Option.some.inj e))).trans h
theorem own_slice {B : Nat} {e : TypeId} {k : Nat} {v : Value} {n : Nat} {xs : List Value} {w : World} (h : w.ownsRow B e k v n xs) : ∃ a c, v = .slice a n c := by
  rcases h.2 with ⟨rfl, h0⟩ | ⟨g, cap, cur, rfl, _, _⟩
  · exact ⟨none, 0, by rw [h0]⟩
  · exact ⟨_, _, rfl⟩
theorem own_weaken {B B' : Nat} {e : TypeId} {k : Nat} {v : Value} {n : Nat} {xs : List Value} {w : World} (h : w.ownsRow B e k v n xs) (hB : B' ≤ B) : w.ownsRow B' e k v n xs := by
  refine ⟨h.1, ?_⟩
  rcases h.2 with h0 | ⟨g, cap, cur, h1, h2, h3⟩
  · exact .inl h0
  · exact .inr ⟨g, cap, cur, h1, Nat.le_trans hB h2, h3⟩
theorem conv_own {w : World} {B : Nat} {v : Value} {bs : List Int} {n : Nat} (hn : bs.length = n) (h : w.ownsRow B 5 1 v n (bs.map (Value.int .u8))) :
    (convert 75 9 v).run Tryd.prog w = .ok (.string (strOfNums bs)) w := by
  subst hn
  rcases h.2 with ⟨rfl, h0⟩ | ⟨g, cap, cur, rfl, _, _⟩
  · rw [List.eq_nil_of_length_eq_zero h0]
    exact run_convert_bytes_nil w 75 5 Tryd.underlying75 Tryd.underlying5 0 0 _ Tryd.underlying9
  · refine run_convert_bytes_arg w 75 5 Tryd.underlying75 Tryd.underlying5 g 0 _ cap bs rfl (fun j hj => ?_) _ Tryd.underlying9
    rw [Nat.zero_add, h.cellAt j (by omega)]
    simp [List.getElem?_eq_getElem hj]
theorem conv_one (w : World) (b : Int) :
    (convert 75 9 (.slice (some ⟨w.heap.size, 0, none⟩) 1 1)).run Tryd.prog (w.alloc (.cells #[.int .u8 b] 5)) = .ok (.string (strOfNums [b])) (w.alloc (.cells #[.int .u8 b] 5)) := by
  refine run_convert_bytes_arg _ 75 5 Tryd.underlying75 Tryd.underlying5 w.heap.size 0 1 1 [b] rfl (fun j hj => ?_) _ Tryd.underlying9
  obtain rfl : j = 0 := by simp at hj; omega
  simp
theorem strOf_append (x y : List Int) : strOfNums x ++ strOfNums y = strOfNums (x ++ y) := by
  apply ByteArray.ext
  simp [strOfNums]
set_option maxHeartbeats 400000 in
theorem bound_any (B : Nat) (k bias : Int) (w : World) (hc : w.cell? ⟨B, 0, none⟩ = some (.int .i64 bias)) (hk0 : 0 ≤ k) (hk1 : k ≤ 2147483647) (h0 : 0 ≤ bias) (h1 : bias ≤ 1000) :
    Calls Tryd.prog 110 #[.pointer (some ⟨B, 0, none⟩), .int .i64 k] w fun e w' => e = .returned (.int .i64 (bndM k bias)) ∧ w = w' := by
  go_enter Tryd.func110, Tryd.ntmps110
  go_wp2_with fail
  refine (among_any _ 1 26 w).mono ?_
  rintro e w1 ⟨rfl, rfl⟩
  go_wp2
  go_ret
  exact ⟨rfl, rfl⟩
set_option maxRecDepth 20000 in
set_option maxHeartbeats 1000000 in
theorem digits_any (B : Nat) (bias d : Int) (w : World) (hc : w.cell? ⟨B, 0, none⟩ = some (.int .i64 bias)) (h0 : 0 ≤ bias) (h1 : bias ≤ 1000) (hd0 : 0 ≤ d) (hd1 : d ≤ 2147483647) :
    Calls Tryd.prog 65 #[.pointer (some ⟨B, 0, none⟩), .int .i64 d] w fun e w' => ∃ v, e = .returned v ∧ w'.ownsRow w.heap.size 5 1 v (digM d bias).length ((digM d bias).map (Value.int .u8)) ∧ Below w.heap.size w w' := by
  obtain ⟨i0, hi, hz0, hz1, hz2⟩ := info_parts Tryd.infoByte
  have HBD : Hid (∀ (W : World) (k : Int), Below w.heap.size w W → 0 ≤ k → k ≤ 2147483647 → _) := fun W k hb h0' h1' => bound_any B k bias W ((hb.cell (p := ⟨B, 0, none⟩) (lt_of_cell hc)).trans hc) h0' h1' h0 h1
  have HD : Hid ((digR d.toNat d bias 0).map sgnM = digM d bias) := rfl
  generalize digM d bias = D at *
  clear hc
  go_enter Tryd.func65, Tryd.ntmps65
  go_wp2
  go_loopw [1, 5, 6] (fun x v y wr => ∃ (f : Nat) (u : Int) (k : Nat) (l : List Int), x = .int .i64 u ∧ y = .int .i64 k ∧ 0 ≤ u ∧ (k : Int) + u ≤ 2147483647 ∧ Hid (u.toNat ≤ f) ∧ Hid (l ++ (digR f u bias k).map sgnM = D) ∧ Hid (l.length = k) ∧ wr.ownsRow w.heap.size 5 1 v k (l.map (Value.int .u8)) ∧ Below w.heap.size w wr) (fun x _ _ _ => (intOf x).toNat)
  case atStart => exact ⟨d.toNat, d, 0, [], rfl, rfl, hd0, by omega, Nat.le_refl _, HD.out, rfl, World.ownsRow_nil _ _ _ _, Below.refl _ _⟩
  case round =>
    obtain ⟨f, u, k, l, rfl, rfl, hu0, hku, HF, HR, HL, hown, hb⟩ := hrel
    have hbz := hb.size
    have HC := Hid.mk' (HBD.out wr k hb (by omega) (by omega))
    have ht := bnd_bd k bias
    by_cases hlt : u < bndM k bias
    · have HE : Hid (D = l ++ [sgnM u]) := by rw [← HR.out, digR_stop f u bias k hlt]; rfl
      generalize bndM k bias = t at *
      have HG := Hid.mk' (digit_any u wr hu0 (by omega))
      go_wp2_with fail
      refine HC.out.mono ?_
      rintro e w1 ⟨rfl, rfl⟩
      go_wp2_with fail
      refine HG.out.mono ?_
      rintro e w1 ⟨rfl, rfl⟩
      generalize sgnM u = b at *
      go_wp2_with (at_builtin; refine wpList_append_own _ rfl _ _ 75 rfl w.heap.size 5 i0 (.int .u8 0) 1 1 Tryd.underlying75 hi hz0 hz1 hz2 rfl (by decide) _ _ _ rfl (hown.alloc _) ⟨wr.heap.size, 0, none⟩ 1 1 ([b].map (Value.int .u8)) rfl rfl (cells_new _ _ _) (ints_one _ _) (by unfold maxLen; omega) (by omega) (by simp; omega) ?_; intro v' w2 hown' hgrow _)
      go_ret
      refine ⟨_, rfl, ?_, (hb.alloc hb.size _).grown hgrow (by have := hb.size; simp; omega) (fun j hj => (hown.lt j hj).1)⟩
      rw [HE.out]
      have := HL.out
      simpa [this] using hown'
    · have HN : Hid (∃ f', ((u - bndM k bias) / (36 - bndM k bias)).toNat ≤ f' ∧ (l ++ [sgnM (bndM k bias + (u - bndM k bias) % (36 - bndM k bias))]) ++ (digR f' ((u - bndM k bias) / (36 - bndM k bias)) bias (k + 1)).map sgnM = D) := by
        obtain ⟨f', rfl, e, hf'⟩ := digR_go f u bias k hlt HF.out
        refine ⟨f', hf', ?_⟩
        rw [← HR.out, e]
        simp
      have hnx := next_bd ht (by omega : bndM k bias ≤ u)
      generalize bndM k bias = t at *
      obtain ⟨n1, n2, n3, n4⟩ := hnx
      obtain ⟨ht1, ht2⟩ := ht
      have HG := Hid.mk' (digit_any (t + (u - t) % (36 - t)) wr (by omega) (by omega))
      have htu : t ≤ u := by omega
      have hdc : decide (u < t) = false := by simpa using htu
      clear hlt HR HF
      go_wp2_with fail
      refine HC.out.mono ?_
      rintro e w1 ⟨rfl, rfl⟩
      go_wp2_with fail
      refine HG.out.mono ?_
      rintro e w1 ⟨rfl, rfl⟩
      generalize sgnM (t + (u - t) % (36 - t)) = b at *
      go_wp2_with (at_builtin; refine wpList_append_own _ rfl _ _ 75 rfl w.heap.size 5 i0 (.int .u8 0) 1 1 Tryd.underlying75 hi hz0 hz1 hz2 rfl (by decide) _ _ _ rfl (hown.alloc _) ⟨wr.heap.size, 0, none⟩ 1 1 ([b].map (Value.int .u8)) rfl rfl (cells_new _ _ _) (ints_one _ _) (by unfold maxLen; omega) (by omega) (by simp; omega) ?_; intro v' w2 hown' hgrow _)
      have hb2 := (hb.alloc hb.size (.cells #[.int .u8 b] 5)).grown hgrow (by have := hb.size; simp; omega) (fun j hj => (hown.lt j hj).1)
      go_roundw
      case rel =>
        obtain ⟨f', g1, g2⟩ := HN.out
        refine ⟨f', (u - t) / (36 - t), k + 1, l ++ [b], rfl, by go_num, n1, by omega, g1, g2, by have := HL.out; simp [Hid]; omega, ?_, hb2⟩
        simpa using hown'
      case measure => simp [intOf]; omega
set_option maxHeartbeats 1000000 in
theorem Digits_any (d now : Int) (w : World) :
    Calls Tryd.prog 31 #[.int .i64 d, .int .i64 now] w fun e w' => e = .returned (.string (strOfNums (digM (numC d) (biasC now)))) ∧ Below w.heap.size w w' := by
  have HA1 : Hid (∀ W, _) := fun W => among_any d 0 2147483647 W
  have HA2 : Hid (∀ W, _) := fun W => among_any now 0 1000 W
  have hd := numC_bd d
  have hm := biasC_bd now
  simp only [show amongM d 0 2147483647 = numC d from rfl] at HA1
  simp only [show amongM now 0 1000 = biasC now from rfl] at HA2
  generalize numC d = x at *
  generalize biasC now = y at *
  go_enter Tryd.func31, Tryd.ntmps31
  go_wp2_with fail
  refine (HA2.out _).mono ?_
  rintro e w1 ⟨rfl, rfl⟩
  go_wp2_with fail
  refine (HA1.out _).mono ?_
  rintro e w1 ⟨rfl, rfl⟩
  have HD := Hid.mk' (digits_any w.heap.size y x (w.alloc (.cells #[.int .i64 y, .bool false] 72)) (by simp) hm.1 hm.2 hd.1 hd.2)
  go_wp2_with fail
  refine HD.out.mono ?_
  rintro e w1 ⟨v, rfl, hown, hb⟩
  have hcv := conv_own rfl hown
  obtain ⟨a, c, rfl⟩ := own_slice hown
  go_wp2
  go_ret
  exact ⟨rfl, ((Below.refl _ _).alloc (Nat.le_refl _) _).trans (hb.mono (by simp))⟩
set_option maxHeartbeats 1000000 in
theorem sign_any (v : Int) (w : World) (h0 : 0 ≤ v) (h1 : v < 36) :
    Calls Tryd.prog 66 #[.int .i64 v] w fun e w' => e = .returned (.string (strOfNums [sgnM v])) ∧ Below w.heap.size w w' := by
  have hcv : ∀ x : Int, _ := fun x => conv_one w x
  by_cases h : v < 26
  · have HE : Hid (sgnM v = 97 + v) := if_pos h
    go_enter Tryd.func66, Tryd.ntmps66
    go_wp2
    go_ret
    refine ⟨?_, (Below.refl _ _).alloc (Nat.le_refl _) _⟩
    rw [HE.out]
    rfl
  · have HE : Hid (sgnM v = 48 + v - 26) := by show _ = _; rw [sgnM, if_neg h]; omega
    go_enter Tryd.func66, Tryd.ntmps66
    go_wp2
    go_ret
    refine ⟨?_, (Below.refl _ _).alloc (Nat.le_refl _) _⟩
    rw [HE.out]
    rfl
set_option maxRecDepth 20000 in
set_option maxHeartbeats 1000000 in
theorem refDigits_any (d now : Int) (w : World) :
    Calls Tryd.prog 32 #[.int .i64 d, .int .i64 now] w fun e w' => e = .returned (.string (strOfNums (digM (numC d) (biasC now)))) ∧ Below w.heap.size w w' := by
  have HA1 := Hid.mk' (within_any d 0 2147483647 w (by omega))
  have HA2 := Hid.mk' (within_any now 0 1000 w (by omega))
  have hd := numC_bd d
  have hm := biasC_bd now
  simp only [show amongM d 0 2147483647 = numC d from rfl] at HA1
  simp only [show amongM now 0 1000 = biasC now from rfl] at HA2
  generalize numC d = x at *
  generalize biasC now = bias at *
  obtain ⟨hd0, hd1⟩ := hd
  obtain ⟨h0, h1⟩ := hm
  have HD : Hid ((digR x.toNat x bias 0).map sgnM = digM x bias) := rfl
  have HBD : Hid (∀ (W : World) (k : Int), 0 ≤ k → k ≤ 2147483647 → _) := fun W k h0' h1' => refBound_any k bias W h0' h1' h0 h1
  generalize digM x bias = D at *
  go_enter Tryd.func32, Tryd.ntmps32
  go_wp2_with fail
  refine HA1.out.mono ?_
  rintro e w1 ⟨rfl, rfl⟩
  go_wp2_with fail
  refine HA2.out.mono ?_
  rintro e w1 ⟨rfl, rfl⟩
  go_wp2
  go_loopw [0, 5, 6] (fun x v y wr => ∃ (f : Nat) (u : Int) (k : Nat) (l : List Int) (s : ByteArray), x = .int .i64 u ∧ y = .int .i64 k ∧ v = .string s ∧ s.size ≤ k ∧ 0 ≤ u ∧ (k : Int) + u ≤ 2147483647 ∧ Hid (u.toNat ≤ f) ∧ Hid (l ++ (digR f u bias k).map sgnM = D) ∧ Hid (s = strOfNums l) ∧ Below w.heap.size w wr) (fun x _ _ _ => (intOf x).toNat)
  case atStart => exact ⟨x.toNat, x, 0, [], ⟨#[]⟩, rfl, rfl, rfl, by decide, hd0, by omega, Nat.le_refl _, HD.out, rfl, Below.refl _ _⟩
  case round =>
    obtain ⟨f, u, k, l, s, rfl, rfl, rfl, hsz, hu0, hku, HF, HR, HL, hb⟩ := hrel
    have HC := Hid.mk' (HBD.out wr k (by omega) (by omega))
    have ht := bnd_bd k bias
    have hz : ∀ x : Int, (strOfNums [x]).size = 1 := fun x => strOfNums_size _
    by_cases hlt : u < bndM k bias
    · have HE : Hid (strOfNums D = s ++ strOfNums [sgnM u]) := by rw [← HR.out, digR_stop f u bias k hlt, HL.out, strOf_append]; rfl
      generalize bndM k bias = t at *
      have HG := Hid.mk' (sign_any u wr hu0 (by omega))
      go_wp2_with fail
      refine HC.out.mono ?_
      rintro e w1 ⟨rfl, rfl⟩
      go_wp2_with fail
      refine HG.out.mono ?_
      rintro e w1 ⟨rfl, hb1⟩
      have hz1 := hz (sgnM u)
      generalize strOfNums [sgnM u] = q at *
      have hq1 : q.size ≤ 1 := by omega
      clear hz hz1
      go_wp2
      go_ret
      exact ⟨by rw [HE.out]; rfl, hb.trans (hb1.mono hb.size)⟩
    · have HN : Hid (∃ f', ((u - bndM k bias) / (36 - bndM k bias)).toNat ≤ f' ∧ (l ++ [sgnM (bndM k bias + (u - bndM k bias) % (36 - bndM k bias))]) ++ (digR f' ((u - bndM k bias) / (36 - bndM k bias)) bias (k + 1)).map sgnM = D) := by
        obtain ⟨f', rfl, e, hf'⟩ := digR_go f u bias k hlt HF.out
        refine ⟨f', hf', ?_⟩
        rw [← HR.out, e]
        simp
      have hnx := next_bd ht (by omega : bndM k bias ≤ u)
      generalize bndM k bias = t at *
      obtain ⟨n1, n2, n3, n4⟩ := hnx
      obtain ⟨ht1, ht2⟩ := ht
      have HG := Hid.mk' (sign_any (t + (u - t) % (36 - t)) wr (by omega) (by omega))
      have htu : t ≤ u := by omega
      have hdc : decide (u < t) = false := by simpa using htu
      clear hlt HR HF
      go_wp2_with fail
      refine HC.out.mono ?_
      rintro e w1 ⟨rfl, rfl⟩
      go_wp2_with fail
      refine HG.out.mono ?_
      rintro e w1 ⟨rfl, hb1⟩
      have HS : Hid (s ++ strOfNums [sgnM (t + (u - t) % (36 - t))] = strOfNums (l ++ [sgnM (t + (u - t) % (36 - t))])) := by rw [HL.out, strOf_append]; rfl
      have hz1 := hz (sgnM (t + (u - t) % (36 - t)))
      generalize strOfNums [sgnM (t + (u - t) % (36 - t))] = q at *
      have hq1 : q.size ≤ 1 := by omega
      clear hz hz1
      go_wp2
      go_roundw
      case rel =>
        obtain ⟨f', g1, g2⟩ := HN.out
        exact ⟨f', (u - t) / (36 - t), k + 1, _, _, rfl, by go_num, rfl, by rw [ByteArray.size_append]; omega, n1, by omega, g1, g2, HS.out, hb.trans (hb1.mono hb.size)⟩
      case measure => simp [intOf]; omega
end Go.Proofs.YtockmkcoehepiaaDoor
