/-
  What is proved here: what jsonval.Written and its closures answer.
-/
import Derived.Test.YtjjoedkigjekcaaGreatDoorKM
import Derived.Test.YtjjoedkigjekcaaGreatDoorShelf
import Derived.Laws.EntriesVeiled
import Derived.Lib.IndexAny
import Derived.Shelf.RegionOpen
namespace Go.Proofs.YtjjoedkigjekcaaGreatDoor
open Go.RowKit

/-- the rest of a text that the closures pass by: it lies in R; the first closure lies in Q -/
structure Rest (w : World) (R Q : Nat) (r : List UInt8) (W : World) : Prop where
  b : Below w.heap.size w W
  c : W.cell? ⟨R, 0, none⟩ = some (.string (strL r))
  f : W.frozen? ⟨R, 0, none⟩ = false
  q : W.cell? ⟨Q, 0, none⟩ = some (.func (.func 39) #[] #[.pointer (some ⟨R, 0, none⟩)])
theorem Rest.store {w W : World} {R Q : Nat} {r r' : List UInt8} (h : Rest w R Q r W) (hR : w.heap.size ≤ R) (hne : Q ≠ R) : Rest w R Q r' (W.setCell ⟨R, 0, none⟩ (.string (strL r'))) := by
  refine ⟨h.b.setCell (p := ⟨R, 0, none⟩) hR _, World.cell?_setCell_same _ _ _ h.c, ?_, ?_⟩
  · rw [World.frozen?_setCell]; exact h.f
  · rw [World.cell?_setCell_other]
    · exact h.q
    · exact fun e => hne (congrArg Addr.block e).symm
theorem rest_cases (wl r : List UInt8) : (r = [] ∨ ∃ b t, r = b :: t ∧ wl.contains b = false) ∨ ∃ b t, r = b :: t ∧ wl.contains b = true := by
  rcases r with _ | ⟨b, t⟩
  · exact .inl (.inl rfl)
  · cases h : wl.contains b with
    | false => exact .inl (.inr ⟨b, t, rfl, h⟩)
    | true => exact .inr ⟨b, t, rfl, h⟩
theorem head_at (b : UInt8) (t : List UInt8) (h : 0 < (strL (b :: t)).size) : (strL (b :: t))[0]'h = b := rfl
theorem cut_head (b : UInt8) (t : List UInt8) : (strL (b :: t)).extract 1 (strL (b :: t)).size = strL t := by
  apply ByteArray.ext
  apply Array.ext'
  rw [cut_toList, strL_toList]
  rfl
theorem index_byte (wl : List UInt8) (b : UInt8) (w : World) : Calls Tryz.prog 40 #[.string (strL wl), .int .u8 b.toNat] w fun e w' => e = .returned (.int .i64 (Lib.indexByte wl b)) ∧ w' = w := by
  have := Tryz.strings_IndexByte (strL wl) ((b.toNat : Nat) : Int) w
  rw [Lib.byte_back', strL_toList] at this
  exact this
set_option maxRecDepth 20000 in
set_option maxHeartbeats 1000000 in
theorem pass_no (wl r : List UInt8) (h : r = [] ∨ ∃ b t, r = b :: t ∧ wl.contains b = false) (R : Nat) (W : World) (hc : W.cell? ⟨R, 0, none⟩ = some (.string (strL r))) :
    Calls Tryz.prog 39 #[.string (strL wl), .pointer (some ⟨R, 0, none⟩)] W fun e w' => e = .returned (.bool false) ∧ W = w' := by
  rcases h with rfl | ⟨b, t, rfl, hm⟩
  · have he : (strL []).toList.isEmpty = true := by rw [ByteArray.toList_eq]; rfl
    generalize strL [] = S at *
    go_enter Tryz.func39, Tryz.ntmps39
    go_wp2
    go_ret
    exact ⟨rfl, rfl⟩
  · rw [Lib.contains_iff_indexByte] at hm
    have hi : Lib.indexByte wl b < 0 := by have := of_decide_eq_false hm; omega
    have HI : Hid (∀ W, _) := fun W => index_byte wl b W
    have he : (strL (b :: t)).toList.isEmpty = false := by rw [ByteArray.toList_eq]; rfl
    have h0 : 0 < (strL (b :: t)).size := by rw [strL_size]; simp
    have hb := head_at b t h0
    generalize Lib.indexByte wl b = ix at *
    generalize strL (b :: t) = S at *
    clear hm
    go_enter Tryz.func39, Tryz.ntmps39
    go_wp2_with (go_at_call 40; refine (HI.out _).mono ?_; rintro e w1 ⟨rfl, rfl⟩)
    go_ret
    exact ⟨rfl, rfl⟩
set_option maxRecDepth 20000 in
set_option maxHeartbeats 1000000 in
theorem pass_yes (wl : List UInt8) (b : UInt8) (t : List UInt8) (hm : wl.contains b = true) (R : Nat) (W : World) (hc : W.cell? ⟨R, 0, none⟩ = some (.string (strL (b :: t)))) (hf : W.frozen? ⟨R, 0, none⟩ = false) :
    Calls Tryz.prog 39 #[.string (strL wl), .pointer (some ⟨R, 0, none⟩)] W fun e w' => e = .returned (.bool true) ∧ W.setCell ⟨R, 0, none⟩ (.string (strL t)) = w' := by
  rw [Lib.contains_iff_indexByte] at hm
  have hi : ¬ Lib.indexByte wl b < 0 := by have := of_decide_eq_true hm; omega
  have HI : Hid (∀ W, _) := fun W => index_byte wl b W
  have he : (strL (b :: t)).toList.isEmpty = false := by rw [ByteArray.toList_eq]; rfl
  have h0 : 0 < (strL (b :: t)).size := by rw [strL_size]; simp
  have h1 : (1 : Int) ≤ ((strL (b :: t)).size : Int) := by omega
  have hb := head_at b t h0
  have hcut := cut_head b t
  generalize Lib.indexByte wl b = ix at *
  generalize strL (b :: t) = S at *
  generalize strL t = T at *
  clear hm
  go_enter Tryz.func39, Tryz.ntmps39
  go_wp2_with (go_at_call 40; refine (HI.out _).mono ?_; rintro e w1 ⟨rfl, rfl⟩)
  go_ret
  exact ⟨rfl, rfl⟩
/-! ## passed by, or not -/
def hitM (wl r : List UInt8) : Bool := !r.isEmpty && wl.contains (r.headD 0)
def nxM (wl r : List UInt8) : List UInt8 := if hitM wl r = true then r.tail else r
theorem pass_any (wl r : List UInt8) (w : World) (R Q : Nat) (hR : w.heap.size ≤ R) (hne : Q ≠ R) (W : World) (h : Rest w R Q r W) :
    Calls Tryz.prog 39 #[.string (strL wl), .pointer (some ⟨R, 0, none⟩)] W fun e w' => e = .returned (.bool (hitM wl r)) ∧ Rest w R Q (nxM wl r) w' := by
  rcases rest_cases wl r with hn | ⟨b, t, rfl, hm⟩
  · have e : hitM wl r = false := by
      rcases hn with rfl | ⟨b, t, rfl, hm⟩
      · rfl
      · simpa [hitM] using hm
    refine (pass_no wl r hn R W h.c).mono ?_
    rintro _ w' ⟨rfl, rfl⟩
    exact ⟨by rw [e], by unfold nxM; rw [e]; exact h⟩
  · have e : hitM wl (b :: t) = true := by simpa [hitM] using hm
    refine (pass_yes wl b t hm R W h.c h.f).mono ?_
    rintro _ w' ⟨rfl, rfl⟩
    exact ⟨by rw [e], by unfold nxM; rw [e]; exact h.store hR hne⟩
theorem enters_pass : ∀ args w, (callFunc 39 args).run Tryz.prog w = .ok (.enter 39 args) w := enters_of Tryz.func39 (by kernel_rfl) rfl
theorem enters_digits : ∀ args w, (callFunc 41 args).run Tryz.prog w = .ok (.enter 41 args) w := enters_of Tryz.func41 (by kernel_rfl) rfl
def digitsL : List UInt8 := [48, 49, 50, 51, 52, 53, 54, 55, 56, 57]
theorem digits_all : ∀ n : Fin 256, digitsL.contains (UInt8.ofNat n.val) = isDig (UInt8.ofNat n.val) := by decide +kernel
theorem digits_contains (b : UInt8) : digitsL.contains b = isDig b := by
  have h := digits_all ⟨b.toNat, b.toNat_lt⟩
  simpa only [UInt8.ofNat_toNat] using h
theorem hit_digits (r : List UInt8) : hitM digitsL r = (!r.isEmpty && isDig (r.headD 0)) := by unfold hitM; rw [digits_contains]
theorem digits_split (d r : List UInt8) (hd : ∀ b ∈ d, isDig b = true) (hr : hitM digitsL r = false) : (d ++ r).dropWhile isDig = r ∧ tailD (d ++ r) = !d.isEmpty := by
  rw [hit_digits] at hr
  induction d with
  | nil =>
    cases r with
    | nil => exact ⟨rfl, rfl⟩
    | cons b t =>
      have hb : isDig b = false := by simpa using hr
      constructor
      · rw [List.nil_append, List.dropWhile_cons, if_neg (by rw [hb]; decide)]
      · unfold tailD
        rw [List.nil_append, List.takeWhile_cons, if_neg (by rw [hb]; decide)]
        rfl
  | cons b d ih =>
    have hb := hd b (by simp)
    obtain ⟨h1, -⟩ := ih (fun x hx => hd x (by simp [hx]))
    constructor
    · rw [List.cons_append, List.dropWhile_cons, if_pos hb]; exact h1
    · unfold tailD
      rw [List.cons_append, List.takeWhile_cons, if_pos hb]
      simp
/-- how much of the text is left -/
def restLen (R : Nat) (W : World) : Nat :=
  match W.cell? ⟨R, 0, none⟩ with
  | some (.string s) => s.size
  | _ => 0
theorem Rest.len {w W : World} {R Q : Nat} {r : List UInt8} (h : Rest w R Q r W) : restLen R W = r.length := by
  unfold restLen
  rw [h.c]
  rfl
set_option maxHeartbeats 1000000 in
theorem passDigits_any (r : List UInt8) (w : World) (R Q : Nat) (hR : w.heap.size ≤ R) (hne : Q ≠ R) (W : World) (h : Rest w R Q r W) :
    Calls Tryz.prog 41 #[.pointer (some ⟨Q, 0, none⟩)] W fun e w' => e = .returned (.bool (tailD r)) ∧ Rest w R Q (r.dropWhile isDig) w' := by
  have HP : Hid (∀ t W, Rest w R Q t W → Calls Tryz.prog 39 #[.string ⟨#[48, 49, 50, 51, 52, 53, 54, 55, 56, 57]⟩, .pointer (some ⟨R, 0, none⟩)] W fun e w' => e = .returned (.bool (hitM digitsL t)) ∧ Rest w R Q (nxM digitsL t) w') := fun t W h => pass_any digitsL t w R Q hR hne W h
  have eg := enters_pass
  have H := Hid.mk' h
  have HQ : Hid (∀ t W, Rest w R Q t W → W.cell? ⟨Q, 0, none⟩ = some (.func (.func 39) #[] #[.pointer (some ⟨R, 0, none⟩)])) := fun t W h => h.q
  have HS : Hid (∀ d t : List UInt8, (∀ b ∈ d, isDig b = true) → d ++ t = r → hitM digitsL t = false → r.dropWhile isDig = t ∧ tailD r = !d.isEmpty) := fun d t hd e hn => by rw [← e]; exact digits_split d t hd hn
  clear h
  go_enter Tryz.func41, Tryz.ntmps41
  go_wp2
  go_loopw [2] (fun x wr => ∃ d t : List UInt8, x = .bool (!d.isEmpty) ∧ Hid ((∀ b ∈ d, isDig b = true) ∧ d ++ t = r) ∧ Hid (Rest w R Q t wr)) (fun _ wr => restLen R wr)
  case atStart => exact ⟨[], r, rfl, ⟨by simp, rfl⟩, H⟩
  case round =>
    obtain ⟨d, t, rfl, HD, HR⟩ := hrel
    have hq := HQ.out t _ HR.out
    have HC := Hid.mk' (HP.out t _ HR.out)
    cases hh : hitM digitsL t with
    | true =>
      rw [hh] at HC
      obtain ⟨b, u, rfl, hb⟩ : ∃ b u, t = b :: u ∧ isDig b = true := by
        rw [hit_digits] at hh
        cases t with
        | nil => simp at hh
        | cons b u => exact ⟨b, u, rfl, by simpa using hh⟩
      have HU : Hid (nxM digitsL (b :: u) = u) := by show _ = _; unfold nxM; rw [hh]; rfl
      have HD2 : Hid ((∀ x ∈ d ++ [b], isDig x = true) ∧ (d ++ [b]) ++ u = r) := ⟨fun x hx => by
        rcases List.mem_append.1 hx with h | h
        · exact HD.out.1 x h
        · obtain rfl := List.mem_singleton.1 h; exact hb, by rw [← HD.out.2]; simp⟩
      have HB : Hid ((!(d ++ [b]).isEmpty) = true) := by show _ = _; simp
      have HL : Hid (restLen R wr = u.length + 1) := HR.out.len
      clear hh hb
      go_wp2_with (go_at_fn 39; refine HC.out.mono ?_; rintro e w1 ⟨rfl, hr1⟩; have HR1 := Hid.mk' hr1; clear hr1)
      go_roundw
      case rel => exact ⟨d ++ [b], u, by rw [HB.out], HD2, by have h := HR1.out; rw [HU.out] at h; exact h⟩
      case measure =>
        have h := HR1.out
        rw [HU.out] at h
        have := h.len
        have := HL.out
        omega
    | false =>
      rw [hh] at HC
      have HE := Hid.mk' (HS.out d t HD.out.1 HD.out.2 hh)
      have HU : Hid (nxM digitsL t = t) := by show _ = _; unfold nxM; rw [hh]; rfl
      clear hh
      go_wp2_with (go_at_fn 39; refine HC.out.mono ?_; rintro e w1 ⟨rfl, hr1⟩; have HR1 := Hid.mk' hr1; clear hr1)
      go_ret
      refine ⟨by rw [HE.out.2]; rfl, ?_⟩
      rw [HE.out.1]
      have h := HR1.out
      rw [HU.out] at h
      exact h
/-! ## the whole -/
theorem hit_head (wl r : List UInt8) (h0 : wl.contains 0 = false) : hitM wl r = wl.contains (r.headD 0) := by
  unfold hitM
  cases r with
  | nil => simpa using h0.symm
  | cons b t => rfl
theorem nx_hit {wl r : List UInt8} (h : hitM wl r = true) : nxM wl r = r.tail := by unfold nxM; rw [h]; rfl
theorem nx_no {wl r : List UInt8} (h : hitM wl r = false) : nxM wl r = r := by unfold nxM; rw [h]; rfl
theorem num_start (s : List UInt8) : numM s = num1 (nxM [45] s) := by
  unfold numM nxM
  rw [hit_head _ _ (by decide)]
  simp
theorem num1_hit {r : List UInt8} (h : hitM [48] r = true) : num1 r = num2 r.tail := by
  rw [hit_head _ _ (by decide)] at h
  unfold num1
  rw [if_pos (by simpa using h)]
theorem num1_no {r : List UInt8} (h : hitM [48] r = false) : num1 r = (tailD r && num2 (r.dropWhile isDig)) := by
  rw [hit_head _ _ (by decide)] at h
  unfold num1
  rw [if_neg (by simpa using h)]
theorem num2_hit {r : List UInt8} (h : hitM [46] r = true) : num2 r = (tailD r.tail && num3 (r.tail.dropWhile isDig)) := by
  rw [hit_head _ _ (by decide)] at h
  unfold num2
  rw [if_pos (by simpa using h)]
theorem num2_no {r : List UInt8} (h : hitM [46] r = false) : num2 r = num3 r := by
  rw [hit_head _ _ (by decide)] at h
  unfold num2
  rw [if_neg (by simpa using h)]
theorem num3_hit {r : List UInt8} (h : hitM [101, 69] r = true) : num3 r = (tailD (nxM [43, 45] r.tail) && ((nxM [43, 45] r.tail).dropWhile isDig).isEmpty) := by
  rw [hit_head _ _ (by decide)] at h
  unfold num3 nxM
  rw [if_pos (by simpa using h), hit_head _ _ (by decide)]
  by_cases g : r.tail.headD 0 = 43 ∨ r.tail.headD 0 = 45
  · rw [if_pos g, if_pos (by simpa using g)]
  · rw [if_neg g, if_neg (by simpa using g)]
theorem num3_no {r : List UInt8} (h : hitM [101, 69] r = false) : num3 r = r.isEmpty := by
  rw [hit_head _ _ (by decide)] at h
  unfold num3
  rw [if_neg (by simpa using h)]
theorem empty_test (r : List UInt8) : ((strL r).toList.isEmpty) = r.isEmpty := by
  rw [ByteArray.toList_eq]
  cases r <;> rfl
theorem rest_start (w : World) (s : List UInt8) (T1 T2 : TypeId) : Rest w w.heap.size (w.heap.size + 1) s ((w.alloc (.cells #[.string (strL s)] T1)).alloc (.cells #[.func (.func 39) #[] #[.pointer (some ⟨w.heap.size, 0, none⟩)]] T2)) := by
  refine ⟨((Below.refl _ w).alloc (Nat.le_refl _) _).alloc (by simp) _, ?_, ?_, ?_⟩
  · rw [World.cell?_alloc_lt _ _ ⟨w.heap.size, 0, none⟩ (by simp), World.cell?_alloc_new]; rfl
  · rw [World.frozen?_alloc_old _ _ ⟨w.heap.size, 0, none⟩ (by simp)]; simp
  · have e := World.cell?_alloc_new (w.alloc (.cells #[.string (strL s)] T1)) #[.func (.func 39) #[] #[.pointer (some ⟨w.heap.size, 0, none⟩)]] T2 0
    rw [World.size_alloc] at e
    rw [e]; rfl
set_option maxRecDepth 20000 in
set_option maxHeartbeats 4000000 in
theorem written12_any (s : List UInt8) (w : World) :
    Calls Tryz.prog 20 #[.string (strL s)] w fun e w' => e = .returned (.bool (writtenM s)) ∧ Below w.heap.size w w' := by
  have eg := enters_pass
  have eg2 := enters_digits
  have HP : Hid (∀ (wl t : List UInt8) (W : World), Rest w w.heap.size (w.heap.size + 1) t W → Calls Tryz.prog 39 #[.string (strL wl), .pointer (some ⟨w.heap.size, 0, none⟩)] W fun e w' => e = .returned (.bool (hitM wl t)) ∧ Rest w w.heap.size (w.heap.size + 1) (nxM wl t) w') := fun wl t W h => pass_any wl t w _ _ (Nat.le_refl _) (by omega) W h
  have HD : Hid (∀ (t : List UInt8) (W : World), Rest w w.heap.size (w.heap.size + 1) t W → Calls Tryz.prog 41 #[.pointer (some ⟨w.heap.size + 1, 0, none⟩)] W fun e w' => e = .returned (.bool (tailD t)) ∧ Rest w w.heap.size (w.heap.size + 1) (t.dropWhile isDig) w') := fun t W h => passDigits_any t w _ _ (Nat.le_refl _) (by omega) W h
  obtain ⟨z, hz⟩ : ∃ z, writtenM s = z := ⟨_, rfl⟩
  have HZ : Hid (num1 (nxM [45] s) = z) := by show _ = _; rw [← num_start, ← written_numM, hz]
  rw [hz]
  clear hz
  go_enter Tryz.func20, Tryz.ntmps20
  go_wp2_with fail
  refine (HP.out [45] s _ (rest_start w s _ _)).mono ?_
  rintro e w1 ⟨rfl, hr1⟩
  have HR1 := Hid.mk' hr1
  have hq1 := hr1.q
  generalize nxM [45] s = r1 at *
  generalize hitM [45] s = z0 at *
  clear hr1
  go_upto_region 5 with fail
  go_cut [18] from 11 to 18 (fun x wx => ∃ b : Bool, x = .bool b ∧ Hid (b = true → z = false) ∧ Hid (b = false → ∃ r2, Rest w w.heap.size (w.heap.size + 1) r2 wx ∧ num2 r2 = z) ∧ Below w.heap.size w wx)
  case first =>
    have HC1 := Hid.mk' (HP.out [48] r1 _ HR1.out)
    cases hh : hitM [48] r1 with
    | true =>
      rw [hh] at HC1
      have HE := Hid.mk' (num1_hit hh)
      rw [nx_hit hh] at HC1
      clear hh HP HD HR1
      go_wp2_with fail
      refine HC1.out.mono ?_
      rintro e w2 ⟨rfl, hr2⟩
      have hfin := hr2.b
      have HR2 := Hid.mk' hr2
      clear hr2 HC1
      go_wp2
      go_meet
      exact ⟨false, rfl, fun h => by simp at h, fun _ => ⟨_, HR2.out, by rw [← HE.out, HZ.out]⟩, hfin⟩
    | false =>
      rw [hh] at HC1
      have HE := Hid.mk' (num1_no hh)
      rw [nx_no hh] at HC1
      clear hh HP HR1
      go_wp2_with fail
      refine HC1.out.mono ?_
      rintro e w2 ⟨rfl, hr2⟩
      have hq2 := hr2.q
      have HC2 := Hid.mk' (HD.out r1 _ hr2)
      clear hr2 HC1 HD
      generalize tailD r1 = t1 at *
      go_wp2_with fail
      refine HC2.out.mono ?_
      rintro e w3 ⟨rfl, hr3⟩
      have hfin := hr3.b
      have HR3 := Hid.mk' hr3
      clear hr3 HC2
      cases t1 with
      | true =>
        go_wp2
        go_meet
        exact ⟨false, rfl, fun h => by simp at h, fun _ => ⟨_, HR3.out, by rw [← HZ.out, HE.out]; rfl⟩, hfin⟩
      | false =>
        go_wp2
        go_meet
        exact ⟨true, rfl, fun _ => by rw [← HZ.out, HE.out]; rfl, fun h => by simp at h, hfin⟩
  case rest =>
    obtain ⟨b, rfl, HF, HR2, hfin⟩ := hcut
    cases b with
    | true =>
      obtain rfl := HF.out rfl
      clear HP HD HF HR2 HR1
      go_wp2
      go_ret
      exact ⟨rfl, hfin⟩
    | false =>
      obtain ⟨r2, hr2, hz2⟩ := HR2.out rfl
      have HZ2 := Hid.mk' hz2
      have HR3 := Hid.mk' hr2
      have hq2 := hr2.q
      clear HF HR2 HR1 hr2 hz2 HZ hq1 hfin
      go_upto_region 7 with fail
      go_cut [25] from 19 to 25 (fun x wx => ∃ b : Bool, x = .bool b ∧ Hid (b = true → z = false) ∧ Hid (b = false → ∃ r3, Rest w w.heap.size (w.heap.size + 1) r3 wx ∧ num3 r3 = z) ∧ Below w.heap.size w wx)
      case first =>
        have HC1 := Hid.mk' (HP.out [46] r2 _ HR3.out)
        cases hh : hitM [46] r2 with
        | false =>
          rw [hh] at HC1
          have HE := Hid.mk' (num2_no hh)
          rw [nx_no hh] at HC1
          clear hh HP HD HR3
          go_wp2_with fail
          refine HC1.out.mono ?_
          rintro e w2 ⟨rfl, hr2⟩
          have hfin := hr2.b
          have HR2 := Hid.mk' hr2
          clear hr2 HC1
          go_wp2
          go_meet
          exact ⟨false, rfl, fun h => by simp at h, fun _ => ⟨_, HR2.out, by rw [← HE.out, HZ2.out]⟩, hfin⟩
        | true =>
          rw [hh] at HC1
          have HE := Hid.mk' (num2_hit hh)
          rw [nx_hit hh] at HC1
          clear hh HP HR3
          go_wp2_with fail
          refine HC1.out.mono ?_
          rintro e w2 ⟨rfl, hr2⟩
          have hq2 := hr2.q
          have HC2 := Hid.mk' (HD.out _ _ hr2)
          clear hr2 HC1 HD
          generalize tailD r2.tail = t1 at *
          go_wp2_with fail
          refine HC2.out.mono ?_
          rintro e w3 ⟨rfl, hr3⟩
          have hfin := hr3.b
          have HR3 := Hid.mk' hr3
          clear hr3 HC2
          cases t1 with
          | true =>
            go_wp2
            go_meet
            exact ⟨false, rfl, fun h => by simp at h, fun _ => ⟨_, HR3.out, by rw [← HZ2.out, HE.out]; rfl⟩, hfin⟩
          | false =>
            go_wp2
            go_meet
            exact ⟨true, rfl, fun _ => by rw [← HZ2.out, HE.out]; rfl, fun h => by simp at h, hfin⟩
      case rest =>
        obtain ⟨b, rfl, HF, HR2, hfin⟩ := hcut
        cases b with
        | true =>
          obtain rfl := HF.out rfl
          clear HP HD HF HR2 HR3
          go_wp2
          go_ret
          exact ⟨rfl, hfin⟩
        | false =>
          obtain ⟨r3, hr3, hz3⟩ := HR2.out rfl
          have HC1 := Hid.mk' (HP.out [101, 69] r3 _ hr3)
          have hq3 := hr3.q
          clear HF HR2 HR3 hq2 hfin HZ2
          cases hh : hitM [101, 69] r3 with
          | false =>
            rw [hh] at HC1
            rw [nx_no hh] at HC1
            have hz := (num3_no hh).symm.trans hz3
            clear hh HP HD hz3 hr3
            go_wp2_with fail
            refine HC1.out.mono ?_
            rintro e w2 ⟨rfl, hr4⟩
            have hc4 := hr4.c
            have hfin := hr4.b
            have he := (empty_test r3).trans hz
            clear hr4 HC1 hz
            generalize strL r3 = S3 at *
            go_wp2
            go_ret
            exact ⟨rfl, hfin⟩
          | true =>
            rw [hh] at HC1
            rw [nx_hit hh] at HC1
            have HE := Hid.mk' ((num3_hit hh).symm.trans hz3)
            clear hh hz3 hr3
            go_wp2_with fail
            refine HC1.out.mono ?_
            rintro e w2 ⟨rfl, hr4⟩
            have hq4 := hr4.q
            have HC2 := Hid.mk' (HP.out [43, 45] _ _ hr4)
            clear hr4 HC1 HP
            generalize hitM [43, 45] r3.tail = z4 at *
            generalize nxM [43, 45] r3.tail = r4 at *
            go_wp2_with fail
            refine HC2.out.mono ?_
            rintro e w3 ⟨rfl, hr5⟩
            have HC3 := Hid.mk' (HD.out _ _ hr5)
            clear hr5 HC2 HD
            generalize hr6 : r4.dropWhile isDig = r6 at *
            generalize tailD r4 = t4 at *
            go_wp2_with fail
            refine HC3.out.mono ?_
            rintro e w4 ⟨rfl, hr7⟩
            have hc7 := hr7.c
            have hfin := hr7.b
            clear hr7 HC3 hr6
            cases t4 with
            | false =>
              have hz : false = z := HE.out
              subst hz
              go_wp2
              go_ret
              exact ⟨rfl, hfin⟩
            | true =>
              have hz : r6.isEmpty = z := by have := HE.out; simpa using this
              have he := (empty_test r6).trans hz
              clear HE hz
              generalize strL r6 = S6 at *
              go_wp2
              go_ret
              exact ⟨rfl, hfin⟩
end Go.Proofs.YtjjoedkigjekcaaGreatDoor
