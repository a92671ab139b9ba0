/- DecodeCiphers of the program and of the reference. -/
import Derived.Test.YtmiohdibbpckaaaDoorRecA
import Derived.RegionTactic
import Derived.Deep.RegionHeld3
import Derived.ChangeAlike
import Derived.BigRegion
import Derived.IntWalk
namespace Go.Proofs.YtmiohdibbpckaaaDoor
open Go.RowKit

def dcB (zs : List Int) : Bool := hashB zs && decide (zs.length % 2 = 1) && decide (zs.headD 0 = ((zs.length / 2 : Nat) : Int))
def dcL (zs : List Int) : List Int := if dcB zs then zs.drop 1 else []
theorem dcL_no {zs : List Int} (h : dcB zs = false) : dcL zs = [] := by simp [dcL, h]
theorem dcL_yes {zs : List Int} (h : dcB zs = true) : dcL zs = zs.drop 1 := by simp [dcL, h]
theorem dcL_length (zs : List Int) : (dcL zs).length ≤ zs.length := by unfold dcL; split <;> simp
theorem dcB_true {zs : List Int} : dcB zs = true ↔ hashB zs = true ∧ zs.length % 2 = 1 ∧ zs.headD 0 = ((zs.length / 2 : Nat) : Int) := by simp [dcB, and_assoc]

/-- A list of ciphertexts that is answered, with a bool. -/
def AnsC (w : World) (zs : List Int) (ok : Bool) (e : Ending) (w' : World) : Prop := ∃ v, e = .returned (.tuple #[v, .bool ok]) ∧ OwC w.heap.size w'.heap.size w' v zs ∧ Below w.heap.size w w'
theorem ansC_nil {w w' : World} (h : Below w.heap.size w w') : AnsC w [] false (.returned (.tuple #[.slice none 0 0, .bool false])) w' :=
  ⟨_, rfl, owC_nil _ _ h.size, h⟩

set_option maxRecDepth 100000 in
set_option maxHeartbeats 1600000 in
theorem decodeCiphers_any {P : Nat} {w : World} {v : Value} {zs : List Int} (h : InI P w v zs) (hl : zs.length ≤ 1048576) :
    Calls Tryd.prog 30 #[v] w (AnsC w (dcL zs) (dcB zs)) := by
  obtain ⟨ad, cap, rfl⟩ := h.shape
  obtain ⟨hzl, hin, hnil⟩ := h.parts
  have hP := h.1
  generalize hm : zs.length = m at hzl hl h
  have HM := Lib.hid hm
  have HI := Lib.hid hin.ints
  have HIN := Lib.hid hin
  cases hr : hashB zs
  · have e1 : dcB zs = false := by rw [← Bool.not_eq_true, dcB_true]; intro h; rw [h.1] at hr; cases hr
    rw [e1, dcL_no e1]
    have HR := Lib.hid hr
    clear e1 hr h hin hm hzl
    go_enter Tryd.func30, Tryd.ntmps30
    go_wp2_with fail
    refine (isRecord_any _ _ _ zs HM.out (by omega) _ HI.out).mono ?_
    rw [HR.out]
    rintro e w' ⟨rfl, rfl⟩
    go_wp2
    go_ret2
    exact ansC_nil (Below.refl _ _)
  by_cases hpar : m % 2 = 1
  · cases zs with
    | nil => simp at hm; omega
    | cons x t =>
      have hmt : m = t.length + 1 := by simpa using hm.symm
      obtain ⟨n, hn⟩ : ∃ n, t.length = n * 2 := ⟨t.length / 2, by omega⟩
      have hdg := digsB_true.1 (hashB_true.1 hr).2
      have hm400 : m ≤ 400 := by have := (hashB_true.1 hr).1; omega
      obtain ⟨b, off, z, rfl, hbl, hc, hdr⟩ := hin.ints.at (k := 0) (by simp)
      obtain rfl : x = z := by simpa using (List.cons.inj hdr).1
      rw [Nat.add_zero] at hc
      obtain ⟨hx0, hx1⟩ := hdg x (by simp)
      have hpi : ((m : Int) % 2 == 0) = false := by rw [beq_eq_false_iff_ne]; omega
      have hdi : (m : Int) / 2 = n := by omega
      have hm0 : 0 < m := by omega
      have hmi : 0 ≤ (m : Int) ∧ (m : Int) ≤ 400 := by omega
      obtain ⟨hmi0, hmi1⟩ := hmi
      by_cases hx : x = (n : Int)
      · subst hx
        obtain ⟨i0, hi, hz0, hz1, hz2⟩ := info_parts Tryd.infoCC
        have e1 : dcB ((n : Int) :: t) = true := by
          rw [dcB_true]
          refine ⟨hr, by simp; omega, ?_⟩
          simp only [List.headD_cons, List.length_cons, hn]; omega
        have e2 : dcL ((n : Int) :: t) = t := by rw [dcL_yes e1]; rfl
        rw [e1, e2]
        have HR := Lib.hid hr
        have HN := Lib.hid hn
        have HMT := Lib.hid hmt
        have HZ2 := Lib.hid hz2
        have hxn : ((n : Int) != (m : Int) / 2) = false := by rw [hdi]; simp
        have hn200 : n ≤ 200 := by omega
        have hmn : m = n * 2 + 1 := by omega
        have HMN := Lib.hid hmn
        clear e1 e2 hr h hin hm hmt hzl hdg hdr hn hdi hz2 hmn
        go_enter Tryd.func30, Tryd.ntmps30
        go_wp2_with fail
        refine (isRecord_any _ _ _ _ HM.out (by omega) _ HI.out).mono ?_
        rw [HR.out]
        rintro e w' ⟨rfl, rfl⟩
        go_wp2_with (at_make; refine wpList_make_full _ rfl _ _ 54 rfl w.heap.size 98 i0 (.agg #[.int .i64 0, .int .i64 0]) 2 Tryd.underlying54 hi hz0 hz1 .i64 .i64 _ _ n rfl rfl rfl rfl (by rw [HZ2.out]; omega) (by unfold maxLen; omega) (Nat.le_refl _) ?_; intro w1 hown hgrow)
        go_loopw [5, 30] (fun _ K wr => ∃ k : Nat, k ≤ n ∧ K = .int .i64 k ∧ CipsOwn wr w.heap.size (.slice (some ⟨w.heap.size, 0, none⟩) n n) n (over t (List.replicate (n * 2) 0) (k * 2)) ∧ Below w.heap.size w wr) (fun _ K _ => n - (intOf K).toNat)
        case atStart =>
          refine ⟨0, Nat.zero_le _, rfl, ?_, (Below.refl _ _).grown hgrow (Nat.le_refl _) (by simp)⟩
          rw [show 0 * 2 = 0 from rfl, over_zero]
          have h := hown
          rw [show Value.cells (.agg #[.int .i64 0, .int .i64 0]) = #[.int .i64 0, .int .i64 0] from rfl, made_twoC] at h
          unfold CipsOwn
          rw [List.map_replicate]
          exact h
        case round =>
          obtain ⟨k, hk, rfl, hownr, hbel⟩ := hrel
          clear hown hgrow
          by_cases hkn : k < n
          · have HIr := (HIN.out.below (hbel.mono hP)).ints
            obtain ⟨b', off', p, hb', hbl', hc1, hd1⟩ := HIr.at (k := 1 + 2 * k) (by have := HM.out; have := HMN.out; omega)
            simp only [Option.some.injEq, Addr.mk.injEq, and_true] at hb'
            obtain ⟨rfl, rfl⟩ := hb'
            obtain ⟨b', off', q, hb', _, hc2, hd2⟩ := HIr.at (k := 2 + 2 * k) (by have := HM.out; have := HMN.out; omega)
            simp only [Option.some.injEq, Addr.mk.injEq, and_true] at hb'
            obtain ⟨rfl, rfl⟩ := hb'
            have hd : t.drop (k * 2) = p :: q :: t.drop ((k + 1) * 2) := by
              rw [show 1 + 2 * k = (k * 2) + 1 by omega, List.drop_succ_cons, List.drop_succ_cons] at hd1
              rw [show 2 + 2 * k = (k * 2 + 1) + 1 by omega, List.drop_succ_cons, List.drop_succ_cons] at hd2
              rw [hd1, hd2, show (k + 1) * 2 = k * 2 + 1 + 1 by omega]
            obtain ⟨o2, ⟨u1, c1⟩, c2, _, _, ⟨u5, c5⟩, c6⟩ := cset_two hownr hd HN.out (by simp) hkn
            have HO2 := Lib.hid o2
            have HB := Lib.hid hbel
            have hk0 : 0 ≤ (k : Int) ∧ (k : Int) ≤ 200 := by omega
            obtain ⟨hk0, hk1⟩ := hk0
            have w1' : IntKind.i64.wrap (2 * (k : Int)) = 2 * (k : Int) := IntWalk.i64_in _ (by omega)
            have w2' : IntKind.i64.wrap (1 + 2 * (k : Int)) = 1 + 2 * (k : Int) := IntWalk.i64_in _ (by omega)
            have w3' : IntKind.i64.wrap (2 + 2 * (k : Int)) = 2 + 2 * (k : Int) := IntWalk.i64_in _ (by omega)
            have t1 : (1 + 2 * (k : Int)).toNat = 1 + 2 * k := by omega
            have t2 : (2 + 2 * (k : Int)).toNat = 2 + 2 * k := by omega
            have g0 : 0 ≤ 1 + 2 * (k : Int) := by omega
            have g1 : 0 ≤ 2 + 2 * (k : Int) := by omega
            have g2 : 1 + 2 * (k : Int) < (m : Int) := by have := HMN.out; omega
            have g3 : 2 + 2 * (k : Int) < (m : Int) := by have := HMN.out; omega
            clear hownr hbel hd1 hd2 hd o2 HIr
            go_wp2
            go_region
            all_goals go_wp2
            clear w1' w2' w3' t1 t2
            go_roundw
            case rel => exact ⟨k + 1, by omega, by go_num, HO2.out, ((HB.out.setCell (Nat.le_refl _) _).setCell (Nat.le_refl _) _).drew⟩
            case measure => simp only [intOf]; omega
          · have HO := Lib.hid hownr
            have HB := Lib.hid hbel
            clear hownr hbel
            obtain rfl : k = n := by omega
            go_wp2
            go_ret2
            refine ⟨_, rfl, ?_, HB.out⟩
            have h := HO.out
            rw [over_all _ _ (by have := HN.out; omega) (by simp)] at h
            exact owC_mk h HB.out.size
      · have e1 : dcB (x :: t) = false := by
          rw [← Bool.not_eq_true, dcB_true]; intro h; apply hx
          have := h.2.2
          simp only [List.headD_cons, List.length_cons, hn] at this
          rw [this]; omega
        rw [e1, dcL_no e1]
        have HR := Lib.hid hr
        have hxn : (x != (m : Int) / 2) = true := by simp only [bne_iff_ne]; omega
        clear e1 hr h hin hm hmt hzl hdg hdr hx hn hdi
        go_enter Tryd.func30, Tryd.ntmps30
        go_wp2_with fail
        refine (isRecord_any _ _ _ _ HM.out (by omega) _ HI.out).mono ?_
        rw [HR.out]
        rintro e w' ⟨rfl, rfl⟩
        go_wp2
        go_ret2
        exact ansC_nil (Below.refl _ _)
  · have e1 : dcB zs = false := by rw [← Bool.not_eq_true, dcB_true]; intro h; exact hpar (by omega)
    rw [e1, dcL_no e1]
    have HR := Lib.hid hr
    have hpi : ((m : Int) % 2 == 0) = true := by rw [beq_iff_eq]; omega
    have hmi : 0 ≤ (m : Int) ∧ (m : Int) ≤ 1048576 := by omega
    obtain ⟨hmi0, hmi1⟩ := hmi
    clear e1 hr h hin hm hzl hpar
    go_enter Tryd.func30, Tryd.ntmps30
    go_wp2_with fail
    refine (isRecord_any _ _ _ zs HM.out (by omega) _ HI.out).mono ?_
    rw [HR.out]
    rintro e w' ⟨rfl, rfl⟩
    go_wp2
    go_ret2
    exact ansC_nil (Below.refl _ _)

/-- A pair in a block of its own is appended, within a region whose order is open. -/
theorem step_append_pair {P : Program} {w : World} {ops : Array Oper} {o : Oper} {a : Act} {K : Act → World → Prop} {Q : Exit → Act → World → Prop} {E : Prop} (hgd : o.guard = none) (s x : Operand) (t : TypeId)
    (ho : o.op = .call { callee := .builtin .append, args := #[s, x], argTypes := #[t, t] })
    (base : Nat) (e : TypeId) (i : TypeInfo) (ht : P.underlying t = some (.slice e)) (hi : P.info? e = some i) (hz : i.zero = some (.agg #[.int .i64 0, .int .i64 0]))
    (hsize : i.size = 2) (hby : i.bytes = 16)
    (v : Value) (n : Nat) (xs : List Int) (hs : a.eval s = v) (hown : w.ownsRow base e 2 v n (xs.map (Value.int .i64)))
    (g : Nat) (p q : Int) (hx : a.eval x = .slice (some ⟨g, 0, none⟩) 1 1) (h0 : w.cell? ⟨g, 0, none⟩ = some (.int .i64 p)) (h1 : w.cell? ⟨g, 1, none⟩ = some (.int .i64 q))
    (h63 : n ≤ 1000000) (hbase : base ≤ w.heap.size)
    (h : ∀ v' w', w'.ownsRow base e 2 v' (n + 1) ((xs ++ [p, q]).map (Value.int .i64)) → w.grownBy w' v.ownBlock → K (a.put o.dst v') w') :
    if Region.wanted o (yielded ops a.tmps) = true then Oper.wp P o a w K Q else E := by
  have hw : Region.wanted o (yielded ops a.tmps) = true := by simp [Region.wanted, hgd]
  rw [if_pos hw]
  refine wp_append_own w s x t ho base e i (.agg #[.int .i64 0, .int .i64 0]) 2 16 ht hi hz hsize hby rfl (by decide) v n (xs.map (Value.int .i64)) hs hown ⟨g, 0, none⟩ 1 1 [.int .i64 p, .int .i64 q] hx rfl ?_ ?_ (by unfold maxLen; omega) (by omega) hbase ?_
  · intro j u hj
    match j, hj with
    | 0, hj => simp at hj; subst hj; exact h0
    | 1, hj => simp at hj; subst hj; exact h1
    | n + 2, hj => simp at hj
  · intro u hu; simp at hu; rcases hu with rfl | rfl <;> rfl
  · intro v' w' k1 k2 _
    refine h v' w' ?_ k2
    rw [List.map_append]
    exact k1

/-! ### The reference -/
theorem dcB_len {zs : List Int} {x : Int} {t : List Int} (hz : zs = x :: t) (h : hashB zs = true) : dcB zs = decide ((zs.length : Int) = 1 + 2 * x) := by
  subst hz
  obtain ⟨h0, h1⟩ := digsB_true.1 (hashB_true.1 h).2 x (by simp)
  rw [Bool.eq_iff_iff, dcB_true, decide_eq_true_eq]
  simp only [List.headD_cons, h, true_and]
  constructor
  · rintro ⟨h2, h3⟩; omega
  · intro h2; constructor <;> omega

set_option maxRecDepth 100000 in
set_option maxHeartbeats 1600000 in
theorem cReadCiphers_any {P : Nat} {w : World} {v : Value} {zs : List Int} (h : InI P w v zs) (hl : zs.length ≤ 1048576) :
    Calls Tryd.prog 73 #[v] w (AnsC w (dcL zs) (dcB zs)) := by
  obtain ⟨ad, cap, rfl⟩ := h.shape
  obtain ⟨hzl, hin, hnil⟩ := h.parts
  have hP := h.1
  generalize hm : zs.length = m at hzl hl h
  have HM := Lib.hid hm
  have HI := Lib.hid hin.ints
  have HIN := Lib.hid hin
  cases hr : hashB zs
  · have e1 : dcB zs = false := by rw [← Bool.not_eq_true, dcB_true]; intro h; rw [h.1] at hr; cases hr
    rw [e1, dcL_no e1]
    have HR := Lib.hid hr
    clear e1 hr h hin hm hzl
    go_enter Tryd.func73, Tryd.ntmps73
    go_wp2_with fail
    refine (l4Record_any _ _ _ zs HM.out (by omega) _ HI.out).mono ?_
    rw [HR.out]
    rintro e w' ⟨rfl, rfl⟩
    go_wp2
    go_ret2
    exact ansC_nil (Below.refl _ _)
  cases zs with
  | nil =>
    rw [show dcB [] = false from by decide, show dcL [] = [] from rfl]
    have HR := Lib.hid hr
    obtain rfl : m = 0 := by simpa using hm.symm
    clear hr h hin hm hzl
    go_enter Tryd.func73, Tryd.ntmps73
    go_wp2_with fail
    refine (l4Record_any _ _ _ _ HM.out (by omega) _ HI.out).mono ?_
    rw [HR.out]
    rintro e w' ⟨rfl, rfl⟩
    go_wp2
    go_ret2
    exact ansC_nil (Below.refl _ _)
  | cons x t =>
    have hmt : m = t.length + 1 := by simpa using hm.symm
    have hdg := digsB_true.1 (hashB_true.1 hr).2
    have hm400 : m ≤ 400 := by have := (hashB_true.1 hr).1; omega
    obtain ⟨b, off, z, rfl, hbl, hc, hdr⟩ := hin.ints.at (k := 0) (by simp)
    obtain rfl : x = z := by simpa using (List.cons.inj hdr).1
    rw [Nat.add_zero] at hc
    obtain ⟨hx0, hx1⟩ := hdg x (by simp)
    have hm0 : 0 < m := by omega
    have ht1 : ((m : Int) == 0) = false := by rw [beq_eq_false_iff_ne]; omega
    have hdc := dcB_len rfl hr
    rw [hm] at hdc
    by_cases hx : (m : Int) = 1 + 2 * x
    · obtain ⟨n, rfl⟩ : ∃ n : Nat, x = n := ⟨x.toNat, by omega⟩
      have hn : t.length = n * 2 := by omega
      obtain ⟨i0, hi, hz0, hz1, hz2⟩ := info_parts Tryd.infoCC
      have e1 : dcB ((n : Int) :: t) = true := by rw [hdc]; exact decide_eq_true hx
      have e2 : dcL ((n : Int) :: t) = t := by rw [dcL_yes e1]; rfl
      rw [e1, e2]
      have HR := Lib.hid hr
      have HN := Lib.hid hn
      have HZ2 := Lib.hid hz2
      have hxn : ((m : Int) != 1 + 2 * (n : Int)) = false := by rw [hx]; simp
      have hn200 : n ≤ 200 := by omega
      have hmn : m = n * 2 + 1 := by omega
      have HMN := Lib.hid hmn
      clear e1 e2 hr h hin hm hmt hzl hdg hdr hn hmn hdc hx
      go_enter Tryd.func73, Tryd.ntmps73
      go_wp2_with fail
      refine (l4Record_any _ _ _ _ HM.out (by omega) _ HI.out).mono ?_
      rw [HR.out]
      rintro e w' ⟨rfl, rfl⟩
      go_wp2
      go_loopw [4, 5] (fun V K wr => ∃ (k : Nat) (va : Option Addr) (vc : Nat), k ≤ n ∧ K = .int .i64 (1 + 2 * (k : Int)) ∧ V = .slice va k vc ∧ CipsOwn wr w.heap.size (.slice va k vc) k (t.take (k * 2)) ∧ Below w.heap.size w wr) (fun _ K _ => n * 2 + 1 - (intOf K).toNat)
      case atStart => exact ⟨0, none, 0, Nat.zero_le _, rfl, rfl, World.ownsRow_nil _ _ _ _, Below.refl _ _⟩
      case round =>
        obtain ⟨k, va, vc, hk, rfl, rfl, hownr, hbel⟩ := hrel
        have hk0 : 0 ≤ (k : Int) ∧ (k : Int) ≤ 200 := by omega
        obtain ⟨hk0, hk1⟩ := hk0
        by_cases hkn : k < n
        · have HIr := (HIN.out.below (hbel.mono hP)).ints
          obtain ⟨b', off', p, hb', hbl', hc1, hd1⟩ := HIr.at (k := 1 + 2 * k) (by have := HM.out; have := HMN.out; omega)
          simp only [Option.some.injEq, Addr.mk.injEq, and_true] at hb'
          obtain ⟨rfl, rfl⟩ := hb'
          obtain ⟨b', off', q, hb', _, hc2, hd2⟩ := HIr.at (k := 1 + 2 * k + 1) (by have := HM.out; have := HMN.out; omega)
          simp only [Option.some.injEq, Addr.mk.injEq, and_true] at hb'
          obtain ⟨rfl, rfl⟩ := hb'
          have hd : t.drop (k * 2) = p :: q :: t.drop ((k + 1) * 2) := by
            rw [show 1 + 2 * k = (k * 2) + 1 by omega, List.drop_succ_cons, List.drop_succ_cons] at hd1
            rw [show 1 + 2 * k + 1 = (k * 2 + 1) + 1 by omega, List.drop_succ_cons, List.drop_succ_cons] at hd2
            rw [hd1, hd2, show (k + 1) * 2 = k * 2 + 1 + 1 by omega]
          have HT := Lib.hid (take_two hd)
          have HO := Lib.hid hownr
          have HB := Lib.hid hbel
          have w2' : IntKind.i64.wrap (1 + 2 * (k : Int) + 1) = 1 + 2 * (k : Int) + 1 := IntWalk.i64_in _ (by omega)
          have t1 : (1 + 2 * (k : Int)).toNat = 1 + 2 * k := by omega
          have t2 : (1 + 2 * (k : Int) + 1).toNat = 1 + 2 * k + 1 := by omega
          have g0 : 0 ≤ 1 + 2 * (k : Int) := by omega
          have g1 : 0 ≤ 1 + 2 * (k : Int) + 1 := by omega
          have g2 : 1 + 2 * (k : Int) < (m : Int) := by have := HMN.out; omega
          have g3 : 1 + 2 * (k : Int) + 1 < (m : Int) := by have := HMN.out; omega
          clear hownr hbel hd1 hd2 hd HIr
          go_wp2
          have hal := ba wr (.cells #[.int .i64 p, .int .i64 q] 98)
          have HOa := Lib.hid (show World.ownsRow (wr.alloc (.cells #[.int .i64 p, .int .i64 q] 98)).drew w.heap.size 98 2 (.slice va k vc) k ((t.take (k * 2)).map (Value.int .i64)) from own_below HO.out hal.drew)
          have HA0 := Lib.hid (show (wr.alloc (.cells #[.int .i64 p, .int .i64 q] 98)).drew.cell? ⟨wr.heap.size, 0, none⟩ = some (.int .i64 p) from (by show (wr.alloc _).cell? _ = _; rw [World.cell?_alloc_at _ _ _ _ rfl]; rfl))
          have HA1 := Lib.hid (show (wr.alloc (.cells #[.int .i64 p, .int .i64 q] 98)).drew.cell? ⟨wr.heap.size, 1, none⟩ = some (.int .i64 q) from (by show (wr.alloc _).cell? _ = _; rw [World.cell?_alloc_at _ _ _ _ rfl]; rfl))
          have HBa := Lib.hid (show Below w.heap.size w (wr.alloc (.cells #[.int .i64 p, .int .i64 q] 98)).drew from HB.out.trans (hal.drew.mono HB.out.size))
          have HBr := Lib.hid (show Below w.heap.size wr (wr.alloc (.cells #[.int .i64 p, .int .i64 q] 98)).drew from hal.drew.mono HB.out.size)
          have x0 := (hal.drew.cell (p := ⟨b, off + (1 + 2 * k), none⟩) hbl').trans hc1
          have x1 := (hal.drew.cell (p := ⟨b, off + (1 + 2 * k + 1), none⟩) hbl').trans hc2
          clear hal
          go_region_held3 (fun w' => w'.cell? ⟨b, off + (1 + 2 * k), none⟩ = some (.int .i64 p) ∧ w'.cell? ⟨b, off + (1 + 2 * k + 1), none⟩ = some (.int .i64 q)) (first | exact ⟨hc1, hc2⟩ | exact ⟨x0, x1⟩ | exact ⟨y0, y1⟩) ((first
            | ((refine step_append_pair (by rfl) (.tmp 30) (.tmp 41) _ (by rfl) w.heap.size 98 i0 Tryd.underlying54 hi hz0 hz1 hz2 _ k (t.take (k * 2)) (by rfl) HOa.out wr.heap.size p q (by rfl) HA0.out HA1.out (by omega) (by with_reducible exact HBa.out.size) ?_); intro v' w2 hown' hgrow; obtain ⟨va', vc', rfl⟩ := own_shape hown'; have HO1 := Lib.hid hown'; have HB2 := Lib.hid (HBr.out.grown hgrow HBa.out.size (fun q hq => (HOa.out.lt q hq).1)); have y0 := (HB2.out.cell (p := ⟨b, off + (1 + 2 * k), none⟩) hbl).trans hc1; have y1 := (HB2.out.cell (p := ⟨b, off + (1 + 2 * k + 1), none⟩) hbl).trans hc2; clear hown' hgrow)))
          all_goals (
            clear w2' t1 t2
            go_wp2
            go_roundw
            case rel => exact ⟨k + 1, va', vc', by omega, by congr 1 <;> omega, rfl, by unfold CipsOwn; rw [HT.out]; exact HO1.out, HB.out.trans HB2.out⟩
            case measure => simp only [intOf]; omega)
        · have HO := Lib.hid hownr
          have HB := Lib.hid hbel
          have HK := Lib.hid (show ¬ (1 + 2 * (k : Int) < (m : Int)) by have := HMN.out; omega)
          have g2 : (m : Int) ≤ 1 + 2 * (k : Int) := by have := HK.out; omega
          obtain rfl : k = n := by omega
          clear hownr hbel
          go_wp2
          go_ret2
          refine ⟨_, rfl, ?_, HB.out⟩
          have h := HO.out
          rw [List.take_of_length_le (by have := HN.out; omega)] at h
          exact owC_mk h HB.out.size
    · have e1 : dcB (x :: t) = false := by rw [hdc]; exact decide_eq_false hx
      rw [e1, dcL_no e1]
      have HR := Lib.hid hr
      have hxn : ((m : Int) != 1 + 2 * x) = true := by simp only [bne_iff_ne]; exact hx
      clear e1 hr h hin hm hmt hzl hdg hdr hx hdc
      go_enter Tryd.func73, Tryd.ntmps73
      go_wp2_with fail
      refine (l4Record_any _ _ _ _ HM.out (by omega) _ HI.out).mono ?_
      rw [HR.out]
      rintro e w' ⟨rfl, rfl⟩
      go_wp2
      go_ret2
      exact ansC_nil (Below.refl _ _)

theorem sDecodeCiphers_any {P : Nat} {w : World} {v : Value} {zs : List Int} (h : InI P w v zs) (hl : zs.length ≤ 1048576) :
    Calls Tryd.prog 31 #[v] w (AnsC w (dcL zs) (dcB zs)) := by
  obtain ⟨ad, cap, rfl⟩ := h.shape
  have H := Lib.hid h
  clear h
  go_enter Tryd.func31, Tryd.ntmps31
  go_wp2_with fail
  refine (cReadCiphers_any H.out hl).mono ?_
  rintro e w1 ⟨v1, rfl, ho, hb⟩
  have HO := Lib.hid ho
  have HB := Lib.hid hb
  clear ho hb
  go_wp2
  go_ret2
  exact ⟨_, rfl, HO.out, HB.out⟩

end Go.Proofs.YtmiohdibbpckaaaDoor

