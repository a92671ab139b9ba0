/- DeriveElement of the program and of the reference. -/
import Derived.Test.YtmiohdibbpckaaaDoorHshD
import Derived.Test.YtmiohdibbpckaaaDoorG3
namespace Go.Proofs.YtmiohdibbpckaaaDoor
open Go.RowKit

/-! ### The plain facts -/
def dX (P Q G : Int) (s : ByteArray) (k c : Int) : Int := 1 + hlab s [P, Q, G, k, c] % (P - 1)
def dY (P Q G : Int) (s : ByteArray) (k c : Int) : Int := Num.pow (dX P Q G s k c) ((P - 1) / Q) P
/-- The search from c on. -/
def derS (P Q G : Int) (s : ByteArray) (k : Int) : Nat → Nat → Int
  | 0, _ => 0
  | f + 1, c => if dY P Q G s k c = 1 then derS P Q G s k f (c + 1) else dY P Q G s k c
def derV (P Q G : Int) (s : ByteArray) (k : Int) : Int := derS P Q G s k 1000 0
theorem derS_go {P Q G : Int} {s : ByteArray} {k t : Int} {c : Nat} (hc : c < 1000) (h : t = derS P Q G s k (1000 - c) c) :
    (dY P Q G s k c = 1 → t = derS P Q G s k (1000 - (c + 1)) (c + 1)) ∧ (dY P Q G s k c ≠ 1 → t = dY P Q G s k c) := by
  rw [show 1000 - c = (1000 - (c + 1)) + 1 by omega] at h
  unfold derS at h
  refine ⟨fun h1 => ?_, fun h1 => ?_⟩
  · rw [h, if_pos h1]
  · rw [h, if_neg h1]
theorem hlab_nn (s : ByteArray) (zs : List Int) : 0 ≤ hlab s zs ∧ hlab s zs ≤ 4611686018427387903 := hdig_bd _
theorem dX_bd {P Q G : Int} {s : ByteArray} {k c : Int} (h1 : 2 ≤ P) : 1 ≤ dX P Q G s k c ∧ dX P Q G s k c ≤ P - 1 := by
  unfold dX
  have h2 := Int.emod_nonneg (hlab s [P, Q, G, k, c]) (show P - 1 ≠ 0 by omega)
  have h3 := Int.emod_lt_of_pos (hlab s [P, Q, G, k, c]) (show 0 < P - 1 by omega)
  omega
theorem dY_pos {P Q G : Int} (hg : goodB P Q G = true) (s : ByteArray) (k c : Int) : 0 < dY P Q G s k c := by
  have hb := dX_bd (P := P) (Q := Q) (G := G) (s := s) (k := k) (c := c) (by have := goodB_true.1 hg; omega)
  unfold dY
  generalize dX P Q G s k c = x at hb
  obtain ⟨p, q, g, rfl, rfl, rfl, hp, hq, hd, _, _, _, _, _, _⟩ := good_nat hg
  have hp1 : 1 < p := hp.1
  have hq1 : 1 < q := hq.1
  obtain ⟨n, rfl⟩ := Int.eq_ofNat_of_zero_le (show 0 ≤ x by omega)
  rw [show ((p : Int) - 1) / (q : Int) = (((p - 1) / q : Nat) : Int) by rw [show (p : Int) - 1 = ((p - 1 : Nat) : Int) by omega]; exact (Int.natCast_ediv _ _).symm, Num.pow_eq hp1]
  have h1 := Num.proj_el hp hd (show 1 ≤ n by omega) (show n < p by omega)
  have h2 := Num.el_pos (x := n ^ ((p - 1) / q) % p) hp1 (by omega) h1
  rw [Nat.mod_mod] at h2
  omega
theorem derS_nn {P Q G : Int} (hg : goodB P Q G = true) (s : ByteArray) (k : Int) : ∀ f c, 0 ≤ derS P Q G s k f c
  | 0, _ => Int.le_refl _
  | f + 1, c => by
    unfold derS
    split
    · exact derS_nn hg s k f (c + 1)
    · exact Int.le_of_lt (dY_pos hg s k c)
/-- What DeriveElement asks, and what it answers. -/
def deB (P Q G : Int) (s : ByteArray) : Bool := goodB P Q G && decide ((s.size : Int) ≤ 40)
def deOk (P Q G : Int) (s : ByteArray) (k : Int) : Bool := deB P Q G s && digB k && decide (0 < derV P Q G s k)
def deV (P Q G : Int) (s : ByteArray) (k : Int) : Int := if deB P Q G s && digB k then derV P Q G s k else 0
theorem deB_ch (P Q G : Int) (s : ByteArray) : chB P Q G s [] (3 + 2) = deB P Q G s := by
  rw [Bool.eq_iff_iff, chB_true]
  unfold deB
  rw [Bool.and_eq_true, decide_eq_true_eq, labB_true]
  simp [digsB]
  omega

/-! ### The program -/
def DerPost (w : World) (t : Int) (e : Ending) (w' : World) : Prop := e = .returned (.tuple #[.int .i64 t, .bool (decide (0 < t))]) ∧ Below w.heap.size w w'

/-- A group and a state, each in its block. -/
def GH (w : World) (b : Nat) (P Q G : Int) (d : Nat) (X Y : Int) : Prop := w.cell? ⟨b, 0, none⟩ = some (.int .i64 P) ∧ w.cell? ⟨b, 1, none⟩ = some (.int .i64 Q) ∧ w.cell? ⟨b, 2, none⟩ = some (.int .i64 G) ∧ w.cell? ⟨d, 0, none⟩ = some (.int .i64 X) ∧ w.cell? ⟨d, 1, none⟩ = some (.int .i64 Y)
theorem gh_mk {w : World} {b d : Nat} {P Q G X Y : Int} (h : GR w b P Q G) (k : HS w d X Y) : GH w b P Q G d X Y := ⟨h.1, h.2.1, h.2.2, k.1, k.2.1⟩
theorem gh_in {w : World} {b d : Nat} {P Q G X Y : Int} (h : GH w b P Q G d X Y) : w.cell? ⟨b, 0, none⟩ = some (.int .i64 P) ∧ w.cell? ⟨b, 1, none⟩ = some (.int .i64 Q) ∧ w.cell? ⟨b, 2, none⟩ = some (.int .i64 G) ∧ w.cell? ⟨d, 0, none⟩ = some (.int .i64 X) ∧ w.cell? ⟨d, 1, none⟩ = some (.int .i64 Y) := h
theorem GH.below {w w' : World} {b d : Nat} {P Q G X Y : Int} (h : GH w b P Q G d X Y) (hb : Below w.heap.size w w') : GH w' b P Q G d X Y := by
  obtain ⟨c0, c1, c2, d0, d1⟩ := h
  have hl : b < w.heap.size := World.block_lt_of_cell? w _ c0
  have hm : d < w.heap.size := World.block_lt_of_cell? w _ d0
  exact ⟨(hb.cell (p := ⟨b, 0, none⟩) hl).trans c0, (hb.cell (p := ⟨b, 1, none⟩) hl).trans c1, (hb.cell (p := ⟨b, 2, none⟩) hl).trans c2, (hb.cell (p := ⟨d, 0, none⟩) hm).trans d0, (hb.cell (p := ⟨d, 1, none⟩) hm).trans d1⟩
theorem GH.drew {w : World} {b d : Nat} {P Q G X Y : Int} (h : GH w b P Q G d X Y) : GH w.drew b P Q G d X Y := h
theorem gh_alcd {w : World} {b d : Nat} {P Q G X Y : Int} (h : GH w b P Q G d X Y) (o : Obj) : (w.alloc o).drew.cell? ⟨b, 0, none⟩ = some (.int .i64 P) ∧ (w.alloc o).drew.cell? ⟨b, 1, none⟩ = some (.int .i64 Q) ∧ (w.alloc o).drew.cell? ⟨b, 2, none⟩ = some (.int .i64 G) ∧ (w.alloc o).drew.cell? ⟨d, 0, none⟩ = some (.int .i64 X) ∧ (w.alloc o).drew.cell? ⟨d, 1, none⟩ = some (.int .i64 Y) := GH.drew (h.below (ba w o))

end Go.Proofs.YtmiohdibbpckaaaDoor

/- DeriveElement: the reference's search, and both functions. -/
namespace Go.Proofs.YtmiohdibbpckaaaDoor
open Go.RowKit

def IntPost (w : World) (t : Int) (e : Ending) (w' : World) : Prop := e = .returned (.int .i64 t) ∧ Below w.heap.size w w'

theorem deB_true {P Q G : Int} {s : ByteArray} : deB P Q G s = true ↔ goodB P Q G = true ∧ (s.size : Int) ≤ 40 := by simp [deB]

end Go.Proofs.YtmiohdibbpckaaaDoor

/- DeriveElements of the program and of the reference. -/
namespace Go.Proofs.YtmiohdibbpckaaaDoor
open Go.RowKit

/-! ### The plain facts -/
def dsL (P Q G : Int) (s : ByteArray) (m : Nat) : List Int := (List.range m).map fun (k : Nat) => derV P Q G s k
theorem dsL_length (P Q G : Int) (s : ByteArray) (m : Nat) : (dsL P Q G s m).length = m := by simp [dsL]
theorem dsL_drop {P Q G : Int} {s : ByteArray} {m k : Nat} (h : k < m) : (dsL P Q G s m).drop k = derV P Q G s k :: (dsL P Q G s m).drop (k + 1) := by
  rw [List.drop_eq_getElem_cons (by rw [dsL_length]; exact h)]
  congr 1
  simp [dsL]
theorem dsL_take {P Q G : Int} {s : ByteArray} {m k : Nat} (h : k < m) : (dsL P Q G s m).take (k + 1) = (dsL P Q G s m).take k ++ [derV P Q G s k] := by
  rw [List.take_succ_eq_append_getElem (by rw [dsL_length]; exact h)]
  congr 2
  simp [dsL]
def dsAll (P Q G : Int) (s : ByteArray) (m : Nat) : Bool := (List.range m).all fun (k : Nat) => decide (0 < derV P Q G s k)
theorem dsAll_true {P Q G : Int} {s : ByteArray} {m : Nat} : dsAll P Q G s m = true ↔ ∀ k, k < m → 0 < derV P Q G s k := by
  unfold dsAll
  rw [List.all_eq_true]
  constructor
  · intro h k hk
    have := h k (List.mem_range.2 hk)
    simpa using this
  · intro h k hk
    simpa using h k (List.mem_range.1 hk)
def dsOk (P Q G : Int) (s : ByteArray) (n : Int) : Bool := deB P Q G s && inB n 0 100 && dsAll P Q G s n.toNat
def dsV (P Q G : Int) (s : ByteArray) (n : Int) : List Int := if dsOk P Q G s n then dsL P Q G s n.toNat else []
theorem dsV_length {P Q G : Int} {s : ByteArray} {n : Int} : (dsV P Q G s n).length ≤ 100 := by
  unfold dsV
  split
  · rename_i h
    unfold dsOk at h
    rw [Bool.and_eq_true, Bool.and_eq_true, inB_true] at h
    rw [dsL_length]; omega
  · simp
theorem ds_off {P Q G : Int} {s : ByteArray} {n : Int} (h : dsOk P Q G s n = false) : dsV P Q G s n = [] := by simp [dsV, h]
theorem ds_bad {P Q G : Int} {s : ByteArray} {m k : Nat} (hk : k < m) (h : ¬ 0 < derV P Q G s k) : dsOk P Q G s m = false := by
  unfold dsOk
  have : dsAll P Q G s (m : Int).toNat = false := by
    rw [← Bool.not_eq_true, Int.toNat_natCast, dsAll_true]
    exact fun h' => h (h' k hk)
  rw [this, Bool.and_false]
theorem ds_good {P Q G : Int} {s : ByteArray} {m : Nat} (hd : deB P Q G s = true) (hm : m ≤ 100) (h : ∀ k, k < m → 0 < derV P Q G s k) : dsOk P Q G s m = true ∧ dsV P Q G s m = dsL P Q G s m := by
  have h1 : dsOk P Q G s m = true := by
    unfold dsOk
    rw [hd, inB_true.2 (by omega), Int.toNat_natCast, dsAll_true.2 h]; rfl
  exact ⟨h1, by simp [dsV, h1]⟩
theorem pos_step {P Q G : Int} {s : ByteArray} {k : Nat} (h : ∀ j, j < k → 0 < derV P Q G s j) (h1 : 0 < derV P Q G s k) : ∀ j, j < k + 1 → 0 < derV P Q G s j := fun j hj => by
  rcases Nat.lt_or_eq_of_le (Nat.le_of_lt_succ hj) with h2 | rfl
  · exact h j h2
  · exact h1

/-! ### The program -/
/-! ### The reference -/
end Go.Proofs.YtmiohdibbpckaaaDoor

/- Challenges of the program and of the reference. -/
namespace Go.Proofs.YtmiohdibbpckaaaDoor
open Go.RowKit

/-! ### The plain facts -/
def chL (P Q G : Int) (s : ByteArray) (zs : List Int) (m : Nat) : List Int := (List.range m).map fun (k : Nat) => chX P Q G s (zs ++ [(k : Int)])
theorem chL_length (P Q G : Int) (s : ByteArray) (zs : List Int) (m : Nat) : (chL P Q G s zs m).length = m := by simp [chL]
theorem chL_drop {P Q G : Int} {s : ByteArray} {zs : List Int} {m k : Nat} (h : k < m) : (chL P Q G s zs m).drop k = chX P Q G s (zs ++ [(k : Int)]) :: (chL P Q G s zs m).drop (k + 1) := by
  rw [List.drop_eq_getElem_cons (by rw [chL_length]; exact h)]
  congr 1
  simp [chL]
theorem chL_take {P Q G : Int} {s : ByteArray} {zs : List Int} {m k : Nat} (h : k < m) : (chL P Q G s zs m).take (k + 1) = (chL P Q G s zs m).take k ++ [chX P Q G s (zs ++ [(k : Int)])] := by
  rw [List.take_succ_eq_append_getElem (by rw [chL_length]; exact h)]
  congr 2
  simp [chL]
def csOk (P Q G : Int) (s : ByteArray) (zs : List Int) (n : Int) : Bool := chB P Q G s zs 4 && inB n 0 100
def csV (P Q G : Int) (s : ByteArray) (zs : List Int) (n : Int) : List Int := if csOk P Q G s zs n then chL P Q G s zs n.toNat else []
theorem cs_off {P Q G : Int} {s : ByteArray} {zs : List Int} {n : Int} (h : csOk P Q G s zs n = false) : csV P Q G s zs n = [] := by simp [csV, h]
theorem csV_length {P Q G : Int} {s : ByteArray} {zs : List Int} {n : Int} : (csV P Q G s zs n).length ≤ 100 := by
  unfold csV
  split
  · rename_i h
    unfold csOk at h
    rw [Bool.and_eq_true, inB_true] at h
    rw [chL_length]; omega
  · simp
theorem chX_state (P Q G : Int) (s : ByteArray) (zs : List Int) (c : Int) : chX P Q G s (zs ++ [c]) =
    (2147483648 * hab 48271 (hfold 48271 (gst 48271 1 P Q G s (zs.length + 1)) zs) c + hab 69621 (hfold 69621 (gst 69621 2 P Q G s (zs.length + 1)) zs) c) % Q := by
  unfold chX
  have h := hlab_gst P Q G s (zs ++ [c])
  rw [show ((zs ++ [c]).length : Int) = zs.length + 1 by simp, hfold_append, hfold_append] at h
  rw [h]; rfl

/-! ### The reference -/
set_option maxRecDepth 100000 in
set_option maxHeartbeats 6400000 in
theorem hChallenges_any (P Q G : Int) (hP : 0 ≤ P ∧ P ≤ 2000000000) (hQ : 2 ≤ Q ∧ Q ≤ 2000000000) (hG : 0 ≤ G ∧ G ≤ 2000000000) (s : ByteArray) (hs : s.size ≤ 1000000) (ad : Option Addr) (n cap : Nat) (zs : List Int) (hn : zs.length = n) (hl : n ≤ 1000000) (hnil : ad = none → cap = 0) (hd : ∀ z ∈ zs, 0 ≤ z ∧ z ≤ 4611686018427387903) (m : Nat) (hm : m ≤ 100) (w : World) (hz : IsInts w ad zs) :
    Calls Tryd.prog 58 #[gv P Q G, .string s, .slice ad n cap, .int .i64 m] w (OwnOut w (chL P Q G s zs m)) := by
  obtain ⟨i0, hi, hz0, hz1, hz2⟩ := info_parts Tryd.info3
  have hal := ba w (.cells #[.int .i64 P, .int .i64 Q, .int .i64 G] 32)
  have HN := Lib.hid hn
  have HNIL := Lib.hid hnil
  have HD := Lib.hid hd
  have HV := Lib.hid (gr_new w P Q G 32)
  have HZ := Lib.hid (hz.below hal (Nat.le_refl _))
  have HB := Lib.hid hal
  have hzl : ∀ a, ad = some a → zs ≠ [] → a.block < w.heap.size := fun a ha h0 => by
    rcases hz with h | ⟨b, off, rfl, hb, _⟩
    · exact absurd h h0
    · cases ha; exact hb
  have HS1 := Lib.hid (show (w.alloc (.cells #[.int .i64 P, .int .i64 Q, .int .i64 G] 32)).heap.size = w.heap.size + 1 by simp)
  clear hn hnil hd hal hzl
  go_enter Tryd.func58, Tryd.ntmps58
  go_wp2
  go_loopw [9, 10] (fun V K wr => ∃ (k : Nat) (va : Option Addr) (vc : Nat), k ≤ m ∧ K = .int .i64 k ∧ V = .slice va k vc ∧ GR wr w.heap.size P Q G ∧ wr.ownsRow (w.heap.size + 1) 3 1 (.slice va k vc) k (((chL P Q G s zs m).take k).map (Value.int .i64)) ∧ Below w.heap.size w wr) (fun _ K _ => m - (intOf K).toNat)
  case atStart => exact ⟨0, none, 0, Nat.zero_le _, rfl, rfl, HV.out, World.ownsRow_nil _ _ _ _, HB.out⟩
  case round =>
    obtain ⟨k, va, vc, hk, rfl, rfl, hgr, hown, hbel⟩ := hrel
    have HGr := Lib.hid hgr
    have HO := Lib.hid hown
    have HBr := Lib.hid hbel
    have HZr := Lib.hid (hz.below hbel (Nat.le_refl _))
    have hwr : w.heap.size < wr.heap.size := hgr.lt
    clear hown hbel
    by_cases hkm : k < m
    · have hki : (k : Int) < (m : Int) := by omega
      have HDK := Lib.hid (show ∀ z ∈ zs ++ [(k : Int)], 0 ≤ z ∧ z ≤ 4611686018427387903 from by
        intro z hzm
        rcases List.mem_append.1 hzm with h | h
        · exact HD.out z h
        · simp only [List.mem_cons, List.not_mem_nil, or_false] at h
          omega)
      have HT := Lib.hid (chL_take (P := P) (Q := Q) (G := G) (s := s) (zs := zs) hkm)
      have hnl : zs.length ≤ 1000000 := by have := HN.out; omega
      obtain ⟨c0, c1, c2⟩ := hgr
      go_wp2_with fail
      go_region_held3 (fun w' => w'.cell? ⟨w.heap.size, 0, none⟩ = some (.int .i64 P) ∧ w'.cell? ⟨w.heap.size, 1, none⟩ = some (.int .i64 Q) ∧ w'.cell? ⟨w.heap.size, 2, none⟩ = some (.int .i64 G)) (first | with_reducible exact ⟨x0, x1, x2⟩ | with_reducible exact gr_alc HGa.out _ | with_reducible exact ⟨y0, y1, y2⟩ | with_reducible exact gr_alc HGc.out _ | with_reducible exact ⟨z0, z1, z2⟩ | with_reducible exact ⟨u0, u1, u2⟩ | with_reducible exact gr_alcd HGr.out _ | exact ⟨c0, c1, c2⟩) ((first
        | (go_at_call 94; refine (l1Own_any ad n cap zs HN.out (by omega) HNIL.out _ (by first | (with_reducible exact ints_drew HZr.out) | exact ints_drew (HZr.out.below (ba _ _) (Nat.le_refl _)))).mono ?_; rintro e wa ⟨ga, gc, rfl, howa, hba⟩; first | (have hbr : Below wr.drew.heap.size wr.drew wa := (by with_reducible exact hba); have HBa := Lib.hid (show Below wr.heap.size wr wa from bt ((Below.refl _ _).drew) hba); have HOa := Lib.hid (own_base (base' := wr.heap.size) howa (Nat.le_refl _)); have HGa := Lib.hid (HGr.out.below HBa.out); obtain ⟨x0, x1, x2⟩ := HGa.out; clear hbr hba howa) | (have hala := ba wr (.cells #[.int .i64 (k : Int)] 3); have HBa := Lib.hid (show Below wr.heap.size wr wa from bt hala.drew hba); have HOa := Lib.hid (own_base (base' := wr.heap.size) howa hala.drew.size); have HGa := Lib.hid (HGr.out.below HBa.out); have HLa := Lib.hid (IsInts.below (ints_drew (ints_spot wr _ rfl [(k : Int)] 3)) hba (Nat.le_refl _)); obtain ⟨x0, x1, x2⟩ := HGa.out; clear hala hba howa))
        | (have HLx := HLa; refine step_append_ints (by rfl) (.tmp 20) (.tmp 22) _ (by rfl) wr.heap.size 3 i0 Tryd.underlying24 hi hz0 hz1 hz2 _ zs.length zs (by rfl) HOa.out (some ⟨wr.heap.size, 0, none⟩) 1 1 [(k : Int)] (by rfl) rfl HLa.out (fun h => by cases h) (by omega) HBa.out.size ?_; intro v' wb hownb hgrowb; obtain ⟨vb, cb, rfl⟩ := own_shape hownb; have HOb := Lib.hid hownb; have HBb := Lib.hid (HBa.out.grown hgrowb HBa.out.size (fun q hq => (HOa.out.lt q hq).1)); have HGb := Lib.hid (HGr.out.below HBb.out); obtain ⟨y0, y1, y2⟩ := HGb.out; clear hownb hgrowb)
        | (refine step_append_ints (by rfl) (.tmp 20) (.tmp 22) _ (by rfl) wr.heap.size 3 i0 Tryd.underlying24 hi hz0 hz1 hz2 _ zs.length zs (by rfl) (HOa.out.alloc _) (some ⟨wa.heap.size, 0, none⟩) 1 1 [(k : Int)] (by rfl) rfl (ints_spot wa _ rfl [(k : Int)] 3) (fun h => by cases h) (by omega) (Nat.le_trans HBa.out.size (ba _ _).size) ?_; intro v' wb hownb hgrowb; obtain ⟨vb, cb, rfl⟩ := own_shape hownb; have HOb := Lib.hid hownb; have halb := ba wa (.cells #[.int .i64 (k : Int)] 3); have HBb := Lib.hid ((bt HBa.out (halb.mono (Nat.le_refl _))).grown hgrowb (bt HBa.out halb).size (fun q hq => (HOa.out.lt q hq).1)); have HGb := Lib.hid (HGr.out.below HBb.out); obtain ⟨y0, y1, y2⟩ := HGb.out; clear hownb hgrowb halb)
        | (go_at_call 93; refine (hChallenge_any P Q G hP hQ hG s hs vb (zs.length + 1) cb (zs ++ [(k : Int)]) (by simp) (by omega) (own_ints HOb.out).2.2 HDK.out _ (own_ints HOb.out).1).mono ?_; rintro e wc ⟨rfl, hbc⟩; have HBc := Lib.hid (show Below wr.heap.size wr wc from bt HBb.out hbc); have HGc := Lib.hid (HGr.out.below HBc.out); have HOc := Lib.hid (own_below HO.out HBc.out); obtain ⟨z0, z1, z2⟩ := HGc.out; clear hbc)
        | (refine step_append_ints (by rfl) (.tmp 16) (.tmp 25) _ (by rfl) (w.heap.size + 1) 3 i0 Tryd.underlying24 hi hz0 hz1 hz2 _ k ((chL P Q G s zs m).take k) (by rfl) (HOc.out.alloc _) (some ⟨wc.heap.size, 0, none⟩) 1 1 [chX P Q G s (zs ++ [(k : Int)])] (by rfl) rfl (ints_spot wc _ rfl [chX P Q G s (zs ++ [(k : Int)])] 3) (fun h => by cases h) (by omega) (Nat.le_trans (Nat.succ_le_of_lt hwr) (bt HBc.out (ba _ _)).size) ?_; intro v'' wd hownd hgrowd; obtain ⟨vd, cd, rfl⟩ := own_shape hownd; have HOd := Lib.hid hownd; have hald := ba wc (.cells #[.int .i64 (chX P Q G s (zs ++ [(k : Int)]))] 3); have HGd := Lib.hid (gr_grown (HGc.out.below hald) hgrowd (fun e => by have h := (HOc.out.lt _ e.symm).1; omega)); have HBd := Lib.hid ((HBr.out.trans ((bt HBc.out hald).mono HBr.out.size)).grown hgrowd (Nat.le_trans HBr.out.size (bt HBc.out hald).size) (fun q hq => Nat.le_trans (Nat.le_succ _) (HOc.out.lt q hq).1)); obtain ⟨u0, u1, u2⟩ := HGd.out; clear hownd hgrowd hald)))
      all_goals (
        clear c0 c1 c2
        go_wp2
        go_roundw
        case rel => exact ⟨k + 1, vd, cd, by omega, by go_num, rfl, HGd.out, by rw [HT.out]; simpa using HOd.out, HBd.out⟩
        case measure => simp only [intOf]; omega)
    · have hki : (m : Int) ≤ (k : Int) := by omega
      obtain rfl : k = m := by omega
      clear hgr
      go_wp2
      go_ret
      have h3 := HO.out
      have hfl : (chL P Q G s zs k).length = k := chL_length _ _ _ _ _ _
      rw [List.take_of_length_le (by rw [hfl]; exact Nat.le_refl _)] at h3
      refine ⟨va, vc, ?_, ?_, HBr.out⟩
      · rw [hfl]; rfl
      · rw [hfl]; exact own_base h3 (Nat.le_succ _)

end Go.Proofs.YtmiohdibbpckaaaDoor

/- Challenges: both functions. -/
namespace Go.Proofs.YtmiohdibbpckaaaDoor
open Go.RowKit

theorem gh_sets {w : World} {b d : Nat} {P Q G X Y : Int} (h : GH w b P Q G d X Y) (a : Addr) (v : Value) (h1 : a.block ≠ b) (h2 : a.block ≠ d) :
    (w.setCell a v).cell? ⟨b, 0, none⟩ = some (.int .i64 P) ∧ (w.setCell a v).cell? ⟨b, 1, none⟩ = some (.int .i64 Q) ∧ (w.setCell a v).cell? ⟨b, 2, none⟩ = some (.int .i64 G) ∧ (w.setCell a v).cell? ⟨d, 0, none⟩ = some (.int .i64 X) ∧ (w.setCell a v).cell? ⟨d, 1, none⟩ = some (.int .i64 Y) := by
  obtain ⟨c0, c1, c2, d0, d1⟩ := h
  have nb : ∀ j, a ≠ (⟨b, j, none⟩ : Addr) := fun j e => h1 (by rw [e])
  have nd : ∀ j, a ≠ (⟨d, j, none⟩ : Addr) := fun j e => h2 (by rw [e])
  refine ⟨?_, ?_, ?_, ?_, ?_⟩
  · rw [World.cell?_setCell_other _ _ _ _ (nb 0)]; exact c0
  · rw [World.cell?_setCell_other _ _ _ _ (nb 1)]; exact c1
  · rw [World.cell?_setCell_other _ _ _ _ (nb 2)]; exact c2
  · rw [World.cell?_setCell_other _ _ _ _ (nd 0)]; exact d0
  · rw [World.cell?_setCell_other _ _ _ _ (nd 1)]; exact d1

theorem own_listOut {w w' : World} {zs : List Int} {va : Option Addr} {vc : Nat} (h : w'.ownsRow w.heap.size 3 1 (.slice va zs.length vc) zs.length (zs.map (Value.int .i64))) (hb : Below w.heap.size w w') (n : Nat) (hn : zs.length = n) :
    ListOut w zs true (.returned (.tuple #[.slice va n vc, .bool true])) w' := ⟨va, n, vc, rfl, by rw [← hn]; exact h, hb⟩

set_option maxRecDepth 100000 in
set_option maxHeartbeats 3200000 in
theorem sChallenges_any (P Q G : Int) (s : ByteArray) (hs : s.size ≤ 1048576) (ad : Option Addr) (n cap : Nat) (zs : List Int) (hn : zs.length = n) (hl : n ≤ 100000000) (hnil : ad = none → cap = 0) (m : Int) (w : World) (hz : IsInts w ad zs) :
    Calls Tryd.prog 14 #[gv P Q G, .string s, .slice ad n cap, .int .i64 m] w (ListOut w (csV P Q G s zs m) (csOk P Q G s zs m)) := by
  have hal := ba w (.cells #[.int .i64 P, .int .i64 Q, .int .i64 G] 32)
  have HZ := Lib.hid (hz.below hal (Nat.le_refl _))
  have HV := Lib.hid (gr_new w P Q G 32)
  have HB0 := Lib.hid hal
  have HN := Lib.hid hn
  have HNIL := Lib.hid hnil
  clear hz hal hn hnil
  obtain ⟨c0, c1, c2⟩ := HV.out
  cases hg : goodB P Q G
  · have e1 : csOk P Q G s zs m = false := by simp [csOk, chB, hg]
    rw [e1, cs_off e1]
    have HG := Lib.hid hg
    clear hg e1
    go_enter Tryd.func14, Tryd.ntmps14
    go_wp2_with fail
    refine (l2Good_any P Q G _).mono ?_
    rw [HG.out]
    rintro e w1 ⟨rfl, hb1⟩
    have HB1 := Lib.hid (bt HB0.out hb1)
    clear hb1
    go_wp2
    go_ret2
    exact listOut_nil _ _ HB1.out
  have HG := Lib.hid hg
  cases hh : hashL s zs 4
  · have e1 : csOk P Q G s zs m = false := by simp [csOk, chB, hh]
    rw [e1, cs_off e1]
    have HH := Lib.hid hh
    clear hg e1 hh
    go_enter Tryd.func14, Tryd.ntmps14
    go_wp2_with fail
    refine (l2Good_any P Q G _).mono ?_
    rw [HG.out]
    rintro e w1 ⟨rfl, hb1⟩
    have HB1 := Lib.hid (bt HB0.out hb1)
    have HZ1 := Lib.hid (HZ.out.below hb1 (Nat.le_refl _))
    clear hb1
    go_wp2_with fail
    refine (l3Label_any s hs _ _ _ zs HN.out (by omega) 4 (by decide) (by decide) _ HZ1.out).mono ?_
    rw [HH.out]
    rintro e w' ⟨rfl, rfl⟩
    go_wp2
    go_ret2
    exact listOut_nil _ _ HB1.out
  have HH := Lib.hid hh
  have hch : chB P Q G s zs 4 = true := by unfold chB; rw [hg, hh]; rfl
  cases hm : inB m 0 100
  · have e1 : csOk P Q G s zs m = false := by simp [csOk, hm]
    rw [e1, cs_off e1]
    have HM := Lib.hid hm
    clear hg e1 hh hm hch
    go_enter Tryd.func14, Tryd.ntmps14
    go_wp2_with fail
    refine (l2Good_any P Q G _).mono ?_
    rw [HG.out]
    rintro e w1 ⟨rfl, hb1⟩
    have HB1 := Lib.hid (bt HB0.out hb1)
    have HZ1 := Lib.hid (HZ.out.below hb1 (Nat.le_refl _))
    clear hb1
    go_wp2_with fail
    refine (l3Label_any s hs _ _ _ zs HN.out (by omega) 4 (by decide) (by decide) _ HZ1.out).mono ?_
    rw [HH.out]
    rintro e w' ⟨rfl, rfl⟩
    go_wp2_with fail
    refine (l1In_any _ _ _ _).mono ?_
    rw [HM.out]
    rintro e w' ⟨rfl, rfl⟩
    go_wp2
    go_ret2
    exact listOut_nil _ _ HB1.out
  · obtain ⟨m0, m1⟩ := inB_true.1 hm
    obtain ⟨m, rfl⟩ := Int.eq_ofNat_of_zero_le m0
    have hm100 : m ≤ 100 := by omega
    have e1 : csOk P Q G s zs m = true := by unfold csOk; rw [hch, hm]; rfl
    have e2 : csV P Q G s zs m = chL P Q G s zs m := by simp [csV, e1]
    rw [e1, e2]
    obtain ⟨hP, hQ, hG⟩ := good_rng hg
    obtain ⟨h1, h2⟩ := hashL_true.1 hh
    have h3 := labB_true.1 h1
    have hn400 : n ≤ 400 := by have := HN.out; omega
    have HD := Lib.hid (digsB_true.1 h2)
    have HM := Lib.hid hm
    clear hg e1 e2 hh h1 h2 hm hch
    go_enter Tryd.func14, Tryd.ntmps14
    go_wp2_with fail
    refine (l2Good_any P Q G _).mono ?_
    rw [HG.out]
    rintro e w1 ⟨rfl, hb1⟩
    have HB1 := Lib.hid (bt HB0.out hb1)
    have HZ1 := Lib.hid (HZ.out.below hb1 (Nat.le_refl _))
    have HV1 := Lib.hid (HV.out.below hb1)
    clear hb1 c0 c1 c2
    obtain ⟨c0, c1, c2⟩ := HV1.out
    go_wp2_with fail
    refine (l3Label_any s hs _ _ _ zs HN.out (by omega) 4 (by decide) (by decide) _ HZ1.out).mono ?_
    rw [HH.out]
    rintro e w' ⟨rfl, rfl⟩
    go_wp2_with fail
    refine (l1In_any _ _ _ _).mono ?_
    rw [HM.out]
    rintro e w' ⟨rfl, rfl⟩
    go_wp2_with fail
    refine (hChallenges_any P Q G hP hQ hG s (by omega) _ _ _ zs HN.out (by omega) HNIL.out HD.out m hm100 _ HZ1.out).mono ?_
    rintro e w2 ⟨va, vc, rfl, hown, hb2⟩
    have HB2 := Lib.hid (bt HB1.out hb2)
    have HO2 := Lib.hid (own_base hown HB1.out.size)
    clear hb2 hown
    go_wp2
    go_ret2
    exact ⟨_, _, _, rfl, HO2.out, HB2.out⟩

set_option maxRecDepth 100000 in
set_option maxHeartbeats 6400000 in
theorem challenges_any (P Q G : Int) (s : ByteArray) (hs : s.size ≤ 1048576) (ad : Option Addr) (n cap : Nat) (zs : List Int) (hn : zs.length = n) (hl : n ≤ 100000000) (m : Int) (w : World) (hz : IsInts w ad zs) :
    Calls Tryd.prog 13 #[gv P Q G, .string s, .slice ad n cap, .int .i64 m] w (ListOut w (csV P Q G s zs m) (csOk P Q G s zs m)) := by
  have hal := ba w (.cells #[.int .i64 P, .int .i64 Q, .int .i64 G] 32)
  have HZ := Lib.hid (hz.below hal (Nat.le_refl _))
  have HV := Lib.hid (gr_new w P Q G 32)
  have HB0 := Lib.hid hal
  have HN := Lib.hid hn
  clear hz hal
  obtain ⟨c0, c1, c2⟩ := HV.out
  by_cases hn0 : m < 0
  · have e1 : csOk P Q G s zs m = false := by
      have : inB m 0 100 = false := inB_false.2 (.inl hn0)
      simp [csOk, this]
    rw [e1, cs_off e1]
    clear e1 hn
    go_enter Tryd.func13, Tryd.ntmps13
    go_wp2
    go_ret2
    exact listOut_nil _ _ HB0.out
  by_cases hn1 : 100 < m
  · have e1 : csOk P Q G s zs m = false := by
      have : inB m 0 100 = false := inB_false.2 (.inr hn1)
      simp [csOk, this]
    rw [e1, cs_off e1]
    clear e1 hn
    go_enter Tryd.func13, Tryd.ntmps13
    go_wp2
    go_ret2
    exact listOut_nil _ _ HB0.out
  obtain ⟨m, rfl⟩ := Int.eq_ofNat_of_zero_le (show 0 ≤ m by omega)
  have hm : m ≤ 100 := by omega
  have hmi : (m : Int) ≤ 100 := by omega
  clear hn1
  cases hc : chB P Q G s zs 4
  · have e1 : csOk P Q G s zs m = false := by simp [csOk, hc]
    rw [e1, cs_off e1]
    have HC := Lib.hid (show chB P Q G s zs (3 + 1) = false from hc)
    clear e1 hc hn
    go_enter Tryd.func13, Tryd.ntmps13
    go_wp2_with fail
    refine (canChallenge_any P Q G s hs _ _ _ zs HN.out (by omega) 1 (by decide) (by decide) _ HZ.out).mono ?_
    rw [HC.out]
    rintro e w1 ⟨rfl, hb1⟩
    have HB1 := Lib.hid (bt HB0.out hb1)
    clear hb1
    go_wp2
    go_ret2
    exact listOut_nil _ _ HB1.out
  have e1 : csOk P Q G s zs m = true := by unfold csOk; rw [hc, inB_true.2 (by omega)]; rfl
  have e2 : csV P Q G s zs m = chL P Q G s zs m := by simp [csV, e1]
  rw [e1, e2]
  obtain ⟨hg, _, hd⟩ := chB_true.1 hc
  obtain ⟨hP, hQ, hG⟩ := good_rng hg
  have HC := Lib.hid (show chB P Q G s zs (3 + 1) = true from hc)
  have HD := Lib.hid (digsB_true.1 hd)
  have hnb : (n : Int) ≤ 100000000 := by omega
  have hnz : 0 ≤ (n : Int) := by omega
  have hqn : Q ≠ 0 := by omega
  have HSTATE := Lib.hid (show ∀ c : Int, chX P Q G s (zs ++ [c]) = (2147483648 * hab 48271 (hfold 48271 (gst 48271 1 P Q G s (n + 1)) zs) c + hab 69621 (hfold 69621 (gst 69621 2 P Q G s (n + 1)) zs) c) % Q from fun c => by
    rw [chX_state, hn])
  have HXY := Lib.hid (hb_fold 48271 69621 _ _ zs zs (hb_gst P Q G s (n + 1)))
  obtain ⟨i0, hi, hz0, hz1, hz2⟩ := info_parts Tryd.info3
  have HZ2 := Lib.hid hz2
  clear e1 e2 hc hg hd hz2 hn
  go_enter Tryd.func13, Tryd.ntmps13
  go_wp2_with fail
  refine (canChallenge_any P Q G s hs _ _ _ zs HN.out (by omega) 1 (by decide) (by decide) _ HZ.out).mono ?_
  rw [HC.out]
  rintro e w1 ⟨rfl, hb1⟩
  have HB1 := Lib.hid (bt HB0.out hb1)
  have HV1 := Lib.hid (HV.out.below hb1)
  have HZ1 := Lib.hid (HZ.out.below hb1 (Nat.le_refl _))
  clear hb1 c0 c1 c2
  obtain ⟨c0, c1, c2⟩ := HV1.out
  go_wp2_with fail
  refine (gStart_any P Q G hP hQ hG s hs (n + 1) (by omega) (by omega) _).mono ?_
  rintro e w2 ⟨rfl, hb2⟩
  have HB2 := Lib.hid (bt HB1.out hb2)
  have HV2 := Lib.hid (HV1.out.below hb2)
  have HZ2' := Lib.hid (HZ1.out.below hb2 (Nat.le_refl _))
  clear hb2 c0 c1 c2
  go_wp2_with fail
  refine (absorb_any _ _ (hb_gst _ _ _ _ _) _ _ _ zs HN.out (by omega) HD.out _ HZ2'.out).mono ?_
  generalize hfold 48271 (gst 48271 1 P Q G s (n + 1)) zs = X at *
  generalize hfold 69621 (gst 69621 2 P Q G s (n + 1)) zs = Y at *
  rintro e w3 ⟨rfl, hb3⟩
  have hal3 := ba w3 (.cells #[.int .i64 X, .int .i64 Y] 67)
  have HB3 := Lib.hid (bt (bt HB2.out hb3) hal3)
  have HG3 := Lib.hid (gh_mk ((HV2.out.below hb3).below hal3) (hs_new w3 X Y 67))
  have hs3 : (w3.alloc (.cells #[.int .i64 X, .int .i64 Y] 67)).heap.size = w3.heap.size + 1 := by simp
  have hw3 : w.heap.size < w3.heap.size := (HV2.out.below hb3).lt
  have HS3 := Lib.hid hs3
  clear hb3 hal3 hs3
  go_wp2_with (at_make; refine wpList_make_full _ rfl _ _ 24 rfl (w3.heap.size + 1) 3 i0 (.int .i64 0) 1 Tryd.underlying24 hi hz0 hz1 .i64 .i64 _ _ m rfl rfl rfl rfl (by rw [HZ2.out]; omega) (by unfold maxLen; omega) (by simp) ?_; intro w4 hown hgrow)
  rw [HS3.out] at hown
  have HB4 := Lib.hid (HB3.out.grown hgrow HB3.out.size (by simp))
  have HG4 := Lib.hid (show GH w4 w.heap.size P Q G w3.heap.size X Y from by
    obtain ⟨g0, g1, g2, g3, g4⟩ := HG3.out
    exact ⟨hgrow.cell (a := ⟨w.heap.size, 0, none⟩) g0 (by simp), hgrow.cell (a := ⟨w.heap.size, 1, none⟩) g1 (by simp), hgrow.cell (a := ⟨w.heap.size, 2, none⟩) g2 (by simp), hgrow.cell (a := ⟨w3.heap.size, 0, none⟩) g3 (by simp), hgrow.cell (a := ⟨w3.heap.size, 1, none⟩) g4 (by simp)⟩)
  have HO4 := Lib.hid (show w4.ownsRow (w3.heap.size + 1) 3 1 (.slice (some ⟨w3.heap.size + 1, 0, none⟩) m m) m ((mix (chL P Q G s zs m) 0).map (Value.int .i64)) from by
    rw [mix_zero, chL_length]
    have h := hown
    rw [show Value.cells (.int .i64 0) = #[.int .i64 0] from rfl, Nat.mul_one, toList_madeCells_one] at h
    simpa using h)
  clear hown hgrow
  go_wp2
  go_loopw [12, 38] (fun _ K wr => ∃ k : Nat, k ≤ m ∧ K = .int .i64 k ∧ GH wr w.heap.size P Q G w3.heap.size X Y ∧ wr.ownsRow (w3.heap.size + 1) 3 1 (.slice (some ⟨w3.heap.size + 1, 0, none⟩) m m) m ((mix (chL P Q G s zs m) k).map (Value.int .i64)) ∧ Below w.heap.size w wr) (fun _ K _ => m - (intOf K).toNat)
  case atStart => exact ⟨0, Nat.zero_le _, rfl, HG4.out, HO4.out, HB4.out⟩
  case round =>
    obtain ⟨k, hk, rfl, hgh, hown, hbel⟩ := hrel
    have HGr := Lib.hid hgh
    have HO := Lib.hid hown
    have HBr := Lib.hid hbel
    clear hown hbel
    by_cases hkm : k < m
    · have hki : (k : Int) < (m : Int) := by omega
      obtain ⟨D, hD⟩ : ∃ D, D = 2147483648 * hab 48271 X k + hab 69621 Y k := ⟨_, rfl⟩
      have hD0 : 0 ≤ D := by rw [hD]; exact (hdig_nn (hb_ab 48271 69621 X Y k k)).1
      have HDE := Lib.hid hD
      have HCX := Lib.hid (show chX P Q G s (zs ++ [(k : Int)]) = D % Q from by rw [hD]; exact HSTATE.out k)
      have htm : D.tmod Q = D % Q := Int.tmod_eq_emod_of_nonneg hD0
      have hne1 : w3.heap.size + 1 ≠ w.heap.size := by omega
      have hne2 : w3.heap.size + 1 ≠ w3.heap.size := by omega
      clear hD
      obtain ⟨c0, c1, c2, x0, x1⟩ := hgh
      go_wp2_with fail
      go_region_held3 (fun w' => w'.cell? ⟨w.heap.size, 0, none⟩ = some (.int .i64 P) ∧ w'.cell? ⟨w.heap.size, 1, none⟩ = some (.int .i64 Q) ∧ w'.cell? ⟨w.heap.size, 2, none⟩ = some (.int .i64 G) ∧ w'.cell? ⟨w3.heap.size, 0, none⟩ = some (.int .i64 X) ∧ w'.cell? ⟨w3.heap.size, 1, none⟩ = some (.int .i64 Y)) (first | with_reducible exact gh_in HG5.out | with_reducible exact gh_in HG6.out | with_reducible exact gh_alcd HGr.out _ | exact ⟨c0, c1, c2, x0, x1⟩ | exact gh_sets HG6.out _ _ hne1 hne2) ((first
        | (go_at_call 43; refine (absorb_any X Y HXY.out _ 1 1 [(k : Int)] rfl (by decide) (by simp; omega) _ (ints_drew (ints_spot wr _ rfl [(k : Int)] 3))).mono ?_; rintro e w5 ⟨rfl, hb5⟩; have hal5 := (ba wr (.cells #[.int .i64 (k : Int)] 3)); have HB5 := Lib.hid (HBr.out.trans ((bt hal5.drew hb5).mono HBr.out.size)); have HG5 := Lib.hid (GH.below (GH.drew (HGr.out.below hal5)) hb5); have HO5 := Lib.hid (own_below HO.out (bt hal5.drew hb5)); clear hb5 hal5)
        | (go_at_call 44; refine (hdigest_any _ _ (hb_fold _ _ _ _ _ _ HXY.out) _).mono ?_; rw [show 2147483648 * hfold 48271 X [(k : Int)] + hfold 69621 Y [(k : Int)] = D from HDE.out.symm]; rintro e w6 ⟨rfl, hb6⟩; have HB6 := Lib.hid (HB5.out.trans (hb6.mono HB5.out.size)); have HG6 := Lib.hid (HG5.out.below hb6); have HO6 := Lib.hid (own_below HO5.out hb6); obtain ⟨⟨u, hu⟩, hfu⟩ := copy_cell HO6.out hkm; clear hb6)))
      all_goals (
        have HR := Lib.hid (show (w6.setCell ⟨w3.heap.size + 1, k, none⟩ (.int .i64 (D % Q))).ownsRow (w3.heap.size + 1) 3 1 (.slice (some ⟨w3.heap.size + 1, 0, none⟩) m m) m ((mix (chL P Q G s zs m) (k + 1)).map (Value.int .i64)) from by
          have h := copy_round HO6.out (chL_drop (P := P) (Q := Q) (G := G) (s := s) (zs := zs) hkm)
          rw [HCX.out] at h
          exact h)
        clear c0 c1 c2 x0 x1
        go_wp2
        go_roundw
        case rel => exact ⟨k + 1, by omega, by go_num, gh_sets HG6.out _ _ hne1 hne2, HR.out, HB6.out.setCell (Nat.le_succ_of_le (Nat.le_of_lt hw3)) _⟩
        case measure => simp only [intOf]; omega)
    · have hki : (m : Int) ≤ (k : Int) := by omega
      obtain rfl : k = m := by omega
      clear hgh
      go_wp2
      go_ret2
      have h3 := HO.out
      rw [mix_all _ (by rw [chL_length]; exact Nat.le_refl _)] at h3
      exact ⟨_, _, _, rfl, own_base h3 (Nat.le_succ_of_le (Nat.le_of_lt hw3)), HBr.out⟩

end Go.Proofs.YtmiohdibbpckaaaDoor

