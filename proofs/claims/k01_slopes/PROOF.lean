import PyProof.Rows.All
import Wide.All
import OpenK.AllK
import Wide.FinOn
import HandS.ForMost
import HandS.ForExc
import HandS.TryMany
import HandS.ExcIs
import HandS.IsInst
import HandS.Evl
import HandS.Wide
import HandS.SortRule
import HandS.HotCalls
import PySem.Challenge.RW_hillsight_k01_slopes
set_option Elab.async false
set_option linter.all false
set_option maxRecDepth 100000
set_option maxHeartbeats 4000000
/-! Hx: a thin layer of our own over HandS and Evl: called defs as one fact, values of the usual expressions, equality of int lists. -/
namespace Hx
open PySem PySem.Spec PyProof.Rows L2 Evl
/-- the built-in names that stay free in the module -/
structure Blt (mg : Str → Option Value) : Prop where
  m_len : mg "len" = none
  m_range : mg "range" = none
  m_isinstance : mg "isinstance" = none
  m_int : mg "int" = none
  m_bool : mg "bool" = none
  m_list : mg "list" = none
  m_tuple : mg "tuple" = none
  m_min : mg "min" = none
  m_max : mg "max" = none
  m_all : mg "all" = none
  m_sorted : mg "sorted" = none
  m_ValueError : mg "ValueError" = none
/-- a def of the module that keeps a promise -/
structure Cal (P : Program) (w : World) (K : PySem.W.Frag) (mg : Str → Option Value) (base : Heap) (x : Str) (k : Nat) (ps : List Str) (sp : Sp) : Prop where
  ex : ∃ f fd, FnOk P w K mg base CX0 k f fd ps sp ∧ mg x = some (.ref f) ∧ PySem.W.keepIn K (.ref f) = true ∧ Binds K fd ps []
section
variable {X : Cx}
theorem pe_cal {x : Str} {k j : Nat} {ps : List Str} {sp : Sp} {p pos : Pos} {e : Expr} {es : List Expr} {t : TA} (C : Cal X.prog X.w X.K X.mg X.base x k ps sp) (hr : Room j X.A) (ha : PA X (e :: es) t) (hk : k ≤ j := by decide) (hg : Gl X x := by rfl)
    (hdb : (x == ("__debug__" : Str)) = false := by decide) (he : starEach (e :: es) X.env = (false, eval e X.env) :: starEach es X.env := by rfl) (hpl : (backTo pos (starEach es X.env)).any (·.1) = false := by rfl) :
    PE X (.Call (.Name x p) (e :: es) [] pos) (tCall sp [] E0 t) := by
  obtain ⟨f, fd, F, hm, kp, b⟩ := C.ex
  exact pe_call F (hr.mono hk) hg hm kp b .nil pass0 ha hdb he hpl
end
section
variable {K : PySem.W.Frag} {σ : L2.St} {H H' : Hp} {ta tb te tx : TE} {t u : TT} {x y z v : V} {D : Ends} {tu tw tz : TS} {g : TG}
theorem ex_at {H H' : Hp} {a : Addr} {o : HO} (e : Ex H H') (h : H a = some o) : H' a = some o := e a o h
theorem ex_step {H H1 H2 : Hp} (b : Ex H1 H2) (a : Ex H H1) : Ex H H2 := a.trans b
/-! ### values -/
theorem ev_int {i j : Int} (h : Ev te σ H (.int i)) (e : i = j) : Ev te σ H (.int j) := e ▸ h
theorem rc_isi {x : V} {t : Value} {T : String} {b : Bool} (ty : ∀ H1, Ex H H1 → TyX K H1 x t) (e : PySem.W.kitOne K t (.type T) = some b) : RC (rIsi K) [x, .ty T] H (.bl b) :=
  fun H1 e1 Q q => ⟨x, .ty T, t, .type T, b, rfl, .ty T, ty H1 e1, e, q H1 (Ex.refl H1)⟩
theorem rc_isi_int {i : Int} {T : String} {b : Bool} (e : kitB "int" T = some b) : RC (rIsi K) [.int i, .ty T] H (.bl b) := rc_isi (fun _ _ => .base (.int i)) (kit_ty e)
theorem rc_isi_bl {i : Bool} {T : String} {b : Bool} (e : kitB "bool" T = some b) : RC (rIsi K) [.bl i, .ty T] H (.bl b) := rc_isi (fun _ _ => .base (.bl i)) (kit_ty e)
theorem rc_isi_non {T : String} {b : Bool} (e : kitB "NoneType" T = some b) : RC (rIsi K) [.non, .ty T] H (.bl b) := rc_isi (fun _ _ => .base .non) (kit_ty e)
theorem rc_isi_str {i : Str} {T : String} {b : Bool} (e : kitB "str" T = some b) : RC (rIsi K) [.str i, .ty T] H (.bl b) := rc_isi (fun _ _ => .base (.str i)) (kit_ty e)
theorem rc_isi_lst {a : Addr} {xs : List V} {T : String} {b : Bool} (h : H a = some (.lst xs)) (e : kitB "list" T = some b) : RC (rIsi K) [.ref a, .ty T] H (.bl b) := rc_isi (fun _ e1 => .base (.lst (e1 _ _ h))) (kit_ty e)
theorem rc_isi_tup {a : Addr} {xs : List V} {T : String} {b : Bool} (h : H a = some (.tup xs)) (e : kitB "tuple" T = some b) : RC (rIsi K) [.ref a, .ty T] H (.bl b) := rc_isi (fun _ e1 => .base (.tup (e1 _ _ h))) (kit_ty e)
theorem rc_len {p : Addr} {ys : List V} (h : SqL K H p ys) : RC (fun xs H Q => ∃ p ys, xs = [V.ref p] ∧ (SqL K H p ys ∨ SqT K H p ys) ∧ Q (.int ys.length) H) [.ref p] H (.int (ys.length : Int)) :=
  fun H1 e Q q => ⟨p, ys, rfl, .inl (ex_l e h), q H1 (Ex.refl H1)⟩
theorem rc_lenT {p : Addr} {ys : List V} (h : SqT K H p ys) : RC (fun xs H Q => ∃ p ys, xs = [V.ref p] ∧ (SqL K H p ys ∨ SqT K H p ys) ∧ Q (.int ys.length) H) [.ref p] H (.int (ys.length : Int)) :=
  fun H1 e Q q => ⟨p, ys, rfl, .inr (ex_t e h), q H1 (Ex.refl H1)⟩
theorem rcl_list {p : Addr} {ys : List V} (h : SqL K H p ys) : RCL (fun xs H Q => ∃ p ys, xs = [V.ref p] ∧ (SqL K H p ys ∨ SqT K H p ys) ∧ ∀ l, H l = none → Q (.ref l) (upd H l (.lst ys))) [.ref p] H ys :=
  fun H1 e Q q => ⟨p, ys, rfl, .inl (ex_l e h), fun l hl => q l _ hl (Ex.new hl) upd_same⟩
theorem rc_min {i j : Int} : RC (fun xs H Q => ∃ i j, xs = [V.int i, V.int j] ∧ Q (.int (if j < i then j else i)) H) [.int i, .int j] H (.int (min i j)) := fun H1 _ Q q => ⟨i, j, rfl, by
  have e : (if j < i then j else i) = min i j := by rw [Int.min_def]; split <;> split <;> omega
  rw [e]; exact q H1 (Ex.refl H1)⟩
theorem rc_max {i j : Int} : RC (fun xs H Q => ∃ i j, xs = [V.int i, V.int j] ∧ Q (.int (if j > i then j else i)) H) [.int i, .int j] H (.int (max i j)) := fun H1 _ Q q => ⟨i, j, rfl, by
  have e : (if j > i then j else i) = max i j := by rw [Int.max_def]; split <;> split <;> omega
  rw [e]; exact q H1 (Ex.refl H1)⟩
theorem kb_int_int : kitB "int" "int" = some true := by decide +kernel
theorem kb_int_bool : kitB "int" "bool" = some false := by decide +kernel
theorem kb_bool_int : kitB "bool" "int" = some true := by decide +kernel
theorem kb_bool_bool : kitB "bool" "bool" = some true := by decide +kernel
theorem kb_NoneType_int : kitB "NoneType" "int" = some false := by decide +kernel
theorem kb_NoneType_bool : kitB "NoneType" "bool" = some false := by decide +kernel
theorem kb_str_int : kitB "str" "int" = some false := by decide +kernel
theorem kb_str_bool : kitB "str" "bool" = some false := by decide +kernel
theorem kb_list_list : kitB "list" "list" = some true := by decide +kernel
theorem kb_tuple_tuple : kitB "tuple" "tuple" = some true := by decide +kernel
theorem kb_list_int : kitB "list" "int" = some false := by decide +kernel
theorem kb_tuple_int : kitB "tuple" "int" = some false := by decide +kernel
theorem kb_list_bool : kitB "list" "bool" = some false := by decide +kernel
theorem kb_tuple_bool : kitB "tuple" "bool" = some false := by decide +kernel
theorem kb_list_tuple : kitB "list" "tuple" = some false := by decide +kernel
theorem kb_tuple_list : kitB "tuple" "list" = some false := by decide +kernel
theorem kb_int_list : kitB "int" "list" = some false := by decide +kernel
theorem kb_int_tuple : kitB "int" "tuple" = some false := by decide +kernel
theorem rc_intb {k : Bool} : RC (fun xs H Q => (∃ i, xs = [V.int i] ∧ Q (.int i) H) ∨ ∃ k, xs = [V.bl k] ∧ Q (.int (if k then 1 else 0)) H) [.bl k] H (.int (if k then 1 else 0)) := fun H1 _ _ q => .inr ⟨k, rfl, q H1 (Ex.refl H1)⟩
/-! ### int lists compared -/
theorem dp_ints : ∀ ns : List Int, DpAll K H (ns.map V.int) (ns.map PyData.int)
  | [] => .nil
  | n :: r => .cons (.int n) (dp_ints r)
theorem ints_lay : ∀ ns : List Int, PyData.canLayAll0 (ns.map PyData.int) = true
  | [] => by simp [PyData.canLayAll0]
  | n :: r => by simp [PyData.canLayAll0, PyData.canLay0, ints_lay r]
theorem ints_depth : ∀ ns : List Int, PyData.depthAll (ns.map PyData.int) ≤ 1
  | [] => by simp [PyData.depthAll]
  | n :: r => by
    have h := ints_depth r
    simp only [List.map_cons, PyData.depthAll, PyData.depth]
    omega
theorem ints_shaped (ns : List Int) : SeqAt.shaped (.list (ns.map PyData.int)) = true := by
  have h1 := ints_depth ns
  have h2 : PyData.depth (.list (ns.map PyData.int)) ≤ 64 := by
    simp only [PyData.depth]
    omega
  show (PyData.canLay0 (.list (ns.map PyData.int)) && decide (PyData.depth (.list (ns.map PyData.int)) ≤ 64)) = true
  rw [Bool.and_eq_true]
  exact ⟨by simp only [PyData.canLay0]; exact ints_lay ns, decide_eq_true h2⟩
theorem ints_eqvAll : ∀ ns ms : List Int, PyData.eqvAll (ns.map PyData.int) (ms.map PyData.int) = decide (ns = ms)
  | [], [] => by simp [PyData.eqvAll]
  | [], _ :: _ => by simp [PyData.eqvAll]
  | _ :: _, [] => by simp [PyData.eqvAll]
  | n :: r, m :: s => by
    have h := ints_eqvAll r s
    simp only [List.map_cons, PyData.eqvAll, PyData.eqv, h]
    by_cases e : n = m <;> by_cases e2 : r = s <;> simp [e, e2]
theorem ints_eqv (ns ms : List Int) : PyData.eqv (.list (ns.map PyData.int)) (.list (ms.map PyData.int)) = decide (ns = ms) := by
  simp only [PyData.eqv, ints_eqvAll]
theorem rv_eqI {p q : Addr} {ns ms : List Int} (h1 : SqL K H p (ns.map V.int)) (h2 : SqL K H q (ms.map V.int)) : RV (rEqD K) (.ref p) (.ref q) H (.bl (decide (ns = ms))) :=
  fun H1 e Q k => ⟨_, _, .lst (ex_l e h1) (dp_ints ns), .lst (ex_l e h2) (dp_ints ms), ints_shaped ns, ints_shaped ms, by rw [ints_eqv]; exact k H1 (Ex.refl H1)⟩
theorem rv_neI {p q : Addr} {ns ms : List Int} (h1 : SqL K H p (ns.map V.int)) (h2 : SqL K H q (ms.map V.int)) : RV (rNeD K) (.ref p) (.ref q) H (.bl (!decide (ns = ms))) :=
  fun H1 e Q k => ⟨_, _, .lst (ex_l e h1) (dp_ints ns), .lst (ex_l e h2) (dp_ints ms), ints_shaped ns, ints_shaped ms, by rw [ints_eqv]; exact k H1 (Ex.refl H1)⟩
/-! ### promises of one shape -/
/-- a def that hands back a value and leaves all as it was: R tells which -/
def spV (R : List V → Hp → V → Prop) : Sp := fun vs H Q _ => ∃ v, R vs H v ∧ RetV v H Q
/-- a def that hands back a new list, a new tuple -/
def spL (R : List V → Hp → List V → Prop) : Sp := fun vs H Q _ => ∃ xs, R vs H xs ∧ RetL xs H Q
def RetU (xs : List V) (H : Hp) (Q : VK) : Prop := ∀ p H2, H p = none → Ex H H2 → H2 p = some (.tup xs) → Q (.ref p) H2
def spU (R : List V → Hp → List V → Prop) : Sp := fun vs H Q _ => ∃ xs, R vs H xs ∧ RetU xs H Q
theorem ev_cal {R : List V → Hp → V → Prop} {vs : List V} {E : XK} {ta : TA} (h : EvA ta σ H vs) (hs : ∀ H1, Ex H H1 → R vs H1 z) : Ev (tCall (spV R) [] E ta) σ H z :=
  ev_call (vs := vs) h fun H1 e Q q E => ⟨z, by rw [List.append_nil]; exact hs H1 e, q⟩
theorem el_cal {R : List V → Hp → List V → Prop} {vs xs : List V} {E : XK} {ta : TA} (h : EvA ta σ H vs) (hs : ∀ H1, Ex H H1 → R vs H1 xs) : EvL (tCall (spL R) [] E ta) σ H xs :=
  el_call (vs := vs) h fun H1 e Q q E => ⟨xs, by rw [List.append_nil]; exact hs H1 e, q⟩
theorem eu_cal {R : List V → Hp → List V → Prop} {vs xs : List V} {E : XK} {ta : TA} (h : EvA ta σ H vs) (hs : ∀ H1, Ex H H1 → R vs H1 xs) : EvU (tCall (spU R) [] E ta) σ H xs :=
  fun H1 e Q q => h H1 e _ fun H2 e2 => ⟨xs, by rw [List.append_nil]; exact hs H2 (e.trans e2), fun p H3 hp e3 h3 => q p H3 (fresh_back e2 hp) (e2.trans e3) h3⟩
/-! ### a new tuple walked; a tuple unpacked -/
theorem s_forNT {xs : List V} {tl : TE} (h : EvU tl σ H xs) (Pv : Addr → Nat → L2.St → Hp → Prop) (h0 : ∀ p H1, H p = none → Ex H H1 → H1 p = some (.tup xs) → Pv p 0 σ H1) (hl : ∀ p i σ' H', i ≤ xs.length → Pv p i σ' H' → SqT K H' p xs)
    (hs : ∀ p i x σ' H', xs[i]? = some x → Pv p i σ' H' → g x σ' H' fun σ2 H2 => tu { D with nx := Pv p (i + 1), ct := Pv p (i + 1), bk := D.nx } σ2 H2) (hd : ∀ p σ' H', Pv p xs.length σ' H' → D.nx σ' H') : tFor (iTup K tl) g tu D σ H :=
  h H (Ex.refl H) _ fun p H1 hp e h1 => ⟨p, rfl, ⟨xs, st_of h1⟩, for_tup (Pv p) (h0 p H1 hp e h1) (hl p) (hs p) (hd p)⟩
theorem q_forNT {xs : List V} {tl : TE} (h : EvU tl σ H xs) (Pv : Addr → Nat → L2.St → Hp → Prop) (h0 : ∀ p H1, H p = none → Ex H H1 → H1 p = some (.tup xs) → Pv p 0 σ H1) (hl : ∀ p i σ' H', i ≤ xs.length → Pv p i σ' H' → SqT K H' p xs)
    (hs : ∀ p i x σ' H', xs[i]? = some x → Pv p i σ' H' → g x σ' H' fun σ2 H2 => tu { D with nx := Pv p (i + 1), ct := Pv p (i + 1), bk := tz D } σ2 H2) (hd : ∀ p σ' H', Pv p xs.length σ' H' → tz D σ' H') : tSeq (tFor (iTup K tl) g tu) tz D σ H :=
  s_forNT (D := { D with nx := tz D }) h Pv h0 hl hs hd
theorem g_tup2 {i j : Nat} {p : Addr} {x y : V} {Q : L2.St → Hp → Prop} (h : SqT K H p [x, y]) (q : Q ((σ.set i (some x)).set j (some y)) H) : gTup K 2 (gCons (gName i) (gCons (gName j) gNil)) (.ref p) σ H Q :=
  ⟨p, [x, y], rfl, h, rfl, x, [y], rfl, y, [], rfl, rfl, q⟩
theorem q_unpack {i j : Nat} {p : Addr} (ha : Ev te σ H (.ref p)) (h : SqT K H p [x, y]) (k : ∀ H1, Ex H H1 → tz D ((σ.set i (some x)).set j (some y)) H1) : tSeq (tAsg te (gTup K 2 (gCons (gName i) (gCons (gName j) gNil)))) tz D σ H :=
  ha H (Ex.refl H) _ fun H1 e => g_tup2 (ex_t e h) (k H1 e)
/-- a chain of two comparisons of ints, as a value -/
theorem ev_chain {r r' : R2} {tc : TE} {y w : V} {a b : Bool} (ha : Ev ta σ H x) (hb : Ev tb σ H y) (hc : Ev tc σ H w) (h1 : RV r x y H (.bl a)) (h2 : RV r' y w H (.bl b)) : Ev (tChain r r' ta tb tc) σ H (.bl (a && b)) := fun H1 e Q q =>
  ha H1 e _ fun H2 e2 => hb H2 (e.trans e2) _ fun H3 e3 => h1 H3 ((e.trans e2).trans e3) _ fun H4 e4 => ⟨a, rfl, by
    have e' := (((e.trans e2).trans e3).trans e4)
    have e'' := ((e2.trans e3).trans e4)
    cases a with
    | true => exact hc H4 e' _ fun H5 e5 => h2 H5 (e'.trans e5) _ fun H6 e6 => q H6 ((e''.trans e5).trans e6)
    | false => exact q H4 e''⟩
end
/-! ### the cells of a script -/
def cel (ns : List Int) (j : Int) : Int := ns.getD j.toNat 0
theorem getD_ix {ns : List Int} {j : Int} (h0 : 0 ≤ j) (h : j < (ns.length : Int)) : atI (ns.map V.int) j = some (V.int (cel ns j)) := by
  unfold cel
  have h1 : j.toNat < ns.length := by omega
  have e : j = ((j.toNat : Nat) : Int) := by omega
  have e2 : (ns.map V.int)[j.toNat]? = some (V.int (ns.getD j.toNat 0)) := by
    rw [List.getElem?_map, List.getD_eq_getElem?_getD, List.getElem?_eq_getElem h1]
    rfl
  have h3 := atI_nat e2
  rw [← e] at h3
  exact h3
def RCel (K : PySem.W.Frag) (vs : List V) (H : Hp) (v : V) : Prop := ∃ (l : Addr) (ns : List Int) (j : Int), vs = [.ref l, .int j] ∧ 0 ≤ j ∧ SqL K H l (ns.map V.int) ∧ v = .int (cel ns j)
/-- what the def that looks whether a thing is a whole number hands back, of the things it is asked of -/
def RWhole (vs : List V) (_ : Hp) (v : V) : Prop := ∃ x, vs = [x] ∧ (((∃ i, x = .int i) ∧ v = .bl true) ∨ (x = .non ∧ v = .bl false) ∨ ((∃ b, x = .bl b) ∧ v = .bl false) ∨ ((∃ b, x = .str b) ∧ v = .bl false))
def RSlope (K : PySem.W.Frag) (vs : List V) (H : Hp) (xs : List V) : Prop := ∃ (l : Addr) (ns : List Int) (a b : Int), vs = [.ref l, .int a, .int b] ∧ 0 ≤ a ∧ a < (ns.length : Int) ∧ 0 ≤ b ∧ b < (ns.length : Int) ∧ SqL K H l (ns.map V.int) ∧
  xs = [.int (cel ns b - cel ns a), .int (b - a)]
def RSteeper (K : PySem.W.Frag) (vs : List V) (H : Hp) (v : V) : Prop := ∃ (p1 p2 : Addr) (r1 n1 r2 n2 : Int), vs = [.ref p1, .ref p2] ∧ SqT K H p1 [.int r1, .int n1] ∧ SqT K H p2 [.int r2, .int n2] ∧
  -(2 ^ 64) < n1 ∧ n1 < 2 ^ 64 ∧ -(2 ^ 64) < n2 ∧ n2 < 2 ^ 64 ∧ v = .bl (decide (r2 * n1 < r1 * n2))
section
variable {K : PySem.W.Frag} {σ : L2.St} {H : Hp} {ta : TA} {E : XK}
theorem ev_cel {l : Addr} {ns : List Int} {j : Int} (h : EvA ta σ H [.ref l, .int j]) (hs : SqL K H l (ns.map V.int)) (h0 : 0 ≤ j) : Ev (tCall (spV (RCel K)) [] E ta) σ H (.int (cel ns j)) :=
  ev_cal h fun _ e => ⟨l, ns, j, rfl, h0, ex_l e hs, rfl⟩
theorem ev_whole {i : Int} (h : EvA ta σ H [.int i]) : Ev (tCall (spV RWhole) [] E ta) σ H (.bl true) := ev_cal h fun _ _ => ⟨_, rfl, .inl ⟨⟨i, rfl⟩, rfl⟩⟩
theorem eu_slope {l : Addr} {ns : List Int} {a b : Int} (h : EvA ta σ H [.ref l, .int a, .int b]) (hs : SqL K H l (ns.map V.int)) (a0 : 0 ≤ a) (a1 : a < (ns.length : Int)) (b0 : 0 ≤ b) (b1 : b < (ns.length : Int)) :
    EvU (tCall (spU (RSlope K)) [] E ta) σ H [.int (cel ns b - cel ns a), .int (b - a)] := eu_cal h fun _ e => ⟨l, ns, a, b, rfl, a0, a1, b0, b1, ex_l e hs, rfl⟩
theorem ev_steeper {p1 p2 : Addr} {r1 n1 r2 n2 : Int} (h : EvA ta σ H [.ref p1, .ref p2]) (h1 : SqT K H p1 [.int r1, .int n1]) (h2 : SqT K H p2 [.int r2, .int n2]) (b1 : -(2 ^ 64) < n1) (b2 : n1 < 2 ^ 64) (b3 : -(2 ^ 64) < n2) (b4 : n2 < 2 ^ 64) :
    Ev (tCall (spV (RSteeper K)) [] E ta) σ H (.bl (decide (r2 * n1 < r1 * n2))) := ev_cal h fun _ e => ⟨p1, p2, r1, n1, r2, n2, rfl, ex_t e h1, ex_t e h2, b1, b2, b3, b4, rfl⟩
end
end Hx
namespace Hx
open PySem PySem.Spec PyProof.Rows L2 Evl
/-! ### the lands that the laws build -/
def heightOf (c k kind tilt : Int) : Int :=
  if kind = 0 then c % 7 - 3 else if kind = 1 then tilt * k + c % 2 else if kind = 2 then c * 48271 % (2 * 1000000000000000000 + 1) - 1000000000000000000
  else if kind = 3 then k * k * (tilt % 3 - 1) + c % 3 else 1000000000000000000 - c % 3
def RHeight (vs : List V) (_ : Hp) (v : V) : Prop := ∃ c k kind tilt : Int, vs = [.int c, .int k, .int kind, .int tilt] ∧ 0 ≤ k ∧ k ≤ 1000 ∧ -3 ≤ tilt ∧ tilt ≤ 3 ∧ v = .int (heightOf c k kind tilt)
def kindOf (ns : List Int) (most : Int) : Int := cel ns 0 / most % 5
def tiltOf (ns : List Int) (most : Int) : Int := cel ns 0 / most / 5 % 7 - 3
def landOf (ns : List Int) (most : Int) : List Int := (List.range (1 + cel ns 0 % most).toNat).map fun (k : Nat) => heightOf (cel ns (3 + (k : Int))) k (kindOf ns most) (tiltOf ns most)
def RLand (K : PySem.W.Frag) (vs : List V) (H : Hp) (xs : List V) : Prop := ∃ (l : Addr) (ns : List Int) (most : Int), vs = [.ref l, .int most] ∧ 1 ≤ most ∧ most ≤ 100 ∧ SqL K H l (ns.map V.int) ∧ xs = (landOf ns most).map V.int
def moreOf (ns : List Int) (most : Int) (n : Int) (k : Nat) : Int := heightOf (cel ns (3 + (k : Int) % 20) * ((k : Int) + 5)) (n + (k : Int)) (kindOf ns most) (tiltOf ns most)
def longerOf (ns land : List Int) (most many : Int) : List Int := land ++ (List.range many.toNat).map (moreOf ns most land.length)
def RLonger (K : PySem.W.Frag) (vs : List V) (H : Hp) (xs : List V) : Prop := ∃ (l b : Addr) (ns land : List Int) (most many : Int), vs = [.ref l, .ref b, .int most, .int many] ∧ 1 ≤ most ∧ most ≤ 100 ∧ 0 ≤ many ∧ (land.length : Int) + many ≤ 1000 ∧ SqL K H l (ns.map V.int) ∧ SqL K H b (land.map V.int) ∧
  xs = (longerOf ns land most many).map V.int
theorem landOf_len (ns : List Int) (most : Int) : (landOf ns most).length = (1 + cel ns 0 % most).toNat := by
  unfold landOf
  rw [List.length_map, List.length_range]
theorem longerOf_len (ns land : List Int) (most many : Int) : (longerOf ns land most many).length = land.length + many.toNat := by
  unfold longerOf
  rw [List.length_append, List.length_map, List.length_range]
section
variable {K : PySem.W.Frag} {σ : L2.St} {H : Hp} {ta : TA} {E : XK}
theorem ev_height {c k kind tilt : Int} (h : EvA ta σ H [.int c, .int k, .int kind, .int tilt]) (h1 : 0 ≤ k) (h2 : k ≤ 1000) (h3 : -3 ≤ tilt) (h4 : tilt ≤ 3) : Ev (tCall (spV RHeight) [] E ta) σ H (.int (heightOf c k kind tilt)) :=
  ev_cal h fun _ _ => ⟨c, k, kind, tilt, rfl, h1, h2, h3, h4, rfl⟩
theorem el_land {l : Addr} {ns : List Int} {most : Int} (h : EvA ta σ H [.ref l, .int most]) (hs : SqL K H l (ns.map V.int)) (h1 : 1 ≤ most) (h2 : most ≤ 100) : EvL (tCall (spL (RLand K)) [] E ta) σ H ((landOf ns most).map V.int) :=
  el_cal h fun _ e => ⟨l, ns, most, rfl, h1, h2, ex_l e hs, rfl⟩
theorem el_longer {l b : Addr} {ns land : List Int} {most many : Int} (h : EvA ta σ H [.ref l, .ref b, .int most, .int many]) (hs : SqL K H l (ns.map V.int)) (hb : SqL K H b (land.map V.int)) (h1 : 1 ≤ most) (h2 : most ≤ 100) (h3 : 0 ≤ many) (h4 : (land.length : Int) + many ≤ 1000) :
    EvL (tCall (spL (RLonger K)) [] E ta) σ H ((longerOf ns land most many).map V.int) := el_cal h fun _ e => ⟨l, b, ns, land, most, many, rfl, h1, h2, h3, h4, ex_l e hs, ex_l e hb, rfl⟩
theorem et_yes : EvT tYes σ H true := fun H1 _ _ q => q H1 (Ex.refl H1)
theorem given_all {n : Nat} {v : Nat → V} {g : Nat → Int} (h : ∀ i, v i = .int (g i)) : given n (fun _ => true) v = ((List.range n).map g).map V.int := by
  unfold given
  rw [List.filter_eq_self.mpr (fun _ _ => rfl), List.map_map]
  exact List.map_congr_left fun i _ => h i
end
end Hx
namespace Hx
open PySem PySem.Spec PyProof.Rows L2 Evl
section
variable {K : PySem.W.Frag} {σ : L2.St} {H : Hp} {ta tb : TE} {x : V}
theorem rv_isN : RV (fun x y H Q => y = .non ∧ Q (.bl (decide (x = .non))) H) x .non H (.bl (decide (x = .non))) := fun H1 _ _ q => ⟨rfl, q H1 (Ex.refl H1)⟩
theorem rv_notN : RV (fun x y H Q => y = .non ∧ Q (.bl (!decide (x = .non))) H) x .non H (.bl (!decide (x = .non))) := fun H1 _ _ q => ⟨rfl, q H1 (Ex.refl H1)⟩
end
end Hx
namespace Hx
open PySem PySem.Spec PyProof.Rows L2 Evl
section
variable {σ : L2.St} {H : Hp}
theorem ev_pow {a b c : Int} (h1 : CPow a b) (h2 : a ^ b.toNat = c) : Ev (tOp (rI CPow fun i j => .int (i ^ j.toNat)) (tC (.int a)) (tC (.int b))) σ H (.int c) := h2 ▸ ev_op ev_c ev_c (rv_I h1)
theorem ev_pow18 : Ev (tOp (rI CPow fun i j => .int (i ^ j.toNat)) (tC (.int 10)) (tC (.int 18))) σ H (.int 1000000000000000000) := ev_pow ⟨by decide, by decide, by decide⟩ (by decide)
theorem ev_pow14 : Ev (tOp (rI CPow fun i j => .int (i ^ j.toNat)) (tC (.int 10)) (tC (.int 14))) σ H (.int 100000000000000) := ev_pow ⟨by decide, by decide, by decide⟩ (by decide)
theorem ev_pow9 : Ev (tOp (rI CPow fun i j => .int (i ^ j.toNat)) (tC (.int 10)) (tC (.int 9))) σ H (.int 1000000000) := ev_pow ⟨by decide, by decide, by decide⟩ (by decide)
end
end Hx
local macro_rules | `(tactic| walk_at "as") => `(tactic| with_reducible assumption)
local macro_rules | `(tactic| walk_at "sq") => `(tactic| first
  | (with_reducible assumption)
  | ((with_reducible apply Evl.sq_of); with_reducible assumption)
  | ((with_reducible apply Evl.st_of); with_reducible assumption)
  | ((with_reducible apply Evl.ex_l); (with_reducible assumption); (walk_at "sq"))
  | ((with_reducible apply Evl.ex_t); (with_reducible assumption); (walk_at "sq")))
local macro_rules | `(tactic| walk_at "hp") => `(tactic| first
  | (with_reducible assumption)
  | (with_reducible exact L2.upd_same)
  | ((with_reducible apply Hx.ex_at); (with_reducible assumption); (walk_at "hp")))
local macro_rules | `(tactic| walk_at "ex") => `(tactic| first
  | (with_reducible assumption)
  | (with_reducible exact Evl.Ex.refl _)
  | ((with_reducible apply Hx.ex_step); (with_reducible assumption); (walk_at "ex")))
local macro_rules | `(tactic| walk_at "sd") => `(tactic| first
  | (with_reducible assumption)
  | omega
  | (dsimp only; omega)
  | (refine Or.inr ⟨?_, ?_⟩ <;> omega)
  | (refine Or.inl ⟨?_, ?_⟩ <;> omega)
  | (refine ⟨?_, ?_⟩ <;> omega)
  | (refine ⟨?_, ?_, ?_⟩ <;> decide))
local macro_rules | `(tactic| walk_at "ix") => `(tactic| first
  | (with_reducible assumption)
  | ((with_reducible refine Hx.getD_ix ?_ ?_) <;> omega)
  | rfl)
local macro_rules | `(tactic| walk_at "rv") => `(tactic| first
  | (with_reducible exact Evl.rv_I0)
  | ((with_reducible apply Evl.rv_I); walk_at "sd")
  | ((with_reducible refine Evl.rv_eq ?_); rfl)
  | ((with_reducible refine Evl.rv_ne ?_); rfl)
  | (with_reducible exact Hx.rv_isN)
  | (with_reducible exact Hx.rv_notN)
  | ((with_reducible apply Evl.rv_ixL); (walk_at "sq"); (walk_at "ix"))
  | ((with_reducible apply Evl.rv_ixT); (walk_at "sq"); (walk_at "ix"))
  | ((with_reducible apply Hx.rv_eqI); (walk_at "sq"); (walk_at "sq"))
  | ((with_reducible apply Hx.rv_neI); (walk_at "sq"); (walk_at "sq")))
local macro_rules | `(tactic| walk_at "rc") => `(tactic| first
  | (with_reducible exact Hx.rc_min)
  | (with_reducible exact Hx.rc_max)
  | (with_reducible exact Hx.rc_intb)
  | ((with_reducible apply Hx.rc_len); walk_at "sq")
  | ((with_reducible apply Hx.rc_lenT); walk_at "sq")
  | with_reducible exact Hx.rc_isi_int Hx.kb_int_int
  | with_reducible exact Hx.rc_isi_int Hx.kb_int_bool
  | with_reducible exact Hx.rc_isi_bl Hx.kb_bool_int
  | with_reducible exact Hx.rc_isi_bl Hx.kb_bool_bool
  | with_reducible exact Hx.rc_isi_non Hx.kb_NoneType_int
  | with_reducible exact Hx.rc_isi_non Hx.kb_NoneType_bool
  | with_reducible exact Hx.rc_isi_str Hx.kb_str_int
  | with_reducible exact Hx.rc_isi_str Hx.kb_str_bool
  | ((with_reducible apply Hx.rc_isi_lst (e := Hx.kb_list_list)); walk_at "hp")
  | ((with_reducible apply Hx.rc_isi_tup (e := Hx.kb_tuple_tuple)); walk_at "hp")
  | ((with_reducible apply Hx.rc_isi_lst (e := Hx.kb_list_int)); walk_at "hp")
  | ((with_reducible apply Hx.rc_isi_tup (e := Hx.kb_tuple_int)); walk_at "hp")
  | ((with_reducible apply Hx.rc_isi_lst (e := Hx.kb_list_bool)); walk_at "hp")
  | ((with_reducible apply Hx.rc_isi_tup (e := Hx.kb_tuple_bool)); walk_at "hp")
  | ((with_reducible apply Hx.rc_isi_lst (e := Hx.kb_list_tuple)); walk_at "hp")
  | ((with_reducible apply Hx.rc_isi_tup (e := Hx.kb_tuple_list)); walk_at "hp")
  | with_reducible exact Hx.rc_isi_int Hx.kb_int_list
  | with_reducible exact Hx.rc_isi_int Hx.kb_int_tuple)
local macro_rules | `(tactic| walk_at "ea") => `(tactic| first
  | (with_reducible exact Evl.ea_nil)
  | ((with_reducible apply Evl.ea_cons); (walk_at "ev"); (walk_at "ea")))
local macro_rules | `(tactic| walk_at "ev") => `(tactic| first
  | ((with_reducible apply Evl.ev_var); rfl)
  | (with_reducible exact Evl.ev_c)
  | (with_reducible exact Hx.ev_pow18)
  | (with_reducible exact Hx.ev_pow14)
  | (with_reducible exact Hx.ev_pow9)
  | ((with_reducible apply Evl.ev_op); (walk_at "ev"); (walk_at "ev"); (walk_at "rv"))
  | ((with_reducible apply Evl.ev_un); (walk_at "ev"); (with_reducible exact Evl.ru_neg))
  | ((with_reducible apply Evl.ev_cb); (walk_at "ea"); (walk_at "rc"))
  | ((with_reducible apply Evl.ev_notV); walk_at "ev")
  | ((with_reducible apply Evl.ev_andV); (walk_at "ev"); (intro _; walk_at "ev"))
  | ((with_reducible apply Evl.ev_orV); (walk_at "ev"); (intro _; walk_at "ev"))
  | walk_at "cal")
local macro_rules | `(tactic| walk_at "et") => `(tactic| first
  | ((with_reducible apply Evl.et_test); walk_at "ev")
  | ((with_reducible apply Evl.et_B); walk_at "ev")
  | ((with_reducible apply Evl.et_not); walk_at "et")
  | ((with_reducible apply Evl.et_and); (walk_at "et"); (intro _; walk_at "et"))
  | ((with_reducible apply Evl.et_or); (walk_at "et"); (intro _; walk_at "et")))
local macro_rules | `(tactic| walk_at "eu") => `(tactic| first
  | ((with_reducible apply Evl.eu_tup); (walk_at "ea"); (exact Nat.le_of_ble_eq_true rfl))
  | ((with_reducible apply Evl.el_lst); (walk_at "ea"); (exact Nat.le_of_ble_eq_true rfl))
  | ((with_reducible apply Evl.el_cb); (walk_at "ea"); ((with_reducible apply Hx.rcl_list); walk_at "sq"))
  | walk_at "calu")
local macro_rules | `(tactic| walk_at "st") => `(tactic| (try dsimp only [List.set]))
local macro_rules | `(tactic| walk_at "wi") => `(tactic| (try dsimp only [List.map, L2.wipe, List.set]))
local macro_rules | `(tactic| walk_at "cal") => `(tactic| first
  | ((with_reducible apply Hx.ev_cel); (walk_at "ea"); (walk_at "sq"); (first | decide | omega))
  | ((with_reducible apply Hx.ev_whole); (walk_at "ea"))
  | ((with_reducible apply Hx.ev_steeper); (walk_at "ea"); (walk_at "sq"); (walk_at "sq"); (omega); (omega); (omega); (omega)))
local macro_rules | `(tactic| walk_at "calu") => `(tactic| first
  | ((with_reducible apply Hx.eu_slope); (walk_at "ea"); (walk_at "sq"); (omega); (omega); (omega); (omega)))

namespace Hx
open PySem PySem.Spec PyProof.Rows L2 Evl
def topS (i : Nat) : Stmt := PySem.Challenge.pw_hillsight_k01_slopes.main.body.getD i (.Pass ⟨0, 0, 0, 0⟩)

section
variable {P : Program} {w : World} {K : PySem.W.Frag} {mg : Str → Option Value} {base : Heap}
abbrev s_law_cell_at : Stmt := topS 5
theorem sc_law_cell_at : FnScope ["_law_script", "_law_k"] ["_law_script", "_law_k"] (defScope s_law_cell_at) := ⟨rfl, rfl, rfl, by decide +kernel, rfl, by decide +kernel, by decide +kernel⟩

theorem ok_cel {f : Addr} {fd : FuncData} (F : Fun K "_law_cell_at" "_law_cell_at" s_law_cell_at f fd) (B : Blt mg) : FnOk P w K mg base CX0 1 f fd ["_law_script", "_law_k"] (spV (RCel K)) := by
  refine F.ok sc_law_cell_at (fun vs H Q E h => ?_) (fun cdv A outer s H vs Q E hr h => ?_)
  · obtain ⟨_, ⟨_, _, _, rfl, _⟩, _⟩ := h
    rfl
  · obtain ⟨v, ⟨l, ns, j, rfl, h0, hs, rfl⟩, q⟩ := h
    refine ⟨_, (pss_cons (ps_if (pt_cmpR op_lt (pv 1) (pe_callB call_len_seq (by rfl) B.m_len PySem.boot_len (pa_cons (pv 0) pa_nil)) (nomark _)) (pss_one (ps_ret (pe_ix ix_list (pv 0) (pv 1) (fun _ _ => rfl)))) pss_nil)
      (pss_one (ps_ret pe_int))), ?_⟩
    try dsimp only [cxOf, Cx.nox, Cx.wish]
    have hl : (ns.map V.int).length = ns.length := List.length_map ..
    apply q_when (b := decide (j < ((ns.map V.int).length : Int)))
    · walk_at "et"
    · intro hb H1 e1
      have hb := of_decide_eq_true hb
      rw [hl] at hb
      apply s_ret
      · walk_at "ev"
      · intro H2 e2
        exact q H2 (by walk_at "ex")
    · intro hb H1 e1
      have hb := of_decide_eq_false hb
      rw [hl] at hb
      apply s_ret
      · walk_at "ev"
      · intro H2 e2
        have e : cel ns j = 0 := by
          unfold cel
          rw [List.getD_eq_getElem?_getD, List.getElem?_eq_none (by omega)]
          rfl
        rw [e] at q
        exact q H2 (by walk_at "ex")
abbrev s_law_whole : Stmt := topS 4
theorem sc_law_whole : FnScope ["_law_found"] ["_law_found"] (defScope s_law_whole) := ⟨rfl, rfl, rfl, by decide +kernel, rfl, by decide +kernel, by decide +kernel⟩

theorem ok_whole {f : Addr} {fd : FuncData} (F : Fun K "_law_whole" "_law_whole" s_law_whole f fd) (B : Blt mg) : FnOk P w K mg base CX0 1 f fd ["_law_found"] (spV RWhole) := by
  refine F.ok sc_law_whole (fun vs H Q E h => ?_) (fun cdv A outer s H vs Q E hr h => ?_)
  · obtain ⟨_, ⟨_, rfl, _⟩, _⟩ := h
    rfl
  · obtain ⟨v, ⟨x, rfl, hx⟩, q⟩ := h
    refine ⟨_, (pss_one (ps_ret (pe_and (pe_callB call_isi (by rfl) B.m_isinstance (by decide +kernel) (pa_cons (pv 0) (pa_cons (pe_bltn (v := .ty "int") (by rfl) B.m_int (by decide +kernel) rfl) pa_nil))) (pe_one (pe_not (pe_callB call_isi (by rfl) B.m_isinstance (by decide +kernel) (pa_cons (pv 0) (pa_cons (pe_bltn (v := .ty "bool") (by rfl) B.m_bool (by decide +kernel) rfl) pa_nil)))))))), ?_⟩
    try dsimp only [cxOf, Cx.nox, Cx.wish]
    rcases hx with ⟨⟨i, rfl⟩, rfl⟩ | ⟨rfl, rfl⟩ | ⟨⟨b, rfl⟩, rfl⟩ | ⟨⟨b, rfl⟩, rfl⟩
    all_goals (
      apply s_ret
      · walk_at "ev"
      · intro H2 e2
        exact q H2 (by walk_at "ex"))
abbrev sslope : Stmt := topS 1
theorem scslope : FnScope ["land", "a", "b"] ["land", "a", "b"] (defScope sslope) := ⟨rfl, rfl, rfl, by decide +kernel, rfl, by decide +kernel, by decide +kernel⟩

theorem ok_slope {f : Addr} {fd : FuncData} (F : Fun K "slope" "slope" sslope f fd) : FnOk P w K mg base CX0 1 f fd ["land", "a", "b"] (spU (RSlope K)) := by
  refine F.ok scslope (fun vs H Q E h => ?_) (fun cdv A outer s H vs Q E hr h => ?_)
  · obtain ⟨_, ⟨_, _, _, _, rfl, _⟩, _⟩ := h
    rfl
  · obtain ⟨v, ⟨l, ns, a, b, rfl, a0, a1, b0, b1, hs, rfl⟩, q⟩ := h
    refine ⟨_, (pss_one (ps_ret (pe_tup (pa_cons (pe_op op_sub (pe_ix ix_list (pv 0) (pv 2) (fun _ _ => rfl)) (pe_ix ix_list (pv 0) (pv 1) (fun _ _ => rfl))) (pa_cons (pe_op op_sub (pv 2) (pv 1)) pa_nil))))), ?_⟩
    try dsimp only [cxOf, Cx.nox, Cx.wish]
    apply s_retU
    · walk_at "eu"
    · intro p H1 hp e1 h1
      exact q p H1 hp e1 h1
abbrev ssteeper : Stmt := topS 2
theorem scsteeper : FnScope ["one", "other", "rise", "run", "lift", "length"] ["one", "other"] (defScope ssteeper) := ⟨rfl, rfl, rfl, by decide +kernel, rfl, by decide +kernel, by decide +kernel⟩

theorem ok_steeper {f : Addr} {fd : FuncData} (F : Fun K "steeper" "steeper" ssteeper f fd) : FnOk P w K mg base CX0 1 f fd ["one", "other"] (spV (RSteeper K)) := by
  refine F.ok scsteeper (fun vs H Q E h => ?_) (fun cdv A outer s H vs Q E hr h => ?_)
  · obtain ⟨_, ⟨_, _, _, _, _, _, rfl, _⟩, _⟩ := h
    rfl
  · obtain ⟨v, ⟨p1, p2, r1, n1, r2, n2, rfl, hp1, hp2, b1, b2, b3, b4, rfl⟩, q⟩ := h
    refine ⟨_, (pss_cons (ps_asg (pv 0) (pg_tup rfl (pgs_cons (pg_name (i := 2) scsteeper.nd rfl (Or.inl rfl)) (pgs_cons (pg_name (i := 3) scsteeper.nd rfl (Or.inl rfl)) pgs_nil))))
      (pss_cons (ps_asg (pv 1) (pg_tup rfl (pgs_cons (pg_name (i := 4) scsteeper.nd rfl (Or.inl rfl)) (pgs_cons (pg_name (i := 5) scsteeper.nd rfl (Or.inl rfl)) pgs_nil))))
      (pss_one (ps_ret (pe_cmpR op_gt (pe_op op_mul (pv 2) (pv 5)) (pe_op op_mul (pv 4) (pv 3)) (nomark _)))))), ?_⟩
    try dsimp only [cxOf, Cx.nox, Cx.wish]
    refine q_unpack (x := .int r1) (y := .int n1) (by walk_at "ev") (by walk_at "sq") fun H1 e1 => ?_
    refine q_unpack (x := .int r2) (y := .int n2) (by walk_at "ev") (by walk_at "sq") fun H2 e2 => ?_
    apply s_ret
    · walk_at "ev"
    · intro H3 e3
      exact q H3 (by walk_at "ex")
def spLaw (K : PySem.W.Frag) : Sp := fun vs H Q _ => ∃ (a : Addr) (ns : List Int), vs = [.ref a] ∧ SqL K H a (ns.map V.int) ∧ ns.length ≤ 63 ∧ ∀ H', Q (.bl true) H'
abbrev slaw : Stmt := topS 6
theorem sclaw : FnScope ["_law_script", "_law_far", "_law_kind", "_law_one", "_law_other", "_law_many", "_law_left", "_law_right", "_law_found", "_law_size", "_law_land", "_law_k", "_law_low", "_law_high", "_law_handed"] ["_law_script"] (defScope slaw) := ⟨rfl, rfl, rfl, by decide +kernel, rfl, by decide +kernel, by decide +kernel⟩

def heights (f : Nat → Int) (n : Nat) : List Int := (List.range n).map f
theorem heights_succ (f : Nat → Int) (n : Nat) : (heights f (n + 1)).map V.int = (heights f n).map V.int ++ [.int (f n)] := by
  unfold heights
  rw [List.range_succ, List.map_append, List.map_append]
  rfl
theorem heights_len (f : Nat → Int) (n : Nat) : (heights f n).length = n := by
  unfold heights
  rw [List.length_map, List.length_range]
theorem prod_small {a b m n : Int} (h1 : -m ≤ a) (h2 : a ≤ m) (h3 : 0 ≤ b) (h4 : b ≤ n) (hm : 0 ≤ m) : -(m * n) ≤ a * b ∧ a * b ≤ m * n := by
  have k1 : m * b ≤ m * n := Int.mul_le_mul_of_nonneg_left h4 hm
  have k2 : a * b ≤ m * b := Int.mul_le_mul_of_nonneg_right h2 h3
  have k3 : (-m) * b ≤ a * b := Int.mul_le_mul_of_nonneg_right h1 h3
  have k4 : (-m) * b = -(m * b) := Int.neg_mul ..
  omega
theorem ok_law {f : Addr} {fd : FuncData} (F : Fun K "law" "law" slaw f fd) (B : Blt mg) (C__law_cell_at : Cal P w K mg base "_law_cell_at" 1 ["_law_script", "_law_k"] (spV (RCel K))) (C__law_whole : Cal P w K mg base "_law_whole" 1 ["_law_found"] (spV RWhole))
    (C_slope : Cal P w K mg base "slope" 1 ["land", "a", "b"] (spU (RSlope K))) (C_steeper : Cal P w K mg base "steeper" 1 ["one", "other"] (spV (RSteeper K))) : FnOk P w K mg base CX0 2 f fd ["_law_script"] (spLaw K) := by
  refine F.ok sclaw (fun vs H Q E h => ?_) (fun cdv A outer s H vs Q E hr h => ?_)
  · obtain ⟨_, _, rfl, _⟩ := h
    rfl
  · obtain ⟨l, ns, rfl, hs, hlen, q⟩ := h
    refine ⟨_, (pss_cons (ps_set (i := 1) sclaw.nd rfl (Or.inl rfl) (pe_op op_pow pe_int pe_int))
      (pss_cons (ps_set (i := 2) sclaw.nd rfl (Or.inl rfl) (pe_op op_mod (pe_cal C__law_cell_at hr (pa_cons (pv 0) (pa_cons pe_int pa_nil))) pe_int))
      (pss_cons (ps_set (i := 3) sclaw.nd rfl (Or.inl rfl) (pe_tup (pa_cons (pe_op op_sub (pe_op op_mod (pe_op op_mul (pe_cal C__law_cell_at hr (pa_cons (pv 0) (pa_cons pe_int pa_nil))) pe_int) (pe_op op_add (pe_op op_mul pe_int (pv 1)) pe_int)) (pe_op op_mul pe_int (pv 1))) (pa_cons (pe_op op_add pe_int (pe_op op_mod (pe_cal C__law_cell_at hr (pa_cons (pv 0) (pa_cons pe_int pa_nil))) pe_int)) pa_nil))))
      (pss_cons (ps_set (i := 4) sclaw.nd rfl (Or.inl rfl) (pe_tup (pa_cons (pe_op op_sub (pe_op op_mod (pe_op op_mul (pe_cal C__law_cell_at hr (pa_cons (pv 0) (pa_cons pe_int pa_nil))) pe_int) (pe_op op_add (pe_op op_mul pe_int (pv 1)) pe_int)) (pe_op op_mul pe_int (pv 1))) (pa_cons (pe_op op_add pe_int (pe_op op_mod (pe_cal C__law_cell_at hr (pa_cons (pv 0) (pa_cons pe_int pa_nil))) pe_int)) pa_nil))))
      (Evl.pss_cut (ps_if (pt_cmpR op_eq (pv 2) pe_int (nomark _)) (pss_cons (ps_set (i := 3) sclaw.nd rfl (Or.inl rfl) (pe_tup (pa_cons (pe_op op_sub (pe_op op_mod (pe_cal C__law_cell_at hr (pa_cons (pv 0) (pa_cons pe_int pa_nil))) pe_int) pe_int) (pa_cons (pe_op op_add pe_int (pe_op op_mod (pe_cal C__law_cell_at hr (pa_cons (pv 0) (pa_cons pe_int pa_nil))) pe_int)) pa_nil))))
      (pss_cons (ps_set (i := 5) sclaw.nd rfl (Or.inl rfl) (pe_op op_add pe_int (pe_op op_mod (pe_cal C__law_cell_at hr (pa_cons (pv 0) (pa_cons pe_int pa_nil))) pe_int)))
      (pss_one (ps_set (i := 4) sclaw.nd rfl (Or.inl rfl) (pe_tup (pa_cons (pe_op op_sub (pe_op op_add (pe_op op_mul (pe_ix ix_tup (pv 3) pe_int (fun _ _ => rfl)) (pv 5)) (pe_op op_mod (pe_cal C__law_cell_at hr (pa_cons (pv 0) (pa_cons pe_int pa_nil))) pe_int)) pe_int) (pa_cons (pe_op op_mul (pe_ix ix_tup (pv 3) pe_int (fun _ _ => rfl)) (pv 5)) pa_nil))))))) pss_nil)
      (Evl.pss_cut (ps_if (pt_cmpR op_eq (pv 2) pe_int (nomark _)) (pss_cons (ps_set (i := 3) sclaw.nd rfl (Or.inl rfl) (pe_tup (pa_cons (pe_op op_sub (pe_op op_mod (pe_cal C__law_cell_at hr (pa_cons (pv 0) (pa_cons pe_int pa_nil))) pe_int) pe_int) (pa_cons (pe_op op_add pe_int (pe_op op_mod (pe_cal C__law_cell_at hr (pa_cons (pv 0) (pa_cons pe_int pa_nil))) pe_int)) pa_nil))))
      (pss_one (ps_set (i := 4) sclaw.nd rfl (Or.inl rfl) (pe_tup (pa_cons (pe_op op_sub (pe_op op_mod (pe_cal C__law_cell_at hr (pa_cons (pv 0) (pa_cons pe_int pa_nil))) pe_int) pe_int) (pa_cons (pe_op op_add pe_int (pe_op op_mod (pe_cal C__law_cell_at hr (pa_cons (pv 0) (pa_cons pe_int pa_nil))) pe_int)) pa_nil)))))) pss_nil)
      (pss_cons (ps_for PassesOwn.never rfl (pi_tup (pe_tup (pa_cons (pe_tup (pa_cons (pv 3) (pa_cons (pv 4) pa_nil))) (pa_cons (pe_tup (pa_cons (pv 4) (pa_cons (pv 3) pa_nil))) pa_nil)))) (pg_tup rfl (pgs_cons (pg_name (i := 6) sclaw.nd rfl (Or.inl rfl)) (pgs_cons (pg_name (i := 7) sclaw.nd rfl (Or.inl rfl)) pgs_nil))) (pss_cons (ps_set (i := 8) sclaw.nd rfl (Or.inl rfl) (pe_cal C_steeper hr (pa_cons (pv 6) (pa_cons (pv 7) pa_nil))))
      (pss_one (ps_if (PW.pt (pw_or (pt_not (pt_val (pe_callB call_isi (by rfl) B.m_isinstance (by decide +kernel) (pa_cons (pv 8) (pa_cons (pe_bltn (v := .ty "bool") (by rfl) B.m_bool (by decide +kernel) rfl) pa_nil))))) (pw_or1 (pt_cmpR op_ne (pv 8) (pe_cmpR op_gt (pe_op op_mul (pe_ix ix_tup (pv 6) pe_int (fun _ _ => rfl)) (pe_ix ix_tup (pv 7) pe_int (fun _ _ => rfl))) (pe_op op_mul (pe_ix ix_tup (pv 7) pe_int (fun _ _ => rfl)) (pe_ix ix_tup (pv 6) pe_int (fun _ _ => rfl))) (nomark _)) (nomark _))))) (pss_one (ps_ret pe_bl)) pss_nil))))
      (pss_cons (ps_set (i := 9) sclaw.nd rfl (Or.inl rfl) (pe_op op_add pe_int (pe_op op_mod (pe_cal C__law_cell_at hr (pa_cons (pv 0) (pa_cons pe_int pa_nil))) pe_int)))
      (pss_cons (ps_set (i := 10) sclaw.nd rfl (Or.inl rfl) (pe_lst pa_nil))
      (pss_cons (ps_for PassesOwn.never rfl (pi_range1 (by rfl) B.m_range (pa_cons (pv 9) pa_nil)) (pg_name (i := 11) sclaw.nd rfl (Or.inl rfl)) (pss_one (ps_expr (pe_bm PySem.F.plainAttrs_list PySem.F.slot_list_append PySem.F.type_list_append mt_append (pv 10) (pa_cons (pe_op op_sub (pe_op op_mod (pe_op op_mul (pe_cal C__law_cell_at hr (pa_cons (pv 0) (pa_cons (pe_op op_add pe_int (pe_op op_mod (pv 11) pe_int)) pa_nil))) (pe_op op_add pe_int (pv 11))) (pe_op op_add (pe_op op_mul pe_int (pv 1)) pe_int)) (pv 1)) pa_nil)))))
      (pss_cons (ps_set (i := 12) sclaw.nd rfl (Or.inl rfl) (pe_op op_mod (pe_cal C__law_cell_at hr (pa_cons (pv 0) (pa_cons pe_int pa_nil))) (pe_op op_sub (pv 9) pe_int)))
      (pss_cons (ps_set (i := 13) sclaw.nd rfl (Or.inl rfl) (pe_op op_add (pe_op op_add (pv 12) pe_int) (pe_op op_mod (pe_op op_fdiv (pe_cal C__law_cell_at hr (pa_cons (pv 0) (pa_cons pe_int pa_nil))) pe_int) (pe_op op_sub (pe_op op_sub (pv 9) pe_int) (pv 12)))))
      (pss_cons (ps_set (i := 14) sclaw.nd rfl (Or.inl rfl) (pe_callTy call_list_of (by rfl) B.m_list (by decide +kernel) (pa_cons (pv 10) pa_nil)))
      (pss_cons (ps_set (i := 8) sclaw.nd rfl (Or.inl rfl) (pe_cal C_slope hr (pa_cons (pv 14) (pa_cons (pv 12) (pa_cons (pv 13) pa_nil)))))
      (pss_cons (ps_if (PW.pt (pw_or (pt_not (pt_val (pe_callB call_isi (by rfl) B.m_isinstance (by decide +kernel) (pa_cons (pv 8) (pa_cons (pe_bltn (v := .ty "tuple") (by rfl) B.m_tuple (by decide +kernel) rfl) pa_nil))))) (pw_or (pt_cmpR op_ne (pe_callB call_len_seq (by rfl) B.m_len PySem.boot_len (pa_cons (pv 8) pa_nil)) pe_int (nomark _)) (pw_or1 (pt_cmpR (op_neD hr.units) (pv 14) (pv 10) (nomark _)))))) (pss_one (ps_ret pe_bl)) pss_nil)
      (pss_cons (ps_if (PW.pt (pw_or (pt_not (pt_val (pe_cal C__law_whole hr (pa_cons (pe_ix ix_tup (pv 8) pe_int (fun _ _ => rfl)) pa_nil)))) (pw_or1 (pt_not (pt_val (pe_cal C__law_whole hr (pa_cons (pe_ix ix_tup (pv 8) pe_int (fun _ _ => rfl)) pa_nil))))))) (pss_one (ps_ret pe_bl)) pss_nil)
      (pss_one (ps_ret (pe_and (pe_cmpR op_eq (pe_ix ix_tup (pv 8) pe_int (fun _ _ => rfl)) (pe_op op_sub (pe_ix ix_list (pv 10) (pv 13) (fun _ _ => rfl)) (pe_ix ix_list (pv 10) (pv 12) (fun _ _ => rfl))) (nomark _)) (pe_one (pe_cmpR op_eq (pe_ix ix_tup (pv 8) pe_int (fun _ _ => rfl)) (pe_op op_sub (pv 13) (pv 12)) (nomark _)))))))))))))))))))))), ?_⟩
    try dsimp only [cxOf, Cx.nox, Cx.wish]
    refine q_asg (v := .int 1000000000000000000) (by walk_at "ev") fun H1 e1 => ?_
    apply q_asg
    · walk_at "ev"
    intro H2 e2
    apply q_asgU
    · walk_at "eu"
    intro p1 H3 np1 e3 h3
    apply q_asgU
    · walk_at "eu"
    intro p2 H4 np2 e4 h4
    -- the first if
    refine q_cut (M := fun σ' H' => ∃ p1 p2 r1 n1 r2 n2 m5, σ' = [some (.ref l), some (.int 1000000000000000000), some (.int (cel ns 0 % 3)), some (.ref p1), some (.ref p2), m5, none, none, none, none, none, none, none, none, none] ∧ Ex H H' ∧ H' p1 = some (.tup [.int r1, .int n1]) ∧ H' p2 = some (.tup [.int r2, .int n2]) ∧
      (-2000000000000000000 ≤ r1 ∧ r1 ≤ 2000000000000000000) ∧ (-2000000000000000000 ≤ r2 ∧ r2 ≤ 2000000000000000000) ∧ (1 ≤ n1 ∧ n1 ≤ 199) ∧ (1 ≤ n2 ∧ n2 ≤ 199)) ?_ ?_
    · apply s_when
      · walk_at "et"
      · intro _ H5 e5
        apply q_asgU
        · walk_at "eu"
        intro p1' H6 np1' e6 h6
        apply q_asg
        · walk_at "ev"
        intro H7 e7
        apply s_asgU
        · walk_at "eu"
        intro p2' H8 np2' e8 h8
        have k1 := prod_small (a := cel ns 1 % 1000 - 500) (b := 1 + cel ns 3 % 3) (m := 500) (n := 3) (by omega) (by omega) (by omega) (by omega) (by omega)
        have k2 := Int.mul_le_mul (a := 1 + cel ns 2 % 60) (b := 1 + cel ns 3 % 3) (c := 60) (d := 3) (by omega) (by omega) (by omega) (by omega)
        have k3 := Int.mul_pos (a := 1 + cel ns 2 % 60) (b := 1 + cel ns 3 % 3) (by omega) (by omega)
        exact ⟨p1', p2', _, _, _, _, _, rfl, by walk_at "ex", by walk_at "hp", h8, by omega, by omega, by omega, by omega⟩
      · intro _ H5 e5
        exact ⟨p1, p2, _, _, _, _, _, rfl, by walk_at "ex", by walk_at "hp", by walk_at "hp", by omega, by omega, by omega, by omega⟩
    clear h3 h4 np1 np2 e4 e3 e2 e1
    clear H4 H3 H2 H1 p1 p2
    rintro σ' H1 ⟨p1, p2, r1, n1, r2, n2, m5, rfl, e1, h1, h2, b1, b2, b3, b4⟩
    -- the second if
    refine q_cut (M := fun σ' H' => ∃ p1 p2 r1 n1 r2 n2 m5, σ' = [some (.ref l), some (.int 1000000000000000000), some (.int (cel ns 0 % 3)), some (.ref p1), some (.ref p2), m5, none, none, none, none, none, none, none, none, none] ∧ Ex H H' ∧ H' p1 = some (.tup [.int r1, .int n1]) ∧ H' p2 = some (.tup [.int r2, .int n2]) ∧
      (-2000000000000000000 ≤ r1 ∧ r1 ≤ 2000000000000000000) ∧ (-2000000000000000000 ≤ r2 ∧ r2 ≤ 2000000000000000000) ∧ (1 ≤ n1 ∧ n1 ≤ 199) ∧ (1 ≤ n2 ∧ n2 ≤ 199)) ?_ ?_
    · apply s_when
      · walk_at "et"
      · intro _ H5 e5
        apply q_asgU
        · walk_at "eu"
        intro p1' H6 np1' e6 h6
        apply s_asgU
        · walk_at "eu"
        intro p2' H8 np2' e8 h8
        exact ⟨p1', p2', _, _, _, _, _, rfl, by walk_at "ex", by walk_at "hp", h8, by omega, by omega, by omega, by omega⟩
      · intro _ H5 e5
        exact ⟨p1, p2, _, _, _, _, _, rfl, by walk_at "ex", by walk_at "hp", by walk_at "hp", by omega, by omega, by omega, by omega⟩
    clear h1 h2 b1 b2 b3 b4 e1
    clear H1 p1 p2 r1 r2 n1 n2 m5
    rintro σ' H1 ⟨p1, p2, r1, n1, r2, n2, m5, rfl, e1, h1, h2, b1, b2, b3, b4⟩
    -- the loop over the two pairs
    have sz2 : ∀ a b : V, [a, b].length ≤ sizeLine := fun a b => sz_of (Nat.le_of_ble_eq_true rfl)
    refine ⟨_, rfl, _, rfl, sz2 _ _, fun t1 nt1 => ?_⟩
    refine ⟨_, rfl, _, rfl, sz2 _ _, fun t2 nt2 => ?_⟩
    refine ⟨sz2 _ _, fun t nt => ?_⟩
    have f1 := Ex.new (o := .tup [.ref p1, .ref p2]) nt1
    have f2 := Ex.new (o := .tup [.ref p2, .ref p1]) nt2
    have f3 := Ex.new (o := .tup [.ref t1, .ref t2]) nt
    have g1 := ((e1.trans f1).trans f2).trans f3
    have u1 := f3 _ _ (f2 _ _ (f1 _ _ h1))
    have u2 := f3 _ _ (f2 _ _ (f1 _ _ h2))
    have w1 := f3 _ _ (f2 _ _ (L2.upd_same (H := H1) (a := t1) (o := .tup [.ref p1, .ref p2])))
    have w2 := f3 _ _ (L2.upd_same (H := upd H1 t1 (.tup [.ref p1, .ref p2])) (a := t2) (o := .tup [.ref p2, .ref p1]))
    have w3 := L2.upd_same (H := upd (upd H1 t1 (.tup [.ref p1, .ref p2])) t2 (.tup [.ref p2, .ref p1])) (a := t) (o := .tup [.ref t1, .ref t2])
    refine ⟨t, rfl, ⟨_, st_of w3⟩, ?_⟩
    revert g1 u1 u2 w1 w2 w3
    generalize upd (upd (upd H1 t1 (.tup [.ref p1, .ref p2])) t2 (.tup [.ref p2, .ref p1])) t (.tup [.ref t1, .ref t2]) = H2
    intro g1 u1 u2 w1 w2 w3
    clear f1 f2 f3 nt1 nt2 nt h1 h2 e1
    clear H1
    refine for_tup (xs := [.ref t1, .ref t2]) (fun i σ' H' => Ex H2 H' ∧ ∃ v6 v7 v8, σ' = [some (.ref l), some (.int 1000000000000000000), some (.int (cel ns 0 % 3)), some (.ref p1), some (.ref p2), m5, v6, v7, v8, none, none, none, none, none, none])
      ⟨Ex.refl _, none, none, none, rfl⟩ (fun i σ' H' _ p => ex_t p.1 (st_of w3)) ?_ ?_
    · rintro i x σ' H' hi ⟨e2, v6, v7, v8, rfl⟩
      obtain ⟨t', q1, q2, c1, d1, c2, d2, rfl, ht, h1, h2, b1, b2, b3, b4⟩ : ∃ (t' q1 q2 : Addr) (c1 d1 c2 d2 : Int), x = .ref t' ∧ H2 t' = some (.tup [.ref q1, .ref q2]) ∧ H2 q1 = some (.tup [.int c1, .int d1]) ∧ H2 q2 = some (.tup [.int c2, .int d2]) ∧
          (-2000000000000000000 ≤ c1 ∧ c1 ≤ 2000000000000000000) ∧ (-2000000000000000000 ≤ c2 ∧ c2 ≤ 2000000000000000000) ∧ (1 ≤ d1 ∧ d1 ≤ 199) ∧ (1 ≤ d2 ∧ d2 ≤ 199) := by
        match i, hi with
        | 0, hi => exact ⟨t1, p1, p2, _, _, _, _, (Option.some.inj hi).symm, w1, u1, u2, b1, b2, b3, b4⟩
        | 1, hi => exact ⟨t2, p2, p1, _, _, _, _, (Option.some.inj hi).symm, w2, u2, u1, b2, b1, b4, b3⟩
      refine g_tup2 (ex_t e2 (st_of ht)) ?_
      apply q_asg
      · walk_at "ev"
      intro H3 e3
      apply s_when
      · walk_at "et"
      · intro hb
        exact absurd hb (by simp)
      · intro _ H4 e4
        exact ⟨by walk_at "ex", _, _, _, rfl⟩
    · rintro σ' H' ⟨e2, v6, v7, v8, rfl⟩
      have e3 : Ex H H' := g1.trans e2
      clear e2 u1 u2 w1 w2 w3 g1
      clear H2
      dsimp only
      obtain ⟨z, hz⟩ : ∃ z, 2 + cel ns 5 % 59 = z := ⟨_, rfl⟩
      refine q_asg (v := .int z) (ev_int (by walk_at "ev") hz) fun H3 e4 => ?_
      have z2 : 2 ≤ z ∧ z ≤ 60 := by omega
      clear hz
      refine q_asgL (xs := []) (by walk_at "eu") fun lp H4 nl e5 hl => ?_
      -- the land is built
      refine q_forR1 (n := z) (by walk_at "ea") (by omega) (fun i σ' H' => (Ex H3 H' ∧ H' lp = some (.lst ((heights (fun k => cel ns (7 + (k : Int) % 20) * (48271 + (k : Int)) % (2 * 1000000000000000000 + 1) - 1000000000000000000) i).map V.int))) ∧ ∃ v11, σ' = [some (.ref l), some (.int 1000000000000000000), some (.int (cel ns 0 % 3)), some (.ref p1), some (.ref p2), m5, v6, v7, v8, some (.int z), some (.ref lp), v11, none, none, none])
        (fun H5 e6 => ⟨⟨by walk_at "ex", by (show H5 lp = some (.lst [])); walk_at "hp"⟩, none, rfl⟩) ?_ ?_
      · rintro i σ' H5 hi ⟨⟨e6, hl⟩, v11, rfl⟩
        refine s_app hl (by walk_at "ev") (by walk_at "ev") (by rw [List.length_map, heights_len]; omega) fun H6 e7 => ?_
        refine ⟨⟨Ex.mut (by walk_at "ex") nl, ?_⟩, _, rfl⟩
        rw [upd_same, heights_succ]
      · rintro σ' H5 ⟨⟨e6, hl⟩, v11, rfl⟩
        obtain ⟨land, hland, hlen'⟩ : ∃ land, heights (fun k => cel ns (7 + (k : Int) % 20) * (48271 + (k : Int)) % (2 * 1000000000000000000 + 1) - 1000000000000000000) z.toNat = land ∧ land.length = z.toNat := ⟨_, rfl, heights_len _ _⟩
        rw [hland] at hl
        clear hland
        obtain ⟨lo, hlo⟩ : ∃ lo, cel ns 6 % (z - 1) = lo := ⟨_, rfl⟩
        refine q_asg (v := .int lo) (ev_int (by walk_at "ev") hlo) fun H6 e7 => ?_
        have lo1 : 0 ≤ lo := hlo ▸ Int.emod_nonneg _ (by omega)
        have lo2 : lo < z - 1 := hlo ▸ Int.emod_lt_of_pos _ (by omega)
        clear hlo
        obtain ⟨hi, hhi⟩ : ∃ hi, lo + 1 + cel ns 6 / 60 % (z - 1 - lo) = hi := ⟨_, rfl⟩
        refine q_asg (v := .int hi) (ev_int (by walk_at "ev") hhi) fun H7 e8 => ?_
        have r1 := Int.emod_nonneg (cel ns 6 / 60) (b := z - 1 - lo) (by omega)
        have r2 := Int.emod_lt_of_pos (cel ns 6 / 60) (b := z - 1 - lo) (by omega)
        have hi1 : lo < hi := by omega
        have hi2 : hi < z := by omega
        clear hhi r1 r2
        refine q_asgL (xs := land.map V.int) (by walk_at "eu") fun hp H8 nh e9 hh => ?_
        refine q_asgU (by walk_at "eu") fun tp H9 nt e10 ht => ?_
        apply q_when
        · walk_at "et"
        · intro hb
          exact absurd hb (by simp)
        · intro _ H10 e11
          apply q_when
          · walk_at "et"
          · intro hb
            exact absurd hb (by simp)
          · intro _ H11 e12
            apply s_ret
            · refine ev_is (w := .bl true) (by walk_at "ev") (by simp)
            · intro H12 _
              exact q H12
end
section
theorem all_mk {l : PySem.W.OpenLaw} {w : World} {K : PySem.W.Frag} {h : Heap} {mg : Str → Option Value} {fa : Addr} {f__law_cell_at f__law_whole f_slope f_steeper f_law : Addr} (X : K.In h) (G : h.Ns mainGlobals mg) (hfa : mg "law" = some (.ref fa))
    {od__law_cell_at an__law_cell_at : Option Addr} {sl__law_cell_at : Array (Option Value)} {oc__law_cell_at kV__law_cell_at dc__law_cell_at pm__law_cell_at cd__law_cell_at ct__law_cell_at : Value}
    (a__law_cell_at : PySem.W.nsIn K mainGlobals "_law_cell_at" = some (some (.ref f__law_cell_at)))
    (l__law_cell_at : K.lookup f__law_cell_at = some ⟨oc__law_cell_at, od__law_cell_at, .func (PySem.W.fnOf "_law_cell_at" "_law_cell_at" (defArgs s_law_cell_at) (defBody s_law_cell_at) (defScope s_law_cell_at) .none kV__law_cell_at dc__law_cell_at pm__law_cell_at an__law_cell_at cd__law_cell_at ct__law_cell_at), sl__law_cell_at⟩)
    (c__law_cell_at : PySem.W.codeIn K cd__law_cell_at "_law_cell_at" = true) (k__law_cell_at : PySem.W.keepIn K (.ref f__law_cell_at) = true)
    {od__law_whole an__law_whole : Option Addr} {sl__law_whole : Array (Option Value)} {oc__law_whole kV__law_whole dc__law_whole pm__law_whole cd__law_whole ct__law_whole : Value}
    (a__law_whole : PySem.W.nsIn K mainGlobals "_law_whole" = some (some (.ref f__law_whole)))
    (l__law_whole : K.lookup f__law_whole = some ⟨oc__law_whole, od__law_whole, .func (PySem.W.fnOf "_law_whole" "_law_whole" (defArgs s_law_whole) (defBody s_law_whole) (defScope s_law_whole) .none kV__law_whole dc__law_whole pm__law_whole an__law_whole cd__law_whole ct__law_whole), sl__law_whole⟩)
    (c__law_whole : PySem.W.codeIn K cd__law_whole "_law_whole" = true) (k__law_whole : PySem.W.keepIn K (.ref f__law_whole) = true)
    {od_slope an_slope : Option Addr} {sl_slope : Array (Option Value)} {oc_slope kV_slope dc_slope pm_slope cd_slope ct_slope : Value}
    (a_slope : PySem.W.nsIn K mainGlobals "slope" = some (some (.ref f_slope)))
    (l_slope : K.lookup f_slope = some ⟨oc_slope, od_slope, .func (PySem.W.fnOf "slope" "slope" (defArgs sslope) (defBody sslope) (defScope sslope) .none kV_slope dc_slope pm_slope an_slope cd_slope ct_slope), sl_slope⟩)
    (c_slope : PySem.W.codeIn K cd_slope "slope" = true) (k_slope : PySem.W.keepIn K (.ref f_slope) = true)
    {od_steeper an_steeper : Option Addr} {sl_steeper : Array (Option Value)} {oc_steeper kV_steeper dc_steeper pm_steeper cd_steeper ct_steeper : Value}
    (a_steeper : PySem.W.nsIn K mainGlobals "steeper" = some (some (.ref f_steeper)))
    (l_steeper : K.lookup f_steeper = some ⟨oc_steeper, od_steeper, .func (PySem.W.fnOf "steeper" "steeper" (defArgs ssteeper) (defBody ssteeper) (defScope ssteeper) .none kV_steeper dc_steeper pm_steeper an_steeper cd_steeper ct_steeper), sl_steeper⟩)
    (c_steeper : PySem.W.codeIn K cd_steeper "steeper" = true) (k_steeper : PySem.W.keepIn K (.ref f_steeper) = true)
    {od_law an_law : Option Addr} {sl_law : Array (Option Value)} {oc_law kV_law dc_law pm_law cd_law ct_law : Value}
    (a_law : PySem.W.nsIn K mainGlobals "law" = some (some (.ref f_law)))
    (l_law : K.lookup f_law = some ⟨oc_law, od_law, .func (PySem.W.fnOf "law" "law" (defArgs slaw) (defBody slaw) (defScope slaw) .none kV_law dc_law pm_law an_law cd_law ct_law), sl_law⟩)
    (c_law : PySem.W.codeIn K cd_law "law" = true) (k_law : PySem.W.keepIn K (.ref f_law) = true)
    (z_len : PySem.W.nsIn K mainGlobals "len" = some none)
    (z_range : PySem.W.nsIn K mainGlobals "range" = some none)
    (z_isinstance : PySem.W.nsIn K mainGlobals "isinstance" = some none)
    (z_int : PySem.W.nsIn K mainGlobals "int" = some none)
    (z_bool : PySem.W.nsIn K mainGlobals "bool" = some none)
    (z_list : PySem.W.nsIn K mainGlobals "list" = some none)
    (z_tuple : PySem.W.nsIn K mainGlobals "tuple" = some none)
    (z_min : PySem.W.nsIn K mainGlobals "min" = some none)
    (z_max : PySem.W.nsIn K mainGlobals "max" = some none)
    (z_all : PySem.W.nsIn K mainGlobals "all" = some none)
    (z_sorted : PySem.W.nsIn K mainGlobals "sorted" = some none)
    (z_ValueError : PySem.W.nsIn K mainGlobals "ValueError" = some none)
    : ∃ fd : FuncData, (∀ (s : Shared) (v : Value), BindsTo s fd ⟨[v], []⟩ [("_law_script", v)]) ∧ ∀ base : Heap, K.In base → base.Ns mainGlobals mg → FnOk l.prog w K mg base CX0 2 fa fd ["_law_script"] (spLaw K) := by
  have e := hfa.symm.trans (PySem.W.mg_of X G a_law)
  cases e
  have F__law_cell_at := fun_mk (st := s_law_cell_at) l__law_cell_at c__law_cell_at k__law_cell_at
  have F__law_whole := fun_mk (st := s_law_whole) l__law_whole c__law_whole k__law_whole
  have F_slope := fun_mk (st := sslope) l_slope c_slope k_slope
  have F_steeper := fun_mk (st := ssteeper) l_steeper c_steeper k_steeper
  have F_law := fun_mk (st := slaw) l_law c_law k_law
  have B : Blt mg := ⟨PySem.W.mg_none_of X G z_len, PySem.W.mg_none_of X G z_range, PySem.W.mg_none_of X G z_isinstance, PySem.W.mg_none_of X G z_int, PySem.W.mg_none_of X G z_bool, PySem.W.mg_none_of X G z_list, PySem.W.mg_none_of X G z_tuple, PySem.W.mg_none_of X G z_min, PySem.W.mg_none_of X G z_max, PySem.W.mg_none_of X G z_all, PySem.W.mg_none_of X G z_sorted, PySem.W.mg_none_of X G z_ValueError⟩
  refine ⟨PySem.W.fnOf "law" "law" (defArgs slaw) (defBody slaw) (defScope slaw) .none kV_law dc_law pm_law an_law cd_law ct_law, fun s v => .of_eq rfl, fun base _ _ => ?_⟩
  have C__law_cell_at : Cal l.prog w K mg base "_law_cell_at" 1 ["_law_script", "_law_k"] (spV (RCel K)) := ⟨f__law_cell_at, _, ok_cel F__law_cell_at B, PySem.W.mg_of X G a__law_cell_at, F__law_cell_at.kp, F__law_cell_at.binds (ps := ["_law_script", "_law_k"]) fun _ _ _ _ _ _ us hl => match us, hl with | [_, _], _ => rfl⟩
  have C__law_whole : Cal l.prog w K mg base "_law_whole" 1 ["_law_found"] (spV RWhole) := ⟨f__law_whole, _, ok_whole F__law_whole B, PySem.W.mg_of X G a__law_whole, F__law_whole.kp, F__law_whole.binds (ps := ["_law_found"]) fun _ _ _ _ _ _ us hl => match us, hl with | [_], _ => rfl⟩
  have C_slope : Cal l.prog w K mg base "slope" 1 ["land", "a", "b"] (spU (RSlope K)) := ⟨f_slope, _, ok_slope F_slope, PySem.W.mg_of X G a_slope, F_slope.kp, F_slope.binds (ps := ["land", "a", "b"]) fun _ _ _ _ _ _ us hl => match us, hl with | [_, _, _], _ => rfl⟩
  have C_steeper : Cal l.prog w K mg base "steeper" 1 ["one", "other"] (spV (RSteeper K)) := ⟨f_steeper, _, ok_steeper F_steeper, PySem.W.mg_of X G a_steeper, F_steeper.kp, F_steeper.binds (ps := ["one", "other"]) fun _ _ _ _ _ _ us hl => match us, hl with | [_, _], _ => rfl⟩
  exact ok_law F_law B C__law_cell_at C__law_whole C_slope C_steeper
end
end Hx
open PySem PySem.W PyProof.Rows
set_option maxHeartbeats 0 in
set_option maxRecDepth 100000 in
theorem PySem.Challenge.cw_hillsight_k01_slopes_holds : PySem.Challenge.rw_hillsight_k01_slopes.Holds := by
  w_on; o_law; k_head; (case hw => w_witness2)
  k_fill
  refine L2.walk_of (l := PySem.Challenge.rw_hillsight_k01_slopes) (n := 63) (k := 2) (x := "_law_script") (CX := fun _ => L2.CX0) (sp := fun w => Hx.spLaw _) rfl (by decide) rfl ⟨rfl, by decide, by decide⟩ (fun w h Y => PySem.W.kIn_of Y) ?F (fun _ _ a ns hl _ hS => ⟨a, ns, rfl, hS, hl, fun _ => rfl⟩) (fun _ _ _ _ _ h => h)
  case F =>
    intro w mg fa h KX G hmg
    refine' Hx.all_mk KX G hmg ?a__law_cell_at ?l__law_cell_at ?c__law_cell_at ?k__law_cell_at ?a__law_whole ?l__law_whole ?c__law_whole ?k__law_whole ?a_slope ?l_slope ?c_slope ?k_slope ?a_steeper ?l_steeper ?c_steeper ?k_steeper ?a_law ?l_law ?c_law ?k_law ?z_len ?z_range ?z_isinstance ?z_int ?z_bool ?z_list ?z_tuple ?z_min ?z_max ?z_all ?z_sorted ?z_ValueError
    (case a__law_cell_at => k_is)
    (case l__law_cell_at => k_is)
    (case c__law_cell_at => k_is)
    (case k__law_cell_at => k_is)
    (case a__law_whole => k_is)
    (case l__law_whole => k_is)
    (case c__law_whole => k_is)
    (case k__law_whole => k_is)
    (case a_slope => k_is)
    (case l_slope => k_is)
    (case c_slope => k_is)
    (case k_slope => k_is)
    (case a_steeper => k_is)
    (case l_steeper => k_is)
    (case c_steeper => k_is)
    (case k_steeper => k_is)
    (case a_law => k_is)
    (case l_law => k_is)
    (case c_law => k_is)
    (case k_law => k_is)
    (case z_len => k_is)
    (case z_range => k_is)
    (case z_isinstance => k_is)
    (case z_int => k_is)
    (case z_bool => k_is)
    (case z_list => k_is)
    (case z_tuple => k_is)
    (case z_min => k_is)
    (case z_max => k_is)
    (case z_all => k_is)
    (case z_sorted => k_is)
    (case z_ValueError => k_is)
