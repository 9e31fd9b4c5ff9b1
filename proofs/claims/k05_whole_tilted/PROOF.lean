import PyProof.Rows.All
import Wide.All
import OpenK.AllK
import Wide.FinOn
import HandS.ForMost
import HandS.ForExc
import HandS.TryMany
import HandS.ExcIs
import HandS.IsInst
import HandS.Evl
import HandS.Wide
import HandS.SortRule
import HandS.HotCalls
import PySem.Challenge.RW_hillsight_k05_whole_tilted
set_option Elab.async false
set_option linter.all false
set_option maxRecDepth 100000
set_option maxHeartbeats 4000000
/-! Hx: a thin layer of our own over HandS and Evl: called defs as one fact, values of the usual expressions, equality of int lists. -/
namespace Hx
open PySem PySem.Spec PyProof.Rows L2 Evl
/-- the built-in names that stay free in the module -/
structure Blt (mg : Str → Option Value) : Prop where
  m_len : mg "len" = none
  m_range : mg "range" = none
  m_isinstance : mg "isinstance" = none
  m_int : mg "int" = none
  m_bool : mg "bool" = none
  m_list : mg "list" = none
  m_tuple : mg "tuple" = none
  m_min : mg "min" = none
  m_max : mg "max" = none
  m_all : mg "all" = none
  m_sorted : mg "sorted" = none
  m_ValueError : mg "ValueError" = none
/-- a def of the module that keeps a promise -/
structure Cal (P : Program) (w : World) (K : PySem.W.Frag) (mg : Str → Option Value) (base : Heap) (x : Str) (k : Nat) (ps : List Str) (sp : Sp) : Prop where
  ex : ∃ f fd, FnOk P w K mg base CX0 k f fd ps sp ∧ mg x = some (.ref f) ∧ PySem.W.keepIn K (.ref f) = true ∧ Binds K fd ps []
section
variable {X : Cx}
theorem pe_cal {x : Str} {k j : Nat} {ps : List Str} {sp : Sp} {p pos : Pos} {e : Expr} {es : List Expr} {t : TA} (C : Cal X.prog X.w X.K X.mg X.base x k ps sp) (hr : Room j X.A) (ha : PA X (e :: es) t) (hk : k ≤ j := by decide) (hg : Gl X x := by rfl)
    (hdb : (x == ("__debug__" : Str)) = false := by decide) (he : starEach (e :: es) X.env = (false, eval e X.env) :: starEach es X.env := by rfl) (hpl : (backTo pos (starEach es X.env)).any (·.1) = false := by rfl) :
    PE X (.Call (.Name x p) (e :: es) [] pos) (tCall sp [] E0 t) := by
  obtain ⟨f, fd, F, hm, kp, b⟩ := C.ex
  exact pe_call F (hr.mono hk) hg hm kp b .nil pass0 ha hdb he hpl
end
section
variable {K : PySem.W.Frag} {σ : L2.St} {H H' : Hp} {ta tb te tx : TE} {t u : TT} {x y z v : V} {D : Ends} {tu tw tz : TS} {g : TG}
theorem ex_at {H H' : Hp} {a : Addr} {o : HO} (e : Ex H H') (h : H a = some o) : H' a = some o := e a o h
theorem ex_step {H H1 H2 : Hp} (b : Ex H1 H2) (a : Ex H H1) : Ex H H2 := a.trans b
/-! ### values -/
theorem ev_int {i j : Int} (h : Ev te σ H (.int i)) (e : i = j) : Ev te σ H (.int j) := e ▸ h
theorem rc_isi {x : V} {t : Value} {T : String} {b : Bool} (ty : ∀ H1, Ex H H1 → TyX K H1 x t) (e : PySem.W.kitOne K t (.type T) = some b) : RC (rIsi K) [x, .ty T] H (.bl b) :=
  fun H1 e1 Q q => ⟨x, .ty T, t, .type T, b, rfl, .ty T, ty H1 e1, e, q H1 (Ex.refl H1)⟩
theorem rc_isi_int {i : Int} {T : String} {b : Bool} (e : kitB "int" T = some b) : RC (rIsi K) [.int i, .ty T] H (.bl b) := rc_isi (fun _ _ => .base (.int i)) (kit_ty e)
theorem rc_isi_bl {i : Bool} {T : String} {b : Bool} (e : kitB "bool" T = some b) : RC (rIsi K) [.bl i, .ty T] H (.bl b) := rc_isi (fun _ _ => .base (.bl i)) (kit_ty e)
theorem rc_isi_non {T : String} {b : Bool} (e : kitB "NoneType" T = some b) : RC (rIsi K) [.non, .ty T] H (.bl b) := rc_isi (fun _ _ => .base .non) (kit_ty e)
theorem rc_isi_str {i : Str} {T : String} {b : Bool} (e : kitB "str" T = some b) : RC (rIsi K) [.str i, .ty T] H (.bl b) := rc_isi (fun _ _ => .base (.str i)) (kit_ty e)
theorem rc_isi_lst {a : Addr} {xs : List V} {T : String} {b : Bool} (h : H a = some (.lst xs)) (e : kitB "list" T = some b) : RC (rIsi K) [.ref a, .ty T] H (.bl b) := rc_isi (fun _ e1 => .base (.lst (e1 _ _ h))) (kit_ty e)
theorem rc_isi_tup {a : Addr} {xs : List V} {T : String} {b : Bool} (h : H a = some (.tup xs)) (e : kitB "tuple" T = some b) : RC (rIsi K) [.ref a, .ty T] H (.bl b) := rc_isi (fun _ e1 => .base (.tup (e1 _ _ h))) (kit_ty e)
theorem rc_len {p : Addr} {ys : List V} (h : SqL K H p ys) : RC (fun xs H Q => ∃ p ys, xs = [V.ref p] ∧ (SqL K H p ys ∨ SqT K H p ys) ∧ Q (.int ys.length) H) [.ref p] H (.int (ys.length : Int)) :=
  fun H1 e Q q => ⟨p, ys, rfl, .inl (ex_l e h), q H1 (Ex.refl H1)⟩
theorem rc_lenT {p : Addr} {ys : List V} (h : SqT K H p ys) : RC (fun xs H Q => ∃ p ys, xs = [V.ref p] ∧ (SqL K H p ys ∨ SqT K H p ys) ∧ Q (.int ys.length) H) [.ref p] H (.int (ys.length : Int)) :=
  fun H1 e Q q => ⟨p, ys, rfl, .inr (ex_t e h), q H1 (Ex.refl H1)⟩
theorem rcl_list {p : Addr} {ys : List V} (h : SqL K H p ys) : RCL (fun xs H Q => ∃ p ys, xs = [V.ref p] ∧ (SqL K H p ys ∨ SqT K H p ys) ∧ ∀ l, H l = none → Q (.ref l) (upd H l (.lst ys))) [.ref p] H ys :=
  fun H1 e Q q => ⟨p, ys, rfl, .inl (ex_l e h), fun l hl => q l _ hl (Ex.new hl) upd_same⟩
theorem rc_min {i j : Int} : RC (fun xs H Q => ∃ i j, xs = [V.int i, V.int j] ∧ Q (.int (if j < i then j else i)) H) [.int i, .int j] H (.int (min i j)) := fun H1 _ Q q => ⟨i, j, rfl, by
  have e : (if j < i then j else i) = min i j := by rw [Int.min_def]; split <;> split <;> omega
  rw [e]; exact q H1 (Ex.refl H1)⟩
theorem rc_max {i j : Int} : RC (fun xs H Q => ∃ i j, xs = [V.int i, V.int j] ∧ Q (.int (if j > i then j else i)) H) [.int i, .int j] H (.int (max i j)) := fun H1 _ Q q => ⟨i, j, rfl, by
  have e : (if j > i then j else i) = max i j := by rw [Int.max_def]; split <;> split <;> omega
  rw [e]; exact q H1 (Ex.refl H1)⟩
theorem kb_int_int : kitB "int" "int" = some true := by decide +kernel
theorem kb_int_bool : kitB "int" "bool" = some false := by decide +kernel
theorem kb_bool_int : kitB "bool" "int" = some true := by decide +kernel
theorem kb_bool_bool : kitB "bool" "bool" = some true := by decide +kernel
theorem kb_NoneType_int : kitB "NoneType" "int" = some false := by decide +kernel
theorem kb_NoneType_bool : kitB "NoneType" "bool" = some false := by decide +kernel
theorem kb_str_int : kitB "str" "int" = some false := by decide +kernel
theorem kb_str_bool : kitB "str" "bool" = some false := by decide +kernel
theorem kb_list_list : kitB "list" "list" = some true := by decide +kernel
theorem kb_tuple_tuple : kitB "tuple" "tuple" = some true := by decide +kernel
theorem kb_list_int : kitB "list" "int" = some false := by decide +kernel
theorem kb_tuple_int : kitB "tuple" "int" = some false := by decide +kernel
theorem kb_list_bool : kitB "list" "bool" = some false := by decide +kernel
theorem kb_tuple_bool : kitB "tuple" "bool" = some false := by decide +kernel
theorem kb_list_tuple : kitB "list" "tuple" = some false := by decide +kernel
theorem kb_tuple_list : kitB "tuple" "list" = some false := by decide +kernel
theorem kb_int_list : kitB "int" "list" = some false := by decide +kernel
theorem kb_int_tuple : kitB "int" "tuple" = some false := by decide +kernel
theorem rc_intb {k : Bool} : RC (fun xs H Q => (∃ i, xs = [V.int i] ∧ Q (.int i) H) ∨ ∃ k, xs = [V.bl k] ∧ Q (.int (if k then 1 else 0)) H) [.bl k] H (.int (if k then 1 else 0)) := fun H1 _ _ q => .inr ⟨k, rfl, q H1 (Ex.refl H1)⟩
/-! ### int lists compared -/
theorem dp_ints : ∀ ns : List Int, DpAll K H (ns.map V.int) (ns.map PyData.int)
  | [] => .nil
  | n :: r => .cons (.int n) (dp_ints r)
theorem ints_lay : ∀ ns : List Int, PyData.canLayAll0 (ns.map PyData.int) = true
  | [] => by simp [PyData.canLayAll0]
  | n :: r => by simp [PyData.canLayAll0, PyData.canLay0, ints_lay r]
theorem ints_depth : ∀ ns : List Int, PyData.depthAll (ns.map PyData.int) ≤ 1
  | [] => by simp [PyData.depthAll]
  | n :: r => by
    have h := ints_depth r
    simp only [List.map_cons, PyData.depthAll, PyData.depth]
    omega
theorem ints_shaped (ns : List Int) : SeqAt.shaped (.list (ns.map PyData.int)) = true := by
  have h1 := ints_depth ns
  have h2 : PyData.depth (.list (ns.map PyData.int)) ≤ 64 := by
    simp only [PyData.depth]
    omega
  show (PyData.canLay0 (.list (ns.map PyData.int)) && decide (PyData.depth (.list (ns.map PyData.int)) ≤ 64)) = true
  rw [Bool.and_eq_true]
  exact ⟨by simp only [PyData.canLay0]; exact ints_lay ns, decide_eq_true h2⟩
theorem ints_eqvAll : ∀ ns ms : List Int, PyData.eqvAll (ns.map PyData.int) (ms.map PyData.int) = decide (ns = ms)
  | [], [] => by simp [PyData.eqvAll]
  | [], _ :: _ => by simp [PyData.eqvAll]
  | _ :: _, [] => by simp [PyData.eqvAll]
  | n :: r, m :: s => by
    have h := ints_eqvAll r s
    simp only [List.map_cons, PyData.eqvAll, PyData.eqv, h]
    by_cases e : n = m <;> by_cases e2 : r = s <;> simp [e, e2]
theorem ints_eqv (ns ms : List Int) : PyData.eqv (.list (ns.map PyData.int)) (.list (ms.map PyData.int)) = decide (ns = ms) := by
  simp only [PyData.eqv, ints_eqvAll]
theorem rv_eqI {p q : Addr} {ns ms : List Int} (h1 : SqL K H p (ns.map V.int)) (h2 : SqL K H q (ms.map V.int)) : RV (rEqD K) (.ref p) (.ref q) H (.bl (decide (ns = ms))) :=
  fun H1 e Q k => ⟨_, _, .lst (ex_l e h1) (dp_ints ns), .lst (ex_l e h2) (dp_ints ms), ints_shaped ns, ints_shaped ms, by rw [ints_eqv]; exact k H1 (Ex.refl H1)⟩
theorem rv_neI {p q : Addr} {ns ms : List Int} (h1 : SqL K H p (ns.map V.int)) (h2 : SqL K H q (ms.map V.int)) : RV (rNeD K) (.ref p) (.ref q) H (.bl (!decide (ns = ms))) :=
  fun H1 e Q k => ⟨_, _, .lst (ex_l e h1) (dp_ints ns), .lst (ex_l e h2) (dp_ints ms), ints_shaped ns, ints_shaped ms, by rw [ints_eqv]; exact k H1 (Ex.refl H1)⟩
/-! ### promises of one shape -/
/-- a def that hands back a value and leaves all as it was: R tells which -/
def spV (R : List V → Hp → V → Prop) : Sp := fun vs H Q _ => ∃ v, R vs H v ∧ RetV v H Q
/-- a def that hands back a new list, a new tuple -/
def spL (R : List V → Hp → List V → Prop) : Sp := fun vs H Q _ => ∃ xs, R vs H xs ∧ RetL xs H Q
def RetU (xs : List V) (H : Hp) (Q : VK) : Prop := ∀ p H2, H p = none → Ex H H2 → H2 p = some (.tup xs) → Q (.ref p) H2
def spU (R : List V → Hp → List V → Prop) : Sp := fun vs H Q _ => ∃ xs, R vs H xs ∧ RetU xs H Q
theorem ev_cal {R : List V → Hp → V → Prop} {vs : List V} {E : XK} {ta : TA} (h : EvA ta σ H vs) (hs : ∀ H1, Ex H H1 → R vs H1 z) : Ev (tCall (spV R) [] E ta) σ H z :=
  ev_call (vs := vs) h fun H1 e Q q E => ⟨z, by rw [List.append_nil]; exact hs H1 e, q⟩
theorem el_cal {R : List V → Hp → List V → Prop} {vs xs : List V} {E : XK} {ta : TA} (h : EvA ta σ H vs) (hs : ∀ H1, Ex H H1 → R vs H1 xs) : EvL (tCall (spL R) [] E ta) σ H xs :=
  el_call (vs := vs) h fun H1 e Q q E => ⟨xs, by rw [List.append_nil]; exact hs H1 e, q⟩
theorem eu_cal {R : List V → Hp → List V → Prop} {vs xs : List V} {E : XK} {ta : TA} (h : EvA ta σ H vs) (hs : ∀ H1, Ex H H1 → R vs H1 xs) : EvU (tCall (spU R) [] E ta) σ H xs :=
  fun H1 e Q q => h H1 e _ fun H2 e2 => ⟨xs, by rw [List.append_nil]; exact hs H2 (e.trans e2), fun p H3 hp e3 h3 => q p H3 (fresh_back e2 hp) (e2.trans e3) h3⟩
/-! ### a new tuple walked; a tuple unpacked -/
theorem s_forNT {xs : List V} {tl : TE} (h : EvU tl σ H xs) (Pv : Addr → Nat → L2.St → Hp → Prop) (h0 : ∀ p H1, H p = none → Ex H H1 → H1 p = some (.tup xs) → Pv p 0 σ H1) (hl : ∀ p i σ' H', i ≤ xs.length → Pv p i σ' H' → SqT K H' p xs)
    (hs : ∀ p i x σ' H', xs[i]? = some x → Pv p i σ' H' → g x σ' H' fun σ2 H2 => tu { D with nx := Pv p (i + 1), ct := Pv p (i + 1), bk := D.nx } σ2 H2) (hd : ∀ p σ' H', Pv p xs.length σ' H' → D.nx σ' H') : tFor (iTup K tl) g tu D σ H :=
  h H (Ex.refl H) _ fun p H1 hp e h1 => ⟨p, rfl, ⟨xs, st_of h1⟩, for_tup (Pv p) (h0 p H1 hp e h1) (hl p) (hs p) (hd p)⟩
theorem q_forNT {xs : List V} {tl : TE} (h : EvU tl σ H xs) (Pv : Addr → Nat → L2.St → Hp → Prop) (h0 : ∀ p H1, H p = none → Ex H H1 → H1 p = some (.tup xs) → Pv p 0 σ H1) (hl : ∀ p i σ' H', i ≤ xs.length → Pv p i σ' H' → SqT K H' p xs)
    (hs : ∀ p i x σ' H', xs[i]? = some x → Pv p i σ' H' → g x σ' H' fun σ2 H2 => tu { D with nx := Pv p (i + 1), ct := Pv p (i + 1), bk := tz D } σ2 H2) (hd : ∀ p σ' H', Pv p xs.length σ' H' → tz D σ' H') : tSeq (tFor (iTup K tl) g tu) tz D σ H :=
  s_forNT (D := { D with nx := tz D }) h Pv h0 hl hs hd
theorem g_tup2 {i j : Nat} {p : Addr} {x y : V} {Q : L2.St → Hp → Prop} (h : SqT K H p [x, y]) (q : Q ((σ.set i (some x)).set j (some y)) H) : gTup K 2 (gCons (gName i) (gCons (gName j) gNil)) (.ref p) σ H Q :=
  ⟨p, [x, y], rfl, h, rfl, x, [y], rfl, y, [], rfl, rfl, q⟩
theorem q_unpack {i j : Nat} {p : Addr} (ha : Ev te σ H (.ref p)) (h : SqT K H p [x, y]) (k : ∀ H1, Ex H H1 → tz D ((σ.set i (some x)).set j (some y)) H1) : tSeq (tAsg te (gTup K 2 (gCons (gName i) (gCons (gName j) gNil)))) tz D σ H :=
  ha H (Ex.refl H) _ fun H1 e => g_tup2 (ex_t e h) (k H1 e)
/-- a chain of two comparisons of ints, as a value -/
theorem ev_chain {r r' : R2} {tc : TE} {y w : V} {a b : Bool} (ha : Ev ta σ H x) (hb : Ev tb σ H y) (hc : Ev tc σ H w) (h1 : RV r x y H (.bl a)) (h2 : RV r' y w H (.bl b)) : Ev (tChain r r' ta tb tc) σ H (.bl (a && b)) := fun H1 e Q q =>
  ha H1 e _ fun H2 e2 => hb H2 (e.trans e2) _ fun H3 e3 => h1 H3 ((e.trans e2).trans e3) _ fun H4 e4 => ⟨a, rfl, by
    have e' := (((e.trans e2).trans e3).trans e4)
    have e'' := ((e2.trans e3).trans e4)
    cases a with
    | true => exact hc H4 e' _ fun H5 e5 => h2 H5 (e'.trans e5) _ fun H6 e6 => q H6 ((e''.trans e5).trans e6)
    | false => exact q H4 e''⟩
end
/-! ### the cells of a script -/
def cel (ns : List Int) (j : Int) : Int := ns.getD j.toNat 0
theorem getD_ix {ns : List Int} {j : Int} (h0 : 0 ≤ j) (h : j < (ns.length : Int)) : atI (ns.map V.int) j = some (V.int (cel ns j)) := by
  unfold cel
  have h1 : j.toNat < ns.length := by omega
  have e : j = ((j.toNat : Nat) : Int) := by omega
  have e2 : (ns.map V.int)[j.toNat]? = some (V.int (ns.getD j.toNat 0)) := by
    rw [List.getElem?_map, List.getD_eq_getElem?_getD, List.getElem?_eq_getElem h1]
    rfl
  have h3 := atI_nat e2
  rw [← e] at h3
  exact h3
def RCel (K : PySem.W.Frag) (vs : List V) (H : Hp) (v : V) : Prop := ∃ (l : Addr) (ns : List Int) (j : Int), vs = [.ref l, .int j] ∧ 0 ≤ j ∧ SqL K H l (ns.map V.int) ∧ v = .int (cel ns j)
/-- what the def that looks whether a thing is a whole number hands back, of the things it is asked of -/
def RWhole (vs : List V) (_ : Hp) (v : V) : Prop := ∃ x, vs = [x] ∧ (((∃ i, x = .int i) ∧ v = .bl true) ∨ (x = .non ∧ v = .bl false) ∨ ((∃ b, x = .bl b) ∧ v = .bl false) ∨ ((∃ b, x = .str b) ∧ v = .bl false))
def RSlope (K : PySem.W.Frag) (vs : List V) (H : Hp) (xs : List V) : Prop := ∃ (l : Addr) (ns : List Int) (a b : Int), vs = [.ref l, .int a, .int b] ∧ 0 ≤ a ∧ a < (ns.length : Int) ∧ 0 ≤ b ∧ b < (ns.length : Int) ∧ SqL K H l (ns.map V.int) ∧
  xs = [.int (cel ns b - cel ns a), .int (b - a)]
def RSteeper (K : PySem.W.Frag) (vs : List V) (H : Hp) (v : V) : Prop := ∃ (p1 p2 : Addr) (r1 n1 r2 n2 : Int), vs = [.ref p1, .ref p2] ∧ SqT K H p1 [.int r1, .int n1] ∧ SqT K H p2 [.int r2, .int n2] ∧
  -(2 ^ 64) < n1 ∧ n1 < 2 ^ 64 ∧ -(2 ^ 64) < n2 ∧ n2 < 2 ^ 64 ∧ v = .bl (decide (r2 * n1 < r1 * n2))
section
variable {K : PySem.W.Frag} {σ : L2.St} {H : Hp} {ta : TA} {E : XK}
theorem ev_cel {l : Addr} {ns : List Int} {j : Int} (h : EvA ta σ H [.ref l, .int j]) (hs : SqL K H l (ns.map V.int)) (h0 : 0 ≤ j) : Ev (tCall (spV (RCel K)) [] E ta) σ H (.int (cel ns j)) :=
  ev_cal h fun _ e => ⟨l, ns, j, rfl, h0, ex_l e hs, rfl⟩
theorem ev_whole {i : Int} (h : EvA ta σ H [.int i]) : Ev (tCall (spV RWhole) [] E ta) σ H (.bl true) := ev_cal h fun _ _ => ⟨_, rfl, .inl ⟨⟨i, rfl⟩, rfl⟩⟩
theorem eu_slope {l : Addr} {ns : List Int} {a b : Int} (h : EvA ta σ H [.ref l, .int a, .int b]) (hs : SqL K H l (ns.map V.int)) (a0 : 0 ≤ a) (a1 : a < (ns.length : Int)) (b0 : 0 ≤ b) (b1 : b < (ns.length : Int)) :
    EvU (tCall (spU (RSlope K)) [] E ta) σ H [.int (cel ns b - cel ns a), .int (b - a)] := eu_cal h fun _ e => ⟨l, ns, a, b, rfl, a0, a1, b0, b1, ex_l e hs, rfl⟩
theorem ev_steeper {p1 p2 : Addr} {r1 n1 r2 n2 : Int} (h : EvA ta σ H [.ref p1, .ref p2]) (h1 : SqT K H p1 [.int r1, .int n1]) (h2 : SqT K H p2 [.int r2, .int n2]) (b1 : -(2 ^ 64) < n1) (b2 : n1 < 2 ^ 64) (b3 : -(2 ^ 64) < n2) (b4 : n2 < 2 ^ 64) :
    Ev (tCall (spV (RSteeper K)) [] E ta) σ H (.bl (decide (r2 * n1 < r1 * n2))) := ev_cal h fun _ e => ⟨p1, p2, r1, n1, r2, n2, rfl, ex_t e h1, ex_t e h2, b1, b2, b3, b4, rfl⟩
end
end Hx
namespace Hx
open PySem PySem.Spec PyProof.Rows L2 Evl
/-! ### the lands that the laws build -/
def heightOf (c k kind tilt : Int) : Int :=
  if kind = 0 then c % 7 - 3 else if kind = 1 then tilt * k + c % 2 else if kind = 2 then c * 48271 % (2 * 1000000000000000000 + 1) - 1000000000000000000
  else if kind = 3 then k * k * (tilt % 3 - 1) + c % 3 else 1000000000000000000 - c % 3
def RHeight (vs : List V) (_ : Hp) (v : V) : Prop := ∃ c k kind tilt : Int, vs = [.int c, .int k, .int kind, .int tilt] ∧ 0 ≤ k ∧ k ≤ 1000 ∧ -3 ≤ tilt ∧ tilt ≤ 3 ∧ v = .int (heightOf c k kind tilt)
def kindOf (ns : List Int) (most : Int) : Int := cel ns 0 / most % 5
def tiltOf (ns : List Int) (most : Int) : Int := cel ns 0 / most / 5 % 7 - 3
def landOf (ns : List Int) (most : Int) : List Int := (List.range (1 + cel ns 0 % most).toNat).map fun (k : Nat) => heightOf (cel ns (3 + (k : Int))) k (kindOf ns most) (tiltOf ns most)
def RLand (K : PySem.W.Frag) (vs : List V) (H : Hp) (xs : List V) : Prop := ∃ (l : Addr) (ns : List Int) (most : Int), vs = [.ref l, .int most] ∧ 1 ≤ most ∧ most ≤ 100 ∧ SqL K H l (ns.map V.int) ∧ xs = (landOf ns most).map V.int
def moreOf (ns : List Int) (most : Int) (n : Int) (k : Nat) : Int := heightOf (cel ns (3 + (k : Int) % 20) * ((k : Int) + 5)) (n + (k : Int)) (kindOf ns most) (tiltOf ns most)
def longerOf (ns land : List Int) (most many : Int) : List Int := land ++ (List.range many.toNat).map (moreOf ns most land.length)
def RLonger (K : PySem.W.Frag) (vs : List V) (H : Hp) (xs : List V) : Prop := ∃ (l b : Addr) (ns land : List Int) (most many : Int), vs = [.ref l, .ref b, .int most, .int many] ∧ 1 ≤ most ∧ most ≤ 100 ∧ 0 ≤ many ∧ (land.length : Int) + many ≤ 1000 ∧ SqL K H l (ns.map V.int) ∧ SqL K H b (land.map V.int) ∧
  xs = (longerOf ns land most many).map V.int
theorem landOf_len (ns : List Int) (most : Int) : (landOf ns most).length = (1 + cel ns 0 % most).toNat := by
  unfold landOf
  rw [List.length_map, List.length_range]
theorem longerOf_len (ns land : List Int) (most many : Int) : (longerOf ns land most many).length = land.length + many.toNat := by
  unfold longerOf
  rw [List.length_append, List.length_map, List.length_range]
section
variable {K : PySem.W.Frag} {σ : L2.St} {H : Hp} {ta : TA} {E : XK}
theorem ev_height {c k kind tilt : Int} (h : EvA ta σ H [.int c, .int k, .int kind, .int tilt]) (h1 : 0 ≤ k) (h2 : k ≤ 1000) (h3 : -3 ≤ tilt) (h4 : tilt ≤ 3) : Ev (tCall (spV RHeight) [] E ta) σ H (.int (heightOf c k kind tilt)) :=
  ev_cal h fun _ _ => ⟨c, k, kind, tilt, rfl, h1, h2, h3, h4, rfl⟩
theorem el_land {l : Addr} {ns : List Int} {most : Int} (h : EvA ta σ H [.ref l, .int most]) (hs : SqL K H l (ns.map V.int)) (h1 : 1 ≤ most) (h2 : most ≤ 100) : EvL (tCall (spL (RLand K)) [] E ta) σ H ((landOf ns most).map V.int) :=
  el_cal h fun _ e => ⟨l, ns, most, rfl, h1, h2, ex_l e hs, rfl⟩
theorem el_longer {l b : Addr} {ns land : List Int} {most many : Int} (h : EvA ta σ H [.ref l, .ref b, .int most, .int many]) (hs : SqL K H l (ns.map V.int)) (hb : SqL K H b (land.map V.int)) (h1 : 1 ≤ most) (h2 : most ≤ 100) (h3 : 0 ≤ many) (h4 : (land.length : Int) + many ≤ 1000) :
    EvL (tCall (spL (RLonger K)) [] E ta) σ H ((longerOf ns land most many).map V.int) := el_cal h fun _ e => ⟨l, b, ns, land, most, many, rfl, h1, h2, h3, h4, ex_l e hs, ex_l e hb, rfl⟩
theorem et_yes : EvT tYes σ H true := fun H1 _ _ q => q H1 (Ex.refl H1)
theorem given_all {n : Nat} {v : Nat → V} {g : Nat → Int} (h : ∀ i, v i = .int (g i)) : given n (fun _ => true) v = ((List.range n).map g).map V.int := by
  unfold given
  rw [List.filter_eq_self.mpr (fun _ _ => rfl), List.map_map]
  exact List.map_congr_left fun i _ => h i
end
end Hx
namespace Hx
open PySem PySem.Spec PyProof.Rows L2 Evl
section
variable {K : PySem.W.Frag} {σ : L2.St} {H : Hp} {ta tb : TE} {x : V}
theorem rv_isN : RV (fun x y H Q => y = .non ∧ Q (.bl (decide (x = .non))) H) x .non H (.bl (decide (x = .non))) := fun H1 _ _ q => ⟨rfl, q H1 (Ex.refl H1)⟩
theorem rv_notN : RV (fun x y H Q => y = .non ∧ Q (.bl (!decide (x = .non))) H) x .non H (.bl (!decide (x = .non))) := fun H1 _ _ q => ⟨rfl, q H1 (Ex.refl H1)⟩
end
end Hx
namespace Hx
open PySem PySem.Spec PyProof.Rows L2 Evl
section
variable {σ : L2.St} {H : Hp}
theorem ev_pow {a b c : Int} (h1 : CPow a b) (h2 : a ^ b.toNat = c) : Ev (tOp (rI CPow fun i j => .int (i ^ j.toNat)) (tC (.int a)) (tC (.int b))) σ H (.int c) := h2 ▸ ev_op ev_c ev_c (rv_I h1)
theorem ev_pow18 : Ev (tOp (rI CPow fun i j => .int (i ^ j.toNat)) (tC (.int 10)) (tC (.int 18))) σ H (.int 1000000000000000000) := ev_pow ⟨by decide, by decide, by decide⟩ (by decide)
theorem ev_pow14 : Ev (tOp (rI CPow fun i j => .int (i ^ j.toNat)) (tC (.int 10)) (tC (.int 14))) σ H (.int 100000000000000) := ev_pow ⟨by decide, by decide, by decide⟩ (by decide)
theorem ev_pow9 : Ev (tOp (rI CPow fun i j => .int (i ^ j.toNat)) (tC (.int 10)) (tC (.int 9))) σ H (.int 1000000000) := ev_pow ⟨by decide, by decide, by decide⟩ (by decide)
end
end Hx
/-! The mathematics of looking: which hills see each other, by products of whole numbers. -/
namespace Hx
/-- the slope from a to k is less than that from a to b -/
def lowB (land : List Int) (a b k : Int) : Prop := (cel land k - cel land a) * (b - a) < (cel land b - cel land a) * (k - a)
instance {land : List Int} {a b k : Int} : Decidable (lowB land a b k) := by unfold lowB; infer_instance
def seesP (land : List Int) (a b : Int) : Prop := ∀ k, a < k → k < b → lowB land a b k
def seesB (land : List Int) (a b : Int) : Bool := (List.range (b - a - 1).toNat).all fun i => decide (lowB land a b (a + 1 + (i : Int)))
theorem seesB_iff {land : List Int} {a b : Int} : seesB land a b = true ↔ seesP land a b := by
  unfold seesB seesP
  rw [List.all_eq_true]
  constructor
  · intro h k h1 h2
    have z := h (k - a - 1).toNat (List.mem_range.mpr (by omega))
    have e : a + 1 + (((k - a - 1).toNat : Nat) : Int) = k := by omega
    rw [e] at z
    exact of_decide_eq_true z
  · intro h i hi
    have hi := List.mem_range.mp hi
    exact decide_eq_true (h _ (by omega) (by omega))
theorem seesB_false {land : List Int} {a b k : Int} (h1 : a < k) (h2 : k < b) (h : ¬ lowB land a b k) : seesB land a b = false := by
  cases e : seesB land a b with
  | false => rfl
  | true => exact absurd (seesB_iff.mp e k h1 h2) h
/-- the best of the places a + 1 .. a + i: none is steeper from a -/
def Best (land : List Int) (a : Int) (i : Nat) (best : Int) : Prop := a < best ∧ best ≤ a + i ∧ ∀ k, a < k → k ≤ a + i → (cel land k - cel land a) * (best - a) ≤ (cel land best - cel land a) * (k - a)
theorem lt_of_best {x y z n1 n2 n3 : Int} (h2 : 0 < n2) (h3 : 0 < n3) (h1 : 0 < n1) (a : y * n1 < x * n2) (b : z * n2 ≤ y * n3) : z * n1 < x * n3 := by
  have k1 : z * n2 * n1 ≤ y * n3 * n1 := Int.mul_le_mul_of_nonneg_right b (by omega)
  have k2 : y * n1 * n3 < x * n2 * n3 := Int.mul_lt_mul_of_pos_right a h3
  have k3 : (z * n1) * n2 < (x * n3) * n2 := by grind
  exact Int.lt_of_mul_lt_mul_right k3 (by omega)
theorem le_of_best {x y z n1 n2 n3 : Int} (h2 : 0 < n2) (h3 : 0 < n3) (h1 : 0 < n1) (a : y * n1 ≤ x * n2) (b : z * n2 ≤ y * n3) : z * n1 ≤ x * n3 := by
  have k1 : z * n2 * n1 ≤ y * n3 * n1 := Int.mul_le_mul_of_nonneg_right b (by omega)
  have k2 : y * n1 * n3 ≤ x * n2 * n3 := Int.mul_le_mul_of_nonneg_right a (by omega)
  have k3 : (z * n1) * n2 ≤ (x * n3) * n2 := by grind
  exact Int.le_of_mul_le_mul_right k3 h2
theorem best_one (land : List Int) (a : Int) : Best land a 1 (a + 1) := by
  refine ⟨by omega, by omega, fun k h1 h2 => ?_⟩
  have e : k = a + 1 := by omega
  rw [e]
  omega
/-- the next place is steeper than the best: it is seen, and the best -/
theorem best_yes {land : List Int} {a best : Int} {i : Nat} (h : Best land a i best) (hs : (cel land best - cel land a) * (a + 1 + i - a) < (cel land (a + 1 + i) - cel land a) * (best - a)) :
    Best land a (i + 1) (a + 1 + i) ∧ seesB land a (a + 1 + i) = true := by
  obtain ⟨h1, h2, h3⟩ := h
  refine ⟨⟨by omega, by omega, fun k k1 k2 => ?_⟩, seesB_iff.mpr fun k k1 k2 => ?_⟩
  · by_cases e : k = a + 1 + i
    · rw [e]
      omega
    · exact le_of_best (n2 := best - a) (by omega) (by omega) (by omega) (Int.le_of_lt hs) (h3 k k1 (by omega))
  · exact lt_of_best (n2 := best - a) (by omega) (by omega) (by omega) hs (h3 k k1 (by omega))
theorem best_no {land : List Int} {a best : Int} {i : Nat} (h : Best land a i best) (hs : ¬ (cel land best - cel land a) * (a + 1 + i - a) < (cel land (a + 1 + i) - cel land a) * (best - a)) :
    Best land a (i + 1) best ∧ seesB land a (a + 1 + i) = false := by
  obtain ⟨h1, h2, h3⟩ := h
  refine ⟨⟨by omega, by omega, fun k k1 k2 => ?_⟩, seesB_false (k := best) (by omega) (by omega) hs⟩
  by_cases e : k = a + 1 + i
  · rw [e]
    omega
  · exact h3 k k1 (by omega)
theorem sees_next (land : List Int) (a : Int) : seesB land a (a + 1) = true := seesB_iff.mpr fun k h1 h2 => by omega
/-- what the hill at a sees ahead of it, of the next i places -/
def aheadN (land : List Int) (a : Int) (i : Nat) : List Int := ((List.range i).map fun (j : Nat) => a + 1 + (j : Int)).filter (seesB land a)
theorem aheadN_yes {land : List Int} {a : Int} {i : Nat} (h : seesB land a (a + 1 + i) = true) : aheadN land a (i + 1) = aheadN land a i ++ [a + 1 + (i : Int)] := by
  unfold aheadN
  rw [List.range_succ, List.map_append, List.filter_append]
  simp [h]
theorem aheadN_no {land : List Int} {a : Int} {i : Nat} (h : seesB land a (a + 1 + i) = false) : aheadN land a (i + 1) = aheadN land a i := by
  unfold aheadN
  rw [List.range_succ, List.map_append, List.filter_append]
  simp [h]
theorem aheadN_len (land : List Int) (a : Int) (i : Nat) : (aheadN land a i).length ≤ i := by
  unfold aheadN
  have h := List.length_filter_le (seesB land a) ((List.range i).map fun (j : Nat) => a + 1 + (j : Int))
  rw [List.length_map, List.length_range] at h
  exact h
def aheadOf (land : List Int) (a : Int) : List Int := aheadN land a ((land.length : Int) - (a + 1)).toNat
theorem mem_aheadOf {land : List Int} {a b : Int} : b ∈ aheadOf land a ↔ a < b ∧ b < (land.length : Int) ∧ seesP land a b := by
  unfold aheadOf aheadN
  rw [List.mem_filter, List.mem_map, seesB_iff]
  constructor
  · rintro ⟨⟨j, hj, rfl⟩, h⟩
    have hj := List.mem_range.mp hj
    exact ⟨by omega, by omega, h⟩
  · rintro ⟨h1, h2, h⟩
    exact ⟨⟨(b - a - 1).toNat, List.mem_range.mpr (by omega), by omega⟩, h⟩
end Hx
namespace Hx
open PySem PySem.Spec PyProof.Rows L2 Evl
def RAhead (K : PySem.W.Frag) (vs : List V) (H : Hp) (xs : List V) : Prop := ∃ (l : Addr) (land : List Int) (a : Int), vs = [.ref l, .int a] ∧ 0 ≤ a ∧ a < (land.length : Int) ∧ land.length ≤ 1000 ∧ SqL K H l (land.map V.int) ∧ xs = (aheadOf land a).map V.int
section
variable {K : PySem.W.Frag} {σ : L2.St} {H : Hp} {ta : TA} {E : XK}
theorem el_ahead {l : Addr} {land : List Int} {a : Int} (h : EvA ta σ H [.ref l, .int a]) (hs : SqL K H l (land.map V.int)) (h1 : 0 ≤ a) (h2 : a < (land.length : Int)) (h3 : land.length ≤ 1000) : EvL (tCall (spL (RAhead K)) [] E ta) σ H ((aheadOf land a).map V.int) :=
  el_cal h fun _ e => ⟨l, land, a, rfl, h1, h2, h3, ex_l e hs, rfl⟩
end
end Hx
/-! Lists of pairs of whole numbers: each item a tuple of its own. -/
namespace Hx
open PySem PySem.Spec PyProof.Rows L2 Evl
/-- at the addresses stand the pairs -/
def Tups (H : Hp) (as : List Addr) (ps : List (Int × Int)) : Prop := as.length = ps.length ∧ ∀ (i : Nat) (a : Addr) (q : Int × Int), as[i]? = some a → ps[i]? = some q → H a = some (.tup [.int q.1, .int q.2])
theorem Tups.nil (H : Hp) : Tups H [] [] := ⟨rfl, fun i a q h => by simp at h⟩
theorem Tups.ex {H H' : Hp} {as : List Addr} {ps : List (Int × Int)} (e : Ex H H') (t : Tups H as ps) : Tups H' as ps := ⟨t.1, fun i a q h1 h2 => e _ _ (t.2 i a q h1 h2)⟩
theorem Tups.snoc {H : Hp} {as : List Addr} {ps : List (Int × Int)} {p : Addr} {q : Int × Int} (t : Tups H as ps) (h : H p = some (.tup [.int q.1, .int q.2])) : Tups H (as ++ [p]) (ps ++ [q]) := by
  refine ⟨by rw [List.length_append, List.length_append, t.1]; rfl, fun i a r h1 h2 => ?_⟩
  by_cases hi : i < as.length
  · rw [List.getElem?_append_left hi] at h1
    rw [List.getElem?_append_left (by rw [← t.1]; exact hi)] at h2
    exact t.2 i a r h1 h2
  · rw [List.getElem?_append_right (by omega)] at h1
    rw [List.getElem?_append_right (by rw [← t.1]; omega), ← t.1] at h2
    cases e : i - as.length with
    | zero =>
      rw [e] at h1 h2
      have e1 : p = a := Option.some.inj h1
      have e2 : q = r := Option.some.inj h2
      rw [← e1, ← e2]
      exact h
    | succ k =>
      rw [e] at h1
      simp at h1
theorem Tups.upd {H : Hp} {as : List Addr} {ps : List (Int × Int)} {D : Addr} {xs ys : List V} (t : Tups H as ps) (h : H D = some (.lst xs)) : Tups (upd H D (.lst ys)) as ps := ⟨t.1, fun i a q h1 h2 => by
  have z := t.2 i a q h1 h2
  have n : a ≠ D := ne_of z h (by intro w; cases w)
  rw [upd_ne n]
  exact z⟩
/-- evaluates to a new list of those pairs -/
def EvP (te : TE) (σ : L2.St) (H : Hp) (ps : List (Int × Int)) : Prop := ∀ H1, Ex H H1 → ∀ Q : VK, (∀ p H2 as, H1 p = none → Ex H1 H2 → H2 p = some (.lst (as.map V.ref)) → Tups H2 as ps → Q (.ref p) H2) → te σ H1 Q
def RetP (ps : List (Int × Int)) (H : Hp) (Q : VK) : Prop := ∀ p H2 as, H p = none → Ex H H2 → H2 p = some (.lst (as.map V.ref)) → Tups H2 as ps → Q (.ref p) H2
def spP (R : List V → Hp → List (Int × Int) → Prop) : Sp := fun vs H Q _ => ∃ xs, R vs H xs ∧ RetP xs H Q
section
variable {K : PySem.W.Frag} {σ : L2.St} {H : Hp} {ta tb te tl : TE} {D : Ends} {tz : TS} {ps : List (Int × Int)}
theorem ep_cal {R : List V → Hp → List (Int × Int) → Prop} {vs : List V} {E : XK} {ta : TA} (h : EvA ta σ H vs) (hs : ∀ H1, Ex H H1 → R vs H1 ps) : EvP (tCall (spP R) [] E ta) σ H ps :=
  fun H1 e Q q => h H1 e _ fun H2 e2 => ⟨ps, by rw [List.append_nil]; exact hs H2 (e.trans e2), fun p H3 as hp e3 h3 t3 => q p H3 as (fresh_back e2 hp) (e2.trans e3) h3 t3⟩
theorem q_asgP {i : Nat} (h : EvP te σ H ps) (k : ∀ p H1 as, H p = none → Ex H H1 → H1 p = some (.lst (as.map V.ref)) → Tups H1 as ps → tz D (σ.set i (some (.ref p))) H1) : tSeq (tAsg te (gName i)) tz D σ H :=
  h H (Ex.refl H) _ k
theorem s_retP (h : EvP te σ H ps) (k : ∀ p H1 as, H p = none → Ex H H1 → H1 p = some (.lst (as.map V.ref)) → Tups H1 as ps → D.rt (.ref p) H1) : tRet te D σ H := h H (Ex.refl H) _ k
theorem t_yes {A B : Hp → Prop} (h : A H) : tYes σ H fun b H1 => if b = true then A H1 else B H1 := by
  show (if true = true then A H else B H)
  rw [if_pos rfl]
  exact h
/-- [(a, b) for a in range(n) for b in row(a)] -/
def flatP (row : Nat → List Int) (n : Nat) : List (Int × Int) := (List.range n).flatMap fun k => (row k).map fun b => ((k : Int), b)
theorem flatP_succ (row : Nat → List Int) (n : Nat) : flatP row (n + 1) = flatP row n ++ (row n).map fun b => ((n : Int), b) := by
  unfold flatP
  rw [List.range_succ, List.flatMap_append]
  simp
theorem ep_lc2 {ta ta2 : TA} {i j : Nat} {vs vs1 : List Nat} {n : Int} (row : Nat → List Int) (h : EvA ta σ H [.int n]) (hn : 0 ≤ n ∧ n ≤ 1000) (hrow : ∀ k, (row k).length ≤ 1000)
    (hw : ∀ x, wipe ((wipe σ vs).set i (some x)) vs = wipe σ vs) (hw1 : ∀ x y, wipe ((wipe ((wipe σ vs).set i (some x)) vs1).set j (some y)) vs1 = wipe ((wipe σ vs).set i (some x)) vs1)
    (hl : ∀ (k : Nat) H1, Ex H H1 → (k : Int) < n → EvL tl ((wipe σ vs).set i (some (.int (k : Int)))) H1 ((row k).map V.int))
    (he : ∀ (k : Nat) (b : Int) H1, Ex H H1 → (k : Int) < n → EvA ta2 ((wipe ((wipe σ vs).set i (some (.int (k : Int)))) vs1).set j (some (.int b))) H1 [.int (k : Int), .int b]) :
    EvP (tLc2 (iRng1 ta) (gName i) tYes (iList K tl) (gName j) tYes (tTup ta2) vs vs1) σ H (flatP row n.toNat) := fun H0 e0 Q q => h H0 e0 _ fun H1 e1 => ⟨n, rfl, by omega, by omega, fun Dl hD => by
  let Pv : Nat → Hp → Prop := fun k H' => Ex H1 H' ∧ ∃ as, H' Dl = some (.lst (as.map V.ref)) ∧ Tups H' as (flatP row k) ∧ as.length ≤ k * 1000
  refine ⟨fun k m H' => m = n.toNat - k ∧ k ≤ n.toNat ∧ Pv k H', ⟨n.toNat, by omega, Nat.zero_le _, Ex.new hD, [], upd_same, Tups.nil _, Nat.zero_le _⟩, ?_⟩
  rintro k m H' ⟨rfl, hk, e2, as, hl2, t2, z2⟩
  by_cases hlt : k < n.toNat
  · refine .inr ⟨hlt, Pv (k + 1), fun H'' p => ⟨n.toNat - (k + 1), by omega, rfl, hlt, p⟩, fun x H'' y => ?_⟩
    obtain ⟨y1, y2⟩ := y
    subst y1 y2
    have ek : ((0 : Int) + ((k : Nat) : Int)) = (k : Int) := Int.zero_add _
    show wipe ((wipe σ vs).set i (some (.int ((0 : Int) + ((k : Nat) : Int))))) vs = wipe σ vs ∧ _
    rw [ek]
    refine ⟨hw _, ?_⟩
    refine t_yes ?_
    refine hl k H'' ((e0.trans e1).trans e2) (by omega) H'' (Ex.refl _) _ fun p H3 hp e3 h3 => ⟨p, rfl, ⟨_, sq_of h3⟩, ?_⟩
    let Pv1 : Nat → Hp → Prop := fun b H4 => Ex H1 H4 ∧ H4 p = some (.lst ((row k).map V.int)) ∧ ∃ as, H4 Dl = some (.lst (as.map V.ref)) ∧ Tups H4 as (flatP row k ++ ((row k).take b).map fun b => ((k : Int), b)) ∧ as.length ≤ k * 1000 + b
    have npD : p ≠ Dl := fun z => by rw [z, hl2] at hp; cases hp
    have n1p : H1 p = none := fresh_back e2 hp
    refine ⟨fun b m H4 => m = (row k).length - b ∧ b ≤ (row k).length ∧ Pv1 b H4, ⟨(row k).length, by omega, Nat.zero_le _, e2.trans e3, h3, as, e3 _ _ hl2, ?_, by omega⟩, ?_⟩
    · rw [List.take_zero, List.map_nil, List.append_nil]
      exact t2.ex e3
    rintro b m H4 ⟨rfl, hb, e4, h4, as', hl4, t4, z4⟩
    by_cases hbl : b < (row k).length
    · have hx : ((row k).map V.int)[b]? = some (.int (row k)[b]) := by rw [List.getElem?_map, List.getElem?_eq_getElem hbl]; rfl
      refine .inr ⟨⟨_, _, sq_of h4, hx⟩, Pv1 (b + 1), fun H5 p5 => ⟨(row k).length - (b + 1), by omega, rfl, hbl, p5⟩, fun x H5 y => ?_⟩
      obtain ⟨y1, y2⟩ := y
      subst y1
      have ex := (y2 _ (sq_of h4)).symm.trans hx
      have ex := Option.some.inj ex
      subst ex
      refine ⟨hw1 _ _, ?_⟩
      refine t_yes ?_
      refine he k _ H5 ((e0.trans e1).trans e4) (by omega) H5 (Ex.refl _) _ fun H6 e6 => ⟨sz_of (Nat.le_of_ble_eq_true rfl), fun t nt => ?_⟩
      have hl6 := e6 _ _ hl4
      have ntD : Dl ≠ t := ne_of_none hl6 nt
      have e7 : Ex H6 (upd H6 t (.tup [.int (k : Int), .int (row k)[b]])) := Ex.new nt
      have hl7 := e7 _ _ hl6
      have hk1 := hrow k
      have hk2 : k ≤ 1000 := by omega
      refine ⟨_, hl7, (by rw [List.length_map, sizeLine_eq]; omega), Ex.mut ((e4.trans e6).trans e7) hD, ?_, as' ++ [t], ?_, ?_, ?_⟩
      · rw [upd_ne npD]
        exact e7 _ _ (e6 _ _ h4)
      · rw [upd_same, List.map_append]
        rfl
      · have z := (((t4.ex e6).ex e7).snoc (p := t) (q := ((k : Int), (row k)[b])) upd_same).upd (ys := as'.map V.ref ++ [.ref t]) hl7
        rw [List.append_assoc] at z
        have et : (row k).take (b + 1) = (row k).take b ++ [(row k)[b]] := by rw [List.take_add_one, List.getElem?_eq_getElem hbl]; rfl
        rw [et, List.map_append]
        exact z
      · rw [List.length_append]
        show as'.length + 1 ≤ _
        omega
    · have eb : b = (row k).length := by omega
      subst eb
      refine .inl ⟨⟨_, sq_of h4, by rw [List.length_map]; omega⟩, e4, as', hl4, ?_, ?_⟩
      · rw [flatP_succ]
        rw [List.take_length] at t4
        exact t4
      · have := hrow k
        omega
  · have ek : k = n.toNat := by omega
    subst ek
    exact .inl ⟨Nat.le_refl _, q Dl H' as (fresh_back e1 hD) (e1.trans e2) hl2 t2⟩⟩
end
end Hx
namespace Hx
open PySem PySem.Spec PyProof.Rows L2 Evl
/-- the sights of a land -/
def sightsOf (land : List Int) : List (Int × Int) := flatP (fun k => aheadOf land (k : Int)) ((land.length : Nat) : Int).toNat
def RSights (K : PySem.W.Frag) (vs : List V) (H : Hp) (xs : List (Int × Int)) : Prop := ∃ (l : Addr) (land : List Int), vs = [.ref l] ∧ land.length ≤ 1000 ∧ SqL K H l (land.map V.int) ∧ xs = sightsOf land
theorem ep_sights {K : PySem.W.Frag} {σ : L2.St} {H : Hp} {ta : TA} {E : XK} {l : Addr} {land : List Int} (h : EvA ta σ H [.ref l]) (hs : SqL K H l (land.map V.int)) (h3 : land.length ≤ 1000) : EvP (tCall (spP (RSights K)) [] E ta) σ H (sightsOf land) :=
  ep_cal h fun _ e => ⟨l, land, rfl, h3, ex_l e hs, rfl⟩
theorem mem_sightsOf {land : List Int} {a b : Int} : (a, b) ∈ sightsOf land ↔ 0 ≤ a ∧ a < b ∧ b < (land.length : Int) ∧ seesP land a b := by
  unfold sightsOf flatP
  rw [List.mem_flatMap]
  constructor
  · rintro ⟨k, hk, h⟩
    have hk := List.mem_range.mp hk
    obtain ⟨c, hc, e⟩ := List.mem_map.mp h
    have e1 : ((k : Nat) : Int) = a := congrArg Prod.fst e
    have e2 : c = b := congrArg Prod.snd e
    subst e1 e2
    obtain ⟨h1, h2, h3⟩ := mem_aheadOf.mp hc
    exact ⟨by omega, h1, h2, h3⟩
  · rintro ⟨h0, h1, h2, h3⟩
    refine ⟨a.toNat, List.mem_range.mpr (by omega), List.mem_map.mpr ⟨b, ?_, ?_⟩⟩
    · have e : ((a.toNat : Nat) : Int) = a := by omega
      show b ∈ aheadOf land ((a.toNat : Nat) : Int)
      rw [e]
      exact mem_aheadOf.mpr ⟨h1, h2, h3⟩
    · have e : ((a.toNat : Nat) : Int) = a := by omega
      rw [e]
end Hx
/-! Lists of pairs compared and sorted; the sights of lands that are tilted, stretched, turned. -/
namespace Hx
open PySem PySem.Spec PyProof.Rows L2 Evl
def pD (q : Int × Int) : PyData := .tuple [.int q.1, .int q.2]
theorem pD_lay (z : Int × Int) : (pD z).canLay0 = true := by simp [pD, PyData.canLay0, PyData.canLayAll0]
theorem pD_depth (z : Int × Int) : (pD z).depth ≤ 1 := by simp [pD, PyData.depth, PyData.depthAll]
theorem pDs_lay : ∀ zs : List (Int × Int), PyData.canLayAll0 (zs.map pD) = true
  | [] => by simp [PyData.canLayAll0]
  | z :: zs => by simp [PyData.canLayAll0, pD_lay z, pDs_lay zs]
theorem pDs_depth : ∀ zs : List (Int × Int), PyData.depthAll (zs.map pD) ≤ 3
  | [] => by simp [PyData.depthAll]
  | z :: zs => by
    have h1 := pDs_depth zs
    have h2 := pD_depth z
    simp only [List.map_cons, PyData.depthAll]
    omega
theorem pDs_shaped (zs : List (Int × Int)) : SeqAt.shaped (.list (zs.map pD)) = true := by
  have h1 := pDs_depth zs
  have h2 : PyData.depth (.list (zs.map pD)) ≤ 64 := by
    simp only [PyData.depth]
    omega
  show (PyData.canLay0 (.list (zs.map pD)) && decide (PyData.depth (.list (zs.map pD)) ≤ 64)) = true
  rw [Bool.and_eq_true]
  exact ⟨by simp only [PyData.canLay0]; exact pDs_lay zs, decide_eq_true h2⟩
theorem pD_eqv (z w : Int × Int) : PyData.eqv (pD z) (pD w) = decide (z = w) := by
  obtain ⟨a, b⟩ := z
  obtain ⟨c, d⟩ := w
  have e : PyData.eqv (pD (a, b)) (pD (c, d)) = ((a == c) && ((b == d) && true)) := by simp only [pD, PyData.eqv, PyData.eqvAll]
  rw [e]
  by_cases h1 : a = c <;> by_cases h2 : b = d <;> simp [h1, h2]
theorem pDs_eqvAll : ∀ zs ws : List (Int × Int), PyData.eqvAll (zs.map pD) (ws.map pD) = decide (zs = ws)
  | [], [] => by simp [PyData.eqvAll]
  | [], _ :: _ => by simp [PyData.eqvAll]
  | _ :: _, [] => by simp [PyData.eqvAll]
  | n :: r, m :: s => by
    have h := pDs_eqvAll r s
    simp only [List.map_cons, PyData.eqvAll, pD_eqv, h]
    by_cases e : n = m <;> by_cases e2 : r = s <;> simp [e, e2]
theorem pDs_eqv (zs ws : List (Int × Int)) : PyData.eqv (.list (zs.map pD)) (.list (ws.map pD)) = decide (zs = ws) := by
  simp only [PyData.eqv, pDs_eqvAll]
section
variable {K : PySem.W.Frag} {σ : L2.St} {H : Hp} {ta tb te tl : TE} {D : Ends} {tz : TS} {ps qs : List (Int × Int)} {as bs : List Addr} {p q : Addr}
theorem dp_tups : ∀ {as : List Addr} {ps : List (Int × Int)}, Tups H as ps → DpAll K H (as.map V.ref) (ps.map pD)
  | [], [], _ => .nil
  | [], _ :: _, t => by cases t.1
  | _ :: _, [], t => by cases t.1
  | a :: as, z :: ps, t => .cons (.tup (st_of (t.2 0 a z rfl rfl)) (.cons (.int _) (.cons (.int _) .nil))) (dp_tups ⟨Nat.succ.inj t.1, fun i a q h1 h2 => t.2 (i + 1) a q h1 h2⟩)
/-- at p stands a list of the pairs -/
def PrL (H : Hp) (p : Addr) (ps : List (Int × Int)) : Prop := ∃ as, H p = some (.lst (as.map V.ref)) ∧ Tups H as ps
theorem PrL.ex {H H' : Hp} (e : Ex H H') (h : PrL H p ps) : PrL H' p ps := by
  obtain ⟨as, h1, h2⟩ := h
  exact ⟨as, e _ _ h1, h2.ex e⟩
theorem PrL.dp {K : PySem.W.Frag} (h : PrL H p ps) : Dp K H (.ref p) (.list (ps.map pD)) := by
  obtain ⟨as, h1, h2⟩ := h
  exact .lst (sq_of h1) (dp_tups h2)
theorem rv_eqP (h1 : PrL H p ps) (h2 : PrL H q qs) : RV (rEqD K) (.ref p) (.ref q) H (.bl (decide (ps = qs))) :=
  fun H1 e Q k => ⟨_, _, (h1.ex e).dp, (h2.ex e).dp, pDs_shaped ps, pDs_shaped qs, by rw [pDs_eqv]; exact k H1 (Ex.refl H1)⟩
theorem rv_neP (h1 : PrL H p ps) (h2 : PrL H q qs) : RV (rNeD K) (.ref p) (.ref q) H (.bl (!decide (ps = qs))) :=
  fun H1 e Q k => ⟨_, _, (h1.ex e).dp, (h2.ex e).dp, pDs_shaped ps, pDs_shaped qs, by rw [pDs_eqv]; exact k H1 (Ex.refl H1)⟩
/-- a new list of pairs on the left, on the right -/
theorem ev_opPl {r : R2} {y z : V} (ha : EvP ta σ H ps) (hb : Ev tb σ H y) (hr : ∀ p H1, PrL H1 p ps → Ex H H1 → RV r (.ref p) y H1 z) : Ev (tOp r ta tb) σ H z := fun H1 e Q k =>
  ha H1 e _ fun p H2 as _ e2 h2 t2 => hb H2 (e.trans e2) _ fun H3 e3 => hr p H2 ⟨as, h2, t2⟩ (e.trans e2) H3 e3 _ fun H4 e4 => k H4 ((e2.trans e3).trans e4)
theorem ev_opPr {r : R2} {x z : V} (ha : Ev ta σ H x) (hb : EvP tb σ H ps) (hr : ∀ p H1, PrL H1 p ps → Ex H H1 → RV r x (.ref p) H1 z) : Ev (tOp r ta tb) σ H z := fun H1 e Q k =>
  ha H1 e _ fun H2 e2 => hb H2 (e.trans e2) _ fun p H3 as _ e3 h3 t3 => hr p H3 ⟨as, h3, t3⟩ ((e.trans e2).trans e3) H3 (Ex.refl _) _ fun H4 e4 => k H4 ((e2.trans e3).trans e4)
/-- the lesser by the first, then by the second -/
def ltq (x y : Int × Int) : Prop := x.1 < y.1 ∨ (x.1 = y.1 ∧ x.2 < y.2)
def keyOf (H : Hp) : V → Int × Int := fun v => match v with
  | .ref t => (match H t with
    | some (.tup [.int a, .int b]) => (a, b)
    | _ => (0, 0))
  | _ => (0, 0)
theorem keyOf_at {t : Addr} {a b : Int} (h : H t = some (.tup [.int a, .int b])) : keyOf H (.ref t) = (a, b) := by
  unfold keyOf
  simp only [h]
theorem ep_sorted {qs : List (Int × Int)} (h : EvP te σ H ps) (hp : qs.Perm ps) (hs : qs.Pairwise ltq) : EvP (tCB (rSortedPO K) (tCons te tNil)) σ H qs := fun H0 e0 Q k => by
  refine h H0 e0 _ fun p H1 as np e1 h1 t1 => ?_
  have hk : ∀ x ∈ as.map V.ref, ∃ t, x = V.ref t ∧ H1 t = some (.tup [.int (keyOf H1 x).1, .int (keyOf H1 x).2]) := by
    intro x hx
    obtain ⟨t, ht, rfl⟩ := List.mem_map.mp hx
    obtain ⟨i, hi, et⟩ := List.getElem_of_mem ht
    have hi2 : i < ps.length := by rw [← t1.1]; exact hi
    have z := t1.2 i t ps[i] (by rw [List.getElem?_eq_getElem hi, et]) (List.getElem?_eq_getElem hi2)
    refine ⟨t, rfl, ?_⟩
    rw [keyOf_at z]
    exact z
  refine ⟨p, as.map V.ref, keyOf H1, rfl, sq_of h1, hk, fun ys l hys hst hl => ?_⟩
  have hm : (as.map V.ref).map (keyOf H1) = ps := by
    refine List.ext_getElem ?_ fun i h2 h3 => ?_
    · rw [List.length_map, List.length_map, t1.1]
    · have hi : i < as.length := by simpa using h2
      rw [List.getElem_map, List.getElem_map]
      have z := t1.2 i as[i] ps[i] (List.getElem?_eq_getElem hi) (List.getElem?_eq_getElem h3)
      rw [keyOf_at z]
  have hyp : (ys.map (keyOf H1)).Perm ps := by
    rw [← hm]
    exact hst.perm.map _
  have hysq : ys.map (keyOf H1) = qs := by
    refine List.Perm.eq_of_pairwise (le := fun x y => ¬ ltq y x) ?_ ?_ ?_ (hyp.trans hp.symm)
    · intro a b _ _ h1 h2
      unfold ltq at h1 h2
      exact Prod.ext (by omega) (by omega)
    · rw [List.pairwise_map]
      refine hys.imp fun {x y} hxy => ?_
      intro z
      have w : ltP (keyOf H1) y x = true := SrtO.lexB_iff.mpr (by unfold ltq at z; omega)
      rw [w] at hxy
      cases hxy
    · refine hs.imp fun {x y} hxy => ?_
      unfold ltq at hxy ⊢
      omega
  -- the refs, as addresses
  have hys' : ∃ cs : List Addr, ys = cs.map V.ref := by
    refine ⟨ys.map (fun v => match v with | .ref t => t | _ => 0), ?_⟩
    rw [List.map_map]
    refine (List.map_id ys).symm.trans (List.map_congr_left fun v hv => ?_)
    obtain ⟨t, _, rfl⟩ := List.mem_map.mp (hst.perm.mem_iff.mp hv)
    rfl
  obtain ⟨cs, rfl⟩ := hys'
  refine k l _ cs (fresh_back e1 hl) (e1.trans (Ex.new hl)) upd_same ?_
  refine ⟨by rw [← hysq, List.length_map, List.length_map], fun i a q h2 h3 => ?_⟩
  have hmem : V.ref a ∈ as.map V.ref := hst.perm.mem_iff.mp (List.mem_map.mpr ⟨a, List.mem_of_getElem? h2, rfl⟩)
  obtain ⟨t, e, z⟩ := hk _ hmem
  cases e
  rw [← hysq, List.getElem?_map, List.getElem?_map, h2] at h3
  have e3 : keyOf H1 (.ref a) = q := Option.some.inj h3
  rw [e3] at z
  exact Ex.new hl _ _ z
end
end Hx

namespace Hx
open PySem PySem.Spec PyProof.Rows L2 Evl
section
variable {K : PySem.W.Frag} {σ : L2.St} {H : Hp} {te tl : TE} {ps : List (Int × Int)} {p : Addr}
/-! ### comprehensions over int lists and lists of pairs -/
theorem given_of {xs : List Int} {v : Nat → V} {g : Int → Int} (h : ∀ i x, xs[i]? = some x → v i = .int (g x)) : given xs.length (fun _ => true) v = (xs.map g).map V.int := by
  unfold given
  rw [List.filter_eq_self.mpr (fun _ _ => rfl)]
  refine List.ext_getElem (by simp) fun i h1 h2 => ?_
  have hi : i < xs.length := by simpa using h1
  rw [List.getElem_map, List.getElem_map, List.getElem_map, List.getElem_range]
  exact h i _ (List.getElem?_eq_getElem hi)
theorem el_lcIN {xs : List Int} {j : Nat} {vs : List Nat} (g : Int → Int) (h : EvL tl σ H (xs.map V.int)) (hz : xs.length ≤ 40000) (hw : ∀ x, wipe ((wipe σ vs).set j (some x)) vs = wipe σ vs)
    (he : ∀ x H1, Ex H H1 → x ∈ xs → Ev te ((wipe σ vs).set j (some (.int x))) H1 (.int (g x))) : EvL (tLc (iList K tl) (gName j) tYes te vs) σ H ((xs.map g).map V.int) := by
  have hl : (xs.map V.int).length = xs.length := List.length_map ..
  have z := el_lcNL (K := K) (te := te) (t := tYes) (fun _ => true) (fun i => .int (g (cel xs (i : Int)))) h (by omega) hw (fun _ _ _ _ _ => et_yes) (fun i x H1 e hx _ => by
    rw [List.getElem?_map] at hx
    cases q : xs[i]? with
    | none => rw [q] at hx; cases hx
    | some y =>
      rw [q] at hx
      have ex : V.int y = x := Option.some.inj hx
      subst ex
      have ey : cel xs (i : Int) = y := by unfold cel; rw [List.getD_eq_getElem?_getD]; (show (xs[i]?).getD 0 = y); rw [q]; rfl
      rw [ey]
      exact he y H1 e (List.mem_of_getElem? q))
  rw [hl, given_of (xs := xs) (g := g)] at z
  · exact z
  · intro i x hx
    have ey : cel xs (i : Int) = x := by unfold cel; rw [List.getD_eq_getElem?_getD]; (show (xs[i]?).getD 0 = x); rw [hx]; rfl
    rw [ey]
theorem el_lcI {xs : List Int} {a : Addr} {j : Nat} {vs : List Nat} (g : Int → Int) (h : Ev tl σ H (.ref a)) (hx : SqL K H a (xs.map V.int)) (hz : xs.length ≤ 40000) (hw : ∀ x, wipe ((wipe σ vs).set j (some x)) vs = wipe σ vs)
    (he : ∀ x H1, Ex H H1 → x ∈ xs → Ev te ((wipe σ vs).set j (some (.int x))) H1 (.int (g x))) : EvL (tLc (iList K tl) (gName j) tYes te vs) σ H ((xs.map g).map V.int) := by
  have hl : (xs.map V.int).length = xs.length := List.length_map ..
  have z := el_lcL (K := K) (te := te) (t := tYes) (fun _ => true) (fun i => .int (g (cel xs (i : Int)))) h hx (by omega) hw (fun _ _ _ _ _ => et_yes) (fun i x H1 e hx _ => by
    rw [List.getElem?_map] at hx
    cases q : xs[i]? with
    | none => rw [q] at hx; cases hx
    | some y =>
      rw [q] at hx
      have ex : V.int y = x := Option.some.inj hx
      subst ex
      have ey : cel xs (i : Int) = y := by unfold cel; rw [List.getD_eq_getElem?_getD]; (show (xs[i]?).getD 0 = y); rw [q]; rfl
      rw [ey]
      exact he y H1 e (List.mem_of_getElem? q))
  rw [hl, given_of (xs := xs) (g := g)] at z
  · exact z
  · intro i x hx
    have ey : cel xs (i : Int) = x := by unfold cel; rw [List.getD_eq_getElem?_getD]; (show (xs[i]?).getD 0 = x); rw [hx]; rfl
    rw [ey]
theorem el_lcR {ta : TA} {n : Int} {j : Nat} {vs : List Nat} (g : Nat → Int) (h : EvA ta σ H [.int n]) (hn : 0 ≤ n ∧ n ≤ 40000) (hw : ∀ x, wipe ((wipe σ vs).set j (some x)) vs = wipe σ vs)
    (he : ∀ (i : Nat) H1, Ex H H1 → (i : Int) < n → Ev te ((wipe σ vs).set j (some (.int (i : Int)))) H1 (.int (g i))) : EvL (tLc (iRng1 ta) (gName j) tYes te vs) σ H (((List.range n.toNat).map g).map V.int) := by
  have z := el_lcR1 (te := te) (t := tYes) (fun _ => true) (fun i => .int (g i)) h hn hw (fun _ _ _ _ => et_yes) (fun i H1 e hi _ => he i H1 e hi)
  rw [given_all (g := g) (fun _ => rfl)] at z
  exact z
theorem ep_lcP {ta2 : TA} {i j : Nat} {vs : List Nat} (f : Int × Int → Int × Int) (h : Ev tl σ H (.ref p)) (hp : PrL H p ps) (hz : ps.length ≤ 100000) (hw : ∀ x y, wipe (((wipe σ vs).set i (some x)).set j (some y)) vs = wipe σ vs)
    (he : ∀ q H1, Ex H H1 → q ∈ ps → EvA ta2 (((wipe σ vs).set i (some (.int q.1))).set j (some (.int q.2))) H1 [.int (f q).1, .int (f q).2]) :
    EvP (tLc (iList K tl) (gTup K 2 (gCons (gName i) (gCons (gName j) gNil))) tYes (tTup ta2) vs) σ H (ps.map f) := fun H0 e0 Q k => h H0 e0 _ fun H1 e1 => by
  obtain ⟨as, ha, ta⟩ := hp
  have ha1 := e1 _ _ (e0 _ _ ha)
  refine ⟨p, rfl, ⟨_, sq_of ha1⟩, fun Dl hD => ?_⟩
  refine lc_list (xs := as.map V.ref) (fun n H' => Ex H1 H' ∧ ∃ bs, H' Dl = some (.lst (bs.map V.ref)) ∧ Tups H' bs ((ps.map f).take n)) ⟨Ex.new hD, [], upd_same, Tups.nil _⟩ (fun n H' _ q => sq_of (q.1 _ _ ha1)) ?_ ?_
  · rintro n x H' hx ⟨e2, bs, hb, tb⟩
    rw [List.getElem?_map] at hx
    cases qa : as[n]? with
    | none => rw [qa] at hx; cases hx
    | some t =>
      rw [qa] at hx
      have ex : V.ref t = x := Option.some.inj hx
      subst ex
      have hn : n < ps.length := by rw [← ta.1]; exact (List.getElem?_eq_some_iff.mp qa).1
      have ht := e2 _ _ (e1 _ _ (e0 _ _ (ta.2 n t ps[n] qa (List.getElem?_eq_getElem hn))))
      refine ⟨t, _, rfl, st_of ht, rfl, _, _, rfl, _, _, rfl, rfl, hw _ _, ?_⟩
      refine t_yes ?_
      refine he ps[n] H' ((e0.trans e1).trans e2) (List.getElem_mem hn) H' (Ex.refl _) _ fun H3 e3 => ⟨sz_of (Nat.le_of_ble_eq_true rfl), fun c nc => ?_⟩
      have e4 : Ex H3 (upd H3 c (.tup [.int (f ps[n]).1, .int (f ps[n]).2])) := Ex.new nc
      have hb4 := e4 _ _ (e3 _ _ hb)
      have lb : bs.length ≤ 100000 := by rw [tb.1, List.length_take]; omega
      refine ⟨_, hb4, by rw [List.length_map, sizeLine_eq]; omega, Ex.mut ((e2.trans e3).trans e4) hD, bs ++ [c], ?_, ?_⟩
      · rw [upd_same, List.map_append]
        rfl
      · have z := (((tb.ex e3).ex e4).snoc (p := c) (q := f ps[n]) upd_same).upd (ys := bs.map V.ref ++ [.ref c]) hb4
        have et : (ps.map f).take (n + 1) = (ps.map f).take n ++ [f ps[n]] := by
          rw [List.take_add_one, List.getElem?_map, List.getElem?_eq_getElem hn]
          rfl
        rw [et]
        exact z
  · rintro H' ⟨e2, bs, hb, tb⟩
    refine k Dl H' bs (fresh_back e1 hD) (e1.trans e2) hb ?_
    rw [List.length_map, ta.1, List.take_of_length_le (by rw [List.length_map]; exact Nat.le_refl _)] at tb
    exact tb
end
end Hx
/-! ### lands tilted, stretched, turned -/
namespace Hx
theorem sightsOf_congr {l m : List Int} (hl : l.length = m.length) (h : ∀ a b, 0 ≤ a → a < b → b < (l.length : Int) → (seesP l a b ↔ seesP m a b)) : sightsOf l = sightsOf m := by
  have hb : ∀ a b, 0 ≤ a → a < b → b < (l.length : Int) → seesB l a b = seesB m a b := fun a b h0 h1 h2 => by
    cases e : seesB m a b with
    | true => exact seesB_iff.mpr ((h a b h0 h1 h2).mpr (seesB_iff.mp e))
    | false =>
      cases e2 : seesB l a b with
      | false => rfl
      | true =>
        have z := seesB_iff.mpr ((h a b h0 h1 h2).mp (seesB_iff.mp e2))
        rw [e] at z
        cases z
  unfold sightsOf flatP
  rw [← hl]
  have key : ∀ k ∈ List.range (((l.length : Nat) : Int)).toNat, aheadOf l (k : Int) = aheadOf m (k : Int) := by
    intro k hk
    have hk := List.mem_range.mp hk
    unfold aheadOf aheadN
    rw [← hl]
    refine List.filter_congr fun x hx => ?_
    obtain ⟨j, hj, rfl⟩ := List.mem_map.mp hx
    have hj := List.mem_range.mp hj
    exact hb _ _ (by omega) (by omega) (by omega)
  rw [List.flatMap_def, List.flatMap_def]
  congr 1
  exact List.map_congr_left fun k hk => by dsimp only; rw [key k hk]
theorem aheadOf_sorted (land : List Int) (a : Int) : (aheadOf land a).Pairwise (· < ·) := by
  unfold aheadOf aheadN
  refine List.Pairwise.filter _ ?_
  rw [List.pairwise_map]
  exact List.pairwise_lt_range.imp fun {x y} h => by omega
theorem sightsOf_sorted (land : List Int) : (sightsOf land).Pairwise ltq := by
  unfold sightsOf flatP
  rw [List.pairwise_flatMap]
  constructor
  · intro k _
    rw [List.pairwise_map]
    exact (aheadOf_sorted land k).imp fun {x y} h => .inr ⟨rfl, h⟩
  · refine List.pairwise_lt_range.imp fun {x y} h => ?_
    intro p hp q hq
    obtain ⟨b, _, rfl⟩ := List.mem_map.mp hp
    obtain ⟨c, _, rfl⟩ := List.mem_map.mp hq
    exact .inl (by show (x : Int) < (y : Int); omega)
theorem ltq_nodup {ps : List (Int × Int)} (h : ps.Pairwise ltq) : ps.Nodup := h.imp fun {x y} z e => by
  subst e
  unfold ltq at z
  omega
theorem cel_range {g : Nat → Int} {n : Nat} {i : Int} (h0 : 0 ≤ i) (h : i < (n : Int)) : cel ((List.range n).map g) i = g i.toNat := by
  unfold cel
  rw [List.getD_eq_getElem?_getD, List.getElem?_map, List.getElem?_range (by omega)]
  rfl
theorem cel_map {f : Int → Int} {l : List Int} {i : Int} (h0 : 0 ≤ i) (h : i < (l.length : Int)) : cel (l.map f) i = f (cel l i) := by
  unfold cel
  rw [List.getD_eq_getElem?_getD, List.getD_eq_getElem?_getD, List.getElem?_map, List.getElem?_eq_getElem (by omega)]
  rfl
def tiltedOf (land : List Int) (by_ more : Int) : List Int := (List.range land.length).map fun (k : Nat) => cel land (k : Int) + by_ * (k : Int) + more
def turnedOf (land : List Int) : List Int := (List.range land.length).map fun (k : Nat) => cel land ((land.length : Int) - 1 - (k : Int))
theorem sights_tilted (land : List Int) (b m : Int) : sightsOf (tiltedOf land b m) = sightsOf land := by
  have hl : (tiltedOf land b m).length = land.length := by unfold tiltedOf; rw [List.length_map, List.length_range]
  refine sightsOf_congr hl fun x y h0 h1 h2 => ?_
  rw [hl] at h2
  have hc : ∀ i, 0 ≤ i → i < (land.length : Int) → cel (tiltedOf land b m) i = cel land i + b * i + m := fun i h0 h => by
    unfold tiltedOf
    rw [cel_range h0 h]
    have e : ((i.toNat : Nat) : Int) = i := by omega
    rw [e]
  unfold seesP lowB
  constructor
  · intro h k k1 k2
    have z := h k k1 k2
    rw [hc k (by omega) (by omega), hc x (by omega) (by omega), hc y (by omega) (by omega)] at z
    grind
  · intro h k k1 k2
    have z := h k k1 k2
    rw [hc k (by omega) (by omega), hc x (by omega) (by omega), hc y (by omega) (by omega)]
    grind
theorem sights_stretched (land : List Int) (t : Int) (ht : 0 < t) : sightsOf (land.map (· * t)) = sightsOf land := by
  have hl : (land.map (· * t)).length = land.length := List.length_map ..
  refine sightsOf_congr hl fun x y h0 h1 h2 => ?_
  rw [hl] at h2
  unfold seesP lowB
  constructor
  · intro h k k1 k2
    have z := h k k1 k2
    rw [cel_map (by omega) (by omega), cel_map (by omega) (by omega), cel_map (by omega) (by omega)] at z
    have e1 : (cel land k * t - cel land x * t) * (y - x) = ((cel land k - cel land x) * (y - x)) * t := by grind
    have e2 : (cel land y * t - cel land x * t) * (k - x) = ((cel land y - cel land x) * (k - x)) * t := by grind
    rw [e1, e2] at z
    exact Int.lt_of_mul_lt_mul_right z (by omega)
  · intro h k k1 k2
    have z := h k k1 k2
    rw [cel_map (by omega) (by omega), cel_map (by omega) (by omega), cel_map (by omega) (by omega)]
    have e1 : (cel land k * t - cel land x * t) * (y - x) = ((cel land k - cel land x) * (y - x)) * t := by grind
    have e2 : (cel land y * t - cel land x * t) * (k - x) = ((cel land y - cel land x) * (k - x)) * t := by grind
    rw [e1, e2]
    exact Int.mul_lt_mul_of_pos_right z ht
theorem sees_turned (land : List Int) {a b : Int} (h0 : 0 ≤ a) (h1 : a < b) (h2 : b < (land.length : Int)) : seesP (turnedOf land) a b ↔ seesP land ((land.length : Int) - 1 - b) ((land.length : Int) - 1 - a) := by
  have hc : ∀ i, 0 ≤ i → i < (land.length : Int) → cel (turnedOf land) i = cel land ((land.length : Int) - 1 - i) := fun i h0 h => by
    unfold turnedOf
    rw [cel_range h0 h]
    have e : ((i.toNat : Nat) : Int) = i := by omega
    rw [e]
  unfold seesP lowB
  constructor
  · intro h k k1 k2
    have z := h ((land.length : Int) - 1 - k) (by omega) (by omega)
    rw [hc _ (by omega) (by omega), hc _ (by omega) (by omega), hc _ (by omega) (by omega)] at z
    have e : (land.length : Int) - 1 - ((land.length : Int) - 1 - k) = k := by omega
    rw [e] at z
    grind
  · intro h k k1 k2
    have z := h ((land.length : Int) - 1 - k) (by omega) (by omega)
    rw [hc _ (by omega) (by omega), hc _ (by omega) (by omega), hc _ (by omega) (by omega)]
    grind
theorem sights_turned (land : List Int) : (sightsOf (turnedOf land)).Perm ((sightsOf land).map fun q => ((land.length : Int) - 1 - q.2, (land.length : Int) - 1 - q.1)) := by
  have hl : (turnedOf land).length = land.length := by unfold turnedOf; rw [List.length_map, List.length_range]
  refine (List.perm_ext_iff_of_nodup (ltq_nodup (sightsOf_sorted _)) ?_).mpr fun q => ?_
  · refine List.pairwise_map.mpr ((ltq_nodup (sightsOf_sorted land)).imp fun {x y} h e => h ?_)
    have e1 := congrArg Prod.fst e
    have e2 := congrArg Prod.snd e
    simp only at e1 e2
    exact Prod.ext (by omega) (by omega)
  · obtain ⟨a, b⟩ := q
    rw [mem_sightsOf, hl, List.mem_map]
    constructor
    · rintro ⟨h0, h1, h2, h3⟩
      refine ⟨((land.length : Int) - 1 - b, (land.length : Int) - 1 - a), mem_sightsOf.mpr ⟨by omega, by omega, by omega, (sees_turned land h0 h1 h2).mp h3⟩, ?_⟩
      exact Prod.ext (by simp only; omega) (by simp only; omega)
    · rintro ⟨⟨c, d⟩, hm, e⟩
      obtain ⟨h0, h1, h2, h3⟩ := mem_sightsOf.mp hm
      have e1 : (land.length : Int) - 1 - d = a := congrArg Prod.fst e
      have e2 : (land.length : Int) - 1 - c = b := congrArg Prod.snd e
      have e3 : (land.length : Int) - 1 - b = c := by omega
      have e4 : (land.length : Int) - 1 - a = d := by omega
      refine ⟨by omega, by omega, by omega, (sees_turned land (by omega) (by omega) (by omega)).mpr ?_⟩
      rw [e3, e4]
      exact h3
end Hx
namespace Hx
open PySem PySem.Spec PyProof.Rows L2 Evl
theorem ep_sightsN {K : PySem.W.Frag} {σ : L2.St} {H : Hp} {tl : TE} {E : XK} {land : List Int} (h : EvL tl σ H (land.map V.int)) (h3 : land.length ≤ 1000) : EvP (tCall (spP (RSights K)) [] E (tCons tl tNil)) σ H (sightsOf land) :=
  fun H0 e0 Q q => h H0 e0 _ fun l H1 nl e1 h1 => ⟨sightsOf land, ⟨l, land, rfl, h3, sq_of h1, rfl⟩, fun p H2 as np e2 h2 t2 => q p H2 as (fresh_back e1 np) (e1.trans e2) h2 t2⟩
end Hx
namespace Hx
theorem flatP_len {row : Nat → List Int} {m : Nat} (h : ∀ k, (row k).length ≤ m) : ∀ n, (flatP row n).length ≤ n * m
  | 0 => Nat.zero_le _
  | n + 1 => by
    have z := flatP_len h n
    have y := h n
    rw [flatP_succ, List.length_append, List.length_map, Nat.succ_mul]
    omega
theorem aheadOf_len (land : List Int) (a : Nat) : (aheadOf land (a : Int)).length ≤ land.length := by
  have z := aheadN_len land (a : Int) ((land.length : Int) - ((a : Int) + 1)).toNat
  unfold aheadOf
  omega
theorem sightsOf_len (land : List Int) : (sightsOf land).length ≤ land.length * land.length := by
  have z := flatP_len (row := fun k => aheadOf land (k : Int)) (fun k => aheadOf_len land k) ((land.length : Nat) : Int).toNat
  have e : ((land.length : Nat) : Int).toNat = land.length := by omega
  unfold sightsOf
  rw [e] at z ⊢
  exact z
end Hx
local macro_rules | `(tactic| walk_at "as") => `(tactic| with_reducible assumption)
local macro_rules | `(tactic| walk_at "sq") => `(tactic| first
  | (with_reducible assumption)
  | ((with_reducible apply Evl.sq_of); with_reducible assumption)
  | ((with_reducible apply Evl.st_of); with_reducible assumption)
  | ((with_reducible apply Evl.ex_l); (with_reducible assumption); (walk_at "sq"))
  | ((with_reducible apply Evl.ex_t); (with_reducible assumption); (walk_at "sq")))
local macro_rules | `(tactic| walk_at "hp") => `(tactic| first
  | (with_reducible assumption)
  | (with_reducible exact L2.upd_same)
  | ((with_reducible apply Hx.ex_at); (with_reducible assumption); (walk_at "hp")))
local macro_rules | `(tactic| walk_at "ex") => `(tactic| first
  | (with_reducible assumption)
  | (with_reducible exact Evl.Ex.refl _)
  | ((with_reducible apply Hx.ex_step); (with_reducible assumption); (walk_at "ex")))
local macro_rules | `(tactic| walk_at "sd") => `(tactic| first
  | (with_reducible assumption)
  | omega
  | (dsimp only; omega)
  | (refine Or.inr ⟨?_, ?_⟩ <;> omega)
  | (refine Or.inl ⟨?_, ?_⟩ <;> omega)
  | (refine ⟨?_, ?_⟩ <;> omega)
  | (refine ⟨?_, ?_, ?_⟩ <;> decide))
local macro_rules | `(tactic| walk_at "ix") => `(tactic| first
  | (with_reducible assumption)
  | ((with_reducible refine Hx.getD_ix ?_ ?_) <;> omega)
  | rfl)
local macro_rules | `(tactic| walk_at "rv") => `(tactic| first
  | (with_reducible exact Evl.rv_I0)
  | ((with_reducible apply Evl.rv_I); walk_at "sd")
  | ((with_reducible refine Evl.rv_eq ?_); rfl)
  | ((with_reducible refine Evl.rv_ne ?_); rfl)
  | (with_reducible exact Hx.rv_isN)
  | (with_reducible exact Hx.rv_notN)
  | ((with_reducible apply Evl.rv_ixL); (walk_at "sq"); (walk_at "ix"))
  | ((with_reducible apply Evl.rv_ixT); (walk_at "sq"); (walk_at "ix"))
  | ((with_reducible apply Hx.rv_eqI); (walk_at "sq"); (walk_at "sq"))
  | ((with_reducible apply Hx.rv_neI); (walk_at "sq"); (walk_at "sq")))
local macro_rules | `(tactic| walk_at "rc") => `(tactic| first
  | (with_reducible exact Hx.rc_min)
  | (with_reducible exact Hx.rc_max)
  | (with_reducible exact Hx.rc_intb)
  | ((with_reducible apply Hx.rc_len); walk_at "sq")
  | ((with_reducible apply Hx.rc_lenT); walk_at "sq")
  | with_reducible exact Hx.rc_isi_int Hx.kb_int_int
  | with_reducible exact Hx.rc_isi_int Hx.kb_int_bool
  | with_reducible exact Hx.rc_isi_bl Hx.kb_bool_int
  | with_reducible exact Hx.rc_isi_bl Hx.kb_bool_bool
  | with_reducible exact Hx.rc_isi_non Hx.kb_NoneType_int
  | with_reducible exact Hx.rc_isi_non Hx.kb_NoneType_bool
  | with_reducible exact Hx.rc_isi_str Hx.kb_str_int
  | with_reducible exact Hx.rc_isi_str Hx.kb_str_bool
  | ((with_reducible apply Hx.rc_isi_lst (e := Hx.kb_list_list)); walk_at "hp")
  | ((with_reducible apply Hx.rc_isi_tup (e := Hx.kb_tuple_tuple)); walk_at "hp")
  | ((with_reducible apply Hx.rc_isi_lst (e := Hx.kb_list_int)); walk_at "hp")
  | ((with_reducible apply Hx.rc_isi_tup (e := Hx.kb_tuple_int)); walk_at "hp")
  | ((with_reducible apply Hx.rc_isi_lst (e := Hx.kb_list_bool)); walk_at "hp")
  | ((with_reducible apply Hx.rc_isi_tup (e := Hx.kb_tuple_bool)); walk_at "hp")
  | ((with_reducible apply Hx.rc_isi_lst (e := Hx.kb_list_tuple)); walk_at "hp")
  | ((with_reducible apply Hx.rc_isi_tup (e := Hx.kb_tuple_list)); walk_at "hp")
  | with_reducible exact Hx.rc_isi_int Hx.kb_int_list
  | with_reducible exact Hx.rc_isi_int Hx.kb_int_tuple)
local macro_rules | `(tactic| walk_at "ea") => `(tactic| first
  | (with_reducible exact Evl.ea_nil)
  | ((with_reducible apply Evl.ea_cons); (walk_at "ev"); (walk_at "ea")))
local macro_rules | `(tactic| walk_at "ev") => `(tactic| first
  | ((with_reducible apply Evl.ev_var); rfl)
  | (with_reducible exact Evl.ev_c)
  | (with_reducible exact Hx.ev_pow18)
  | (with_reducible exact Hx.ev_pow14)
  | (with_reducible exact Hx.ev_pow9)
  | ((with_reducible apply Evl.ev_op); (walk_at "ev"); (walk_at "ev"); (walk_at "rv"))
  | ((with_reducible apply Evl.ev_un); (walk_at "ev"); (with_reducible exact Evl.ru_neg))
  | ((with_reducible apply Evl.ev_cb); (walk_at "ea"); (walk_at "rc"))
  | ((with_reducible apply Evl.ev_notV); walk_at "ev")
  | ((with_reducible apply Evl.ev_andV); (walk_at "ev"); (intro _; walk_at "ev"))
  | ((with_reducible apply Evl.ev_orV); (walk_at "ev"); (intro _; walk_at "ev"))
  | walk_at "cal")
local macro_rules | `(tactic| walk_at "et") => `(tactic| first
  | ((with_reducible apply Evl.et_test); walk_at "ev")
  | ((with_reducible apply Evl.et_B); walk_at "ev")
  | ((with_reducible apply Evl.et_not); walk_at "et")
  | ((with_reducible apply Evl.et_and); (walk_at "et"); (intro _; walk_at "et"))
  | ((with_reducible apply Evl.et_or); (walk_at "et"); (intro _; walk_at "et")))
local macro_rules | `(tactic| walk_at "eu") => `(tactic| first
  | ((with_reducible apply Evl.eu_tup); (walk_at "ea"); (exact Nat.le_of_ble_eq_true rfl))
  | ((with_reducible apply Evl.el_lst); (walk_at "ea"); (exact Nat.le_of_ble_eq_true rfl))
  | ((with_reducible apply Evl.el_cb); (walk_at "ea"); ((with_reducible apply Hx.rcl_list); walk_at "sq"))
  | walk_at "calu")
local macro_rules | `(tactic| walk_at "st") => `(tactic| (try dsimp only [List.set]))
local macro_rules | `(tactic| walk_at "wi") => `(tactic| (try dsimp only [List.map, L2.wipe, List.set]))
local macro_rules | `(tactic| walk_at "om") => `(tactic| first | decide | omega)
local macro_rules | `(tactic| walk_at "cal") => `(tactic| first
  | ((with_reducible apply Hx.ev_cel); (walk_at "ea"); (walk_at "sq"); (walk_at "om"))
  | ((with_reducible apply Hx.ev_whole); (walk_at "ea"))
  | ((with_reducible apply Hx.ev_height); (walk_at "ea"); (walk_at "om"); (walk_at "om"); (walk_at "om"); (walk_at "om"))
  | ((with_reducible apply Hx.ev_steeper); (walk_at "ea"); (walk_at "sq"); (walk_at "sq"); (omega); (omega); (omega); (omega)))
local macro_rules | `(tactic| walk_at "calu") => `(tactic| first
  | ((with_reducible apply Hx.eu_slope); (walk_at "ea"); (walk_at "sq"); (omega); (omega); (omega); (omega))
  | ((with_reducible apply Hx.el_land); (walk_at "ea"); (walk_at "sq"); (walk_at "om"); (walk_at "om"))
  | ((with_reducible apply Hx.el_longer); (walk_at "ea"); (walk_at "sq"); (walk_at "sq"); (walk_at "om"); (walk_at "om"); (walk_at "om"); (walk_at "om")))

namespace Hx
open PySem PySem.Spec PyProof.Rows L2 Evl
def topS (i : Nat) : Stmt := PySem.Challenge.pw_hillsight_k05_whole_tilted.main.body.getD i (.Pass ⟨0, 0, 0, 0⟩)

section
variable {P : Program} {w : World} {K : PySem.W.Frag} {mg : Str → Option Value} {base : Heap}
abbrev s_law_cell_at : Stmt := topS 8
theorem sc_law_cell_at : FnScope ["_law_script", "_law_k"] ["_law_script", "_law_k"] (defScope s_law_cell_at) := ⟨rfl, rfl, rfl, by decide +kernel, rfl, by decide +kernel, by decide +kernel⟩

theorem ok_cel {f : Addr} {fd : FuncData} (F : Fun K "_law_cell_at" "_law_cell_at" s_law_cell_at f fd) (B : Blt mg) : FnOk P w K mg base CX0 1 f fd ["_law_script", "_law_k"] (spV (RCel K)) := by
  refine F.ok sc_law_cell_at (fun vs H Q E h => ?_) (fun cdv A outer s H vs Q E hr h => ?_)
  · obtain ⟨_, ⟨_, _, _, rfl, _⟩, _⟩ := h
    rfl
  · obtain ⟨v, ⟨l, ns, j, rfl, h0, hs, rfl⟩, q⟩ := h
    refine ⟨_, (pss_cons (ps_if (pt_cmpR op_lt (pv 1) (pe_callB call_len_seq (by rfl) B.m_len PySem.boot_len (pa_cons (pv 0) pa_nil)) (nomark _)) (pss_one (ps_ret (pe_ix ix_list (pv 0) (pv 1) (fun _ _ => rfl)))) pss_nil)
      (pss_one (ps_ret pe_int))), ?_⟩
    try dsimp only [cxOf, Cx.nox, Cx.wish]
    have hl : (ns.map V.int).length = ns.length := List.length_map ..
    apply q_when (b := decide (j < ((ns.map V.int).length : Int)))
    · walk_at "et"
    · intro hb H1 e1
      have hb := of_decide_eq_true hb
      rw [hl] at hb
      apply s_ret
      · walk_at "ev"
      · intro H2 e2
        exact q H2 (by walk_at "ex")
    · intro hb H1 e1
      have hb := of_decide_eq_false hb
      rw [hl] at hb
      apply s_ret
      · walk_at "ev"
      · intro H2 e2
        have e : cel ns j = 0 := by
          unfold cel
          rw [List.getD_eq_getElem?_getD, List.getElem?_eq_none (by omega)]
          rfl
        rw [e] at q
        exact q H2 (by walk_at "ex")
abbrev s_law_height_by : Stmt := topS 9
theorem sc_law_height_by : FnScope ["_law_cell", "_law_k", "_law_kind", "_law_tilt", "_law_far"] ["_law_cell", "_law_k", "_law_kind", "_law_tilt"] (defScope s_law_height_by) := ⟨rfl, rfl, rfl, by decide +kernel, rfl, by decide +kernel, by decide +kernel⟩

theorem ok_height {f : Addr} {fd : FuncData} (F : Fun K "_law_height_by" "_law_height_by" s_law_height_by f fd) : FnOk P w K mg base CX0 1 f fd ["_law_cell", "_law_k", "_law_kind", "_law_tilt"] (spV RHeight) := by
  refine F.ok sc_law_height_by (fun vs H Q E h => ?_) (fun cdv A outer s H vs Q E hr h => ?_)
  · obtain ⟨_, ⟨_, _, _, _, rfl, _⟩, _⟩ := h
    rfl
  · obtain ⟨v, ⟨c, k, kind, tilt, rfl, h1, h2, h3, h4, rfl⟩, q⟩ := h
    refine ⟨_, (pss_cons (ps_set (i := 4) sc_law_height_by.nd rfl (Or.inl rfl) (pe_op op_pow pe_int pe_int))
      (pss_cons (ps_if (pt_cmpR op_eq (pv 2) pe_int (nomark _)) (pss_one (ps_ret (pe_op op_sub (pe_op op_mod (pv 0) pe_int) pe_int))) pss_nil)
      (pss_cons (ps_if (pt_cmpR op_eq (pv 2) pe_int (nomark _)) (pss_one (ps_ret (pe_op op_add (pe_op op_mul (pv 3) (pv 1)) (pe_op op_mod (pv 0) pe_int)))) pss_nil)
      (pss_cons (ps_if (pt_cmpR op_eq (pv 2) pe_int (nomark _)) (pss_one (ps_ret (pe_op op_sub (pe_op op_mod (pe_op op_mul (pv 0) pe_int) (pe_op op_add (pe_op op_mul pe_int (pv 4)) pe_int)) (pv 4)))) pss_nil)
      (pss_cons (ps_if (pt_cmpR op_eq (pv 2) pe_int (nomark _)) (pss_one (ps_ret (pe_op op_add (pe_op op_mul (pe_op op_mul (pv 1) (pv 1)) (pe_op op_sub (pe_op op_mod (pv 3) pe_int) pe_int)) (pe_op op_mod (pv 0) pe_int)))) pss_nil)
      (pss_one (ps_ret (pe_op op_sub (pv 4) (pe_op op_mod (pv 0) pe_int))))))))), ?_⟩
    try dsimp only [cxOf, Cx.nox, Cx.wish]
    refine q_asg (v := .int 1000000000000000000) (by walk_at "ev") fun H1 e1 => ?_
    unfold heightOf at q
    apply q_when
    · walk_at "et"
    · intro hb H2 e2
      rw [if_pos (V.int.inj (of_decide_eq_true hb))] at q
      apply s_ret
      · walk_at "ev"
      · exact fun H3 e3 => q H3 (by walk_at "ex")
    intro hb H2 e2
    rw [if_neg (fun z => of_decide_eq_false hb (congrArg V.int z))] at q
    apply q_when
    · walk_at "et"
    · intro hb H3 e3
      rw [if_pos (V.int.inj (of_decide_eq_true hb))] at q
      apply s_ret
      · walk_at "ev"
      · exact fun H3 e3 => q H3 (by walk_at "ex")
    intro hb H3 e3
    rw [if_neg (fun z => of_decide_eq_false hb (congrArg V.int z))] at q
    apply q_when
    · walk_at "et"
    · intro hb H4 e4
      rw [if_pos (V.int.inj (of_decide_eq_true hb))] at q
      apply s_ret
      · walk_at "ev"
      · exact fun H3 e3 => q H3 (by walk_at "ex")
    intro hb H4 e4
    rw [if_neg (fun z => of_decide_eq_false hb (congrArg V.int z))] at q
    apply q_when
    · walk_at "et"
    · intro hb H5 e5
      rw [if_pos (V.int.inj (of_decide_eq_true hb))] at q
      apply s_ret
      · walk_at "ev"
      · exact fun H3 e3 => q H3 (by walk_at "ex")
    intro hb H5 e5
    rw [if_neg (fun z => of_decide_eq_false hb (congrArg V.int z))] at q
    apply s_ret
    · walk_at "ev"
    · exact fun H3 e3 => q H3 (by walk_at "ex")
abbrev s_law_land_by : Stmt := topS 10
theorem sc_law_land_by : FnScope ["_law_script", "_law_most", "_law_head", "_law_size", "_law_kind", "_law_tilt", "_law_k"] ["_law_script", "_law_most"] (defScope s_law_land_by) := ⟨rfl, rfl, rfl, by decide +kernel, rfl, by decide +kernel, by decide +kernel⟩

theorem ok_land_by {f : Addr} {fd : FuncData} (F : Fun K "_law_land_by" "_law_land_by" s_law_land_by f fd) (B : Blt mg) (C__law_cell_at : Cal P w K mg base "_law_cell_at" 1 ["_law_script", "_law_k"] (spV (RCel K))) (C__law_height_by : Cal P w K mg base "_law_height_by" 1 ["_law_cell", "_law_k", "_law_kind", "_law_tilt"] (spV RHeight)) :
    FnOk P w K mg base CX0 2 f fd ["_law_script", "_law_most"] (spL (RLand K)) := by
  refine F.ok sc_law_land_by (fun vs H Q E h => ?_) (fun cdv A outer s H vs Q E hr h => ?_)
  · obtain ⟨_, ⟨_, _, _, rfl, _⟩, _⟩ := h
    rfl
  · obtain ⟨v, ⟨l, ns, most, rfl, h1, h2, hs, rfl⟩, q⟩ := h
    refine ⟨_, (pss_cons (ps_set (i := 2) sc_law_land_by.nd rfl (Or.inl rfl) (pe_cal C__law_cell_at hr (pa_cons (pv 0) (pa_cons pe_int pa_nil))))
      (pss_cons (ps_set (i := 3) sc_law_land_by.nd rfl (Or.inl rfl) (pe_op op_add pe_int (pe_op op_mod (pv 2) (pv 1))))
      (pss_cons (ps_set (i := 4) sc_law_land_by.nd rfl (Or.inr rfl) (pe_op op_mod (pe_op op_fdiv (pv 2) (pv 1)) pe_int))
      (pss_cons (ps_set (i := 5) sc_law_land_by.nd rfl (Or.inr rfl) (pe_op op_sub (pe_op op_mod (pe_op op_fdiv (pe_op op_fdiv (pv 2) (pv 1)) pe_int) pe_int) pe_int))
      (pss_one (ps_ret (pe_lc (own := [("_law_k", 6)]) (g := gName 6) (tt := tYes) rfl sc_law_land_by.nd (pi_range1 (by rfl) B.m_range (pa_cons (pv 3) pa_nil)) (blkOk_by (N := ["_law_script", "_law_most", "_law_head", "_law_size", "_law_kind", "_law_tilt", "_law_k"]) (sc := defScope s_law_land_by) (by decide +kernel)) (fun _ _ _ _ _ => (pg_name (i := 6) sc_law_land_by.nd rfl (Or.inl rfl))) (fun _ _ _ _ _ => pts_nil) (fun _ _ _ _ _ => (pe_cal C__law_height_by hr (pa_cons (pe_cal C__law_cell_at hr (pa_cons (pv 0) (pa_cons (pe_op op_add pe_int (pv 6)) pa_nil))) (pa_cons (pv 6) (pa_cons (pv 4) (pa_cons (pv 5) pa_nil))))))))))))), ?_⟩
    try dsimp only [cxOf, Cx.nox, Cx.wish]
    apply q_asg
    · walk_at "ev"
    intro H1 e1
    obtain ⟨n, hn⟩ : ∃ n, 1 + cel ns 0 % most = n := ⟨_, rfl⟩
    refine q_asg (v := .int n) (ev_int (by walk_at "ev") hn) fun H2 e2 => ?_
    have n1 : 1 ≤ n := by have := Int.emod_nonneg (cel ns 0) (b := most) (by omega); omega
    have n2 : n ≤ 100 := by have := Int.emod_lt_of_pos (cel ns 0) (b := most) (by omega); omega
    refine q_asg (v := .int (kindOf ns most)) (ev_int (by walk_at "ev") (by rfl)) fun H3 e3 => ?_
    refine q_asg (v := .int (tiltOf ns most)) (ev_int (by walk_at "ev") (by rfl)) fun H4 e4 => ?_
    have t1 : -3 ≤ tiltOf ns most ∧ tiltOf ns most ≤ 3 := by unfold tiltOf; omega
    refine s_retL (xs := given n.toNat (fun _ => true) (fun i => .int (heightOf (cel ns (3 + (i : Int))) i (kindOf ns most) (tiltOf ns most)))) ?_ ?_
    · refine el_lcR1 (n := n) (fun _ => true) _ (by walk_at "ea") ⟨by omega, by omega⟩ (fun _ => rfl) (fun _ _ _ _ => et_yes) ?_
      intro i H5 e5 hi _
      walk_at "ev"
    · intro p H5 hp e5 h5
      refine q p H5 ?_ (by walk_at "ex") ?_
      · exact fresh_back (by walk_at "ex") hp
      · rw [h5, given_all (g := fun i => heightOf (cel ns (3 + (i : Int))) i (kindOf ns most) (tiltOf ns most)) (fun _ => rfl), ← hn]
        rfl
abbrev sslope : Stmt := topS 1
theorem scslope : FnScope ["land", "a", "b"] ["land", "a", "b"] (defScope sslope) := ⟨rfl, rfl, rfl, by decide +kernel, rfl, by decide +kernel, by decide +kernel⟩

theorem ok_slope {f : Addr} {fd : FuncData} (F : Fun K "slope" "slope" sslope f fd) : FnOk P w K mg base CX0 1 f fd ["land", "a", "b"] (spU (RSlope K)) := by
  refine F.ok scslope (fun vs H Q E h => ?_) (fun cdv A outer s H vs Q E hr h => ?_)
  · obtain ⟨_, ⟨_, _, _, _, rfl, _⟩, _⟩ := h
    rfl
  · obtain ⟨v, ⟨l, ns, a, b, rfl, a0, a1, b0, b1, hs, rfl⟩, q⟩ := h
    refine ⟨_, (pss_one (ps_ret (pe_tup (pa_cons (pe_op op_sub (pe_ix ix_list (pv 0) (pv 2) (fun _ _ => rfl)) (pe_ix ix_list (pv 0) (pv 1) (fun _ _ => rfl))) (pa_cons (pe_op op_sub (pv 2) (pv 1)) pa_nil))))), ?_⟩
    try dsimp only [cxOf, Cx.nox, Cx.wish]
    apply s_retU
    · walk_at "eu"
    · intro p H1 hp e1 h1
      exact q p H1 hp e1 h1
abbrev ssteeper : Stmt := topS 2
theorem scsteeper : FnScope ["one", "other", "rise", "run", "lift", "length"] ["one", "other"] (defScope ssteeper) := ⟨rfl, rfl, rfl, by decide +kernel, rfl, by decide +kernel, by decide +kernel⟩

theorem ok_steeper {f : Addr} {fd : FuncData} (F : Fun K "steeper" "steeper" ssteeper f fd) : FnOk P w K mg base CX0 1 f fd ["one", "other"] (spV (RSteeper K)) := by
  refine F.ok scsteeper (fun vs H Q E h => ?_) (fun cdv A outer s H vs Q E hr h => ?_)
  · obtain ⟨_, ⟨_, _, _, _, _, _, rfl, _⟩, _⟩ := h
    rfl
  · obtain ⟨v, ⟨p1, p2, r1, n1, r2, n2, rfl, hp1, hp2, b1, b2, b3, b4, rfl⟩, q⟩ := h
    refine ⟨_, (pss_cons (ps_asg (pv 0) (pg_tup rfl (pgs_cons (pg_name (i := 2) scsteeper.nd rfl (Or.inl rfl)) (pgs_cons (pg_name (i := 3) scsteeper.nd rfl (Or.inl rfl)) pgs_nil))))
      (pss_cons (ps_asg (pv 1) (pg_tup rfl (pgs_cons (pg_name (i := 4) scsteeper.nd rfl (Or.inl rfl)) (pgs_cons (pg_name (i := 5) scsteeper.nd rfl (Or.inl rfl)) pgs_nil))))
      (pss_one (ps_ret (pe_cmpR op_gt (pe_op op_mul (pv 2) (pv 5)) (pe_op op_mul (pv 4) (pv 3)) (nomark _)))))), ?_⟩
    try dsimp only [cxOf, Cx.nox, Cx.wish]
    refine q_unpack (x := .int r1) (y := .int n1) (by walk_at "ev") (by walk_at "sq") fun H1 e1 => ?_
    refine q_unpack (x := .int r2) (y := .int n2) (by walk_at "ev") (by walk_at "sq") fun H2 e2 => ?_
    apply s_ret
    · walk_at "ev"
    · intro H3 e3
      exact q H3 (by walk_at "ex")
abbrev s_seen_ahead : Stmt := topS 5
theorem sc_seen_ahead : FnScope ["land", "a", "found", "steepest", "place", "climb"] ["land", "a"] (defScope s_seen_ahead) := ⟨rfl, rfl, rfl, by decide +kernel, rfl, by decide +kernel, by decide +kernel⟩

theorem ok_ahead {f : Addr} {fd : FuncData} (F : Fun K "_seen_ahead" "_seen_ahead" s_seen_ahead f fd) (B : Blt mg) (C_slope : Cal P w K mg base "slope" 1 ["land", "a", "b"] (spU (RSlope K))) (C_steeper : Cal P w K mg base "steeper" 1 ["one", "other"] (spV (RSteeper K))) :
    FnOk P w K mg base CX0 2 f fd ["land", "a"] (spL (RAhead K)) := by
  refine F.ok sc_seen_ahead (fun vs H Q E h => ?_) (fun cdv A outer s H vs Q E hr h => ?_)
  · obtain ⟨_, ⟨_, _, _, rfl, _⟩, _⟩ := h
    rfl
  · obtain ⟨v, ⟨l, land, a, rfl, h1, h2, h3, hs, rfl⟩, q⟩ := h
    refine ⟨_, (pss_cons (ps_set (i := 2) sc_seen_ahead.nd rfl (Or.inl rfl) (pe_lst pa_nil))
      (pss_cons (ps_set (i := 3) sc_seen_ahead.nd rfl (Or.inl rfl) pe_non)
      (pss_cons (ps_for PassesOwn.never rfl (pi_range2 (by rfl) B.m_range (pa_cons (pe_op op_add (pv 1) pe_int) (pa_cons (pe_callB call_len_seq (by rfl) B.m_len PySem.boot_len (pa_cons (pv 0) pa_nil)) pa_nil))) (pg_name (i := 4) sc_seen_ahead.nd rfl (Or.inl rfl)) (pss_cons (ps_set (i := 5) sc_seen_ahead.nd rfl (Or.inl rfl) (pe_cal C_slope hr (pa_cons (pv 0) (pa_cons (pv 1) (pa_cons (pv 4) pa_nil)))))
      (pss_one (ps_if (PW.pt (pw_or (pt_cmpR op_isN (pv 3) pe_non (nomark _)) (pw_or1 (pt_val (pe_cal C_steeper hr (pa_cons (pv 5) (pa_cons (pv 3) pa_nil))))))) (pss_cons (ps_set (i := 3) sc_seen_ahead.nd rfl (Or.inl rfl) (pv 5))
      (pss_one (ps_expr (pe_bm PySem.F.plainAttrs_list PySem.F.slot_list_append PySem.F.type_list_append mt_append (pv 2) (pa_cons (pv 4) pa_nil))))) pss_nil))))
      (pss_one (ps_ret (pv 2)))))), ?_⟩
    try dsimp only [cxOf, Cx.nox, Cx.wish]
    have hll : (land.map V.int).length = land.length := List.length_map ..
    refine q_asgL (xs := []) (by walk_at "eu") fun lp H1 nl e1 hl => ?_
    refine q_asg (v := .non) (by walk_at "ev") fun H2 e2 => ?_
    refine q_forR2 (lo := a + 1) (n := ((land.map V.int).length : Nat)) (by walk_at "ea") (by omega) (fun i σ' H' => (Ex H H' ∧ H' lp = some (.lst ((aheadN land a i).map V.int))) ∧
      ∃ v3 v4 v5, σ' = [some (.ref l), some (.int a), some (.ref lp), some v3, v4, v5] ∧ ((i = 0 ∧ v3 = .non) ∨ ∃ t best, v3 = .ref t ∧ H' t = some (.tup [.int (cel land best - cel land a), .int (best - a)]) ∧ Best land a i best))
      (fun H3 e3 => ⟨⟨by walk_at "ex", by (have z := e3 _ _ (e2 _ _ hl)); exact z⟩, .non, none, none, rfl, .inl ⟨rfl, rfl⟩⟩) ?_ ?_
    · rintro i σ' H3 hi ⟨⟨e3, hl3⟩, v3, v4, v5, rfl, hv⟩
      rw [hll] at hi
      have hsl : SqL K H3 l (land.map V.int) := by walk_at "sq"
      refine q_asgU (xs := [.int (cel land (a + 1 + i) - cel land a), .int (a + 1 + i - a)]) (by walk_at "eu") fun t4 H4 n4 e4 h4 => ?_
      have hl4 := e4 _ _ hl3
      rcases hv with ⟨rfl, rfl⟩ | ⟨t, best, rfl, ht, hb⟩
      · apply s_when (b := true)
        · refine et_is (b := true) ?_ rfl
          refine et_or (a := true) (b := true) (et_is (by walk_at "et") (by rfl)) (fun z => by cases z)
        · intro _ H5 e5
          have hl5 := e5 _ _ hl4
          refine q_asg (v := .ref t4) (by walk_at "ev") fun H6 e6 => ?_
          refine s_app (e6 _ _ hl5) (by walk_at "ev") (by walk_at "ev") (by rw [List.length_map]; exact Nat.lt_of_le_of_lt (aheadN_len land a 0) (by decide)) fun H7 e7 => ?_
          have hy : seesB land a (a + 1 + ((0 : Nat) : Int)) = true := by
            have z := sees_next land a
            simpa using z
          have hne : t4 ≠ lp := ne_of h4 hl4 (by intro z; cases z)
          refine ⟨⟨Ex.mut (by walk_at "ex") nl, ?_⟩, _, _, _, rfl, .inr ⟨t4, a + 1 + ((0 : Nat) : Int), rfl, ?_, ?_⟩⟩
          · rw [upd_same, aheadN_yes hy, List.map_append]
            rfl
          · rw [upd_ne hne]
            exact e7 _ _ (e6 _ _ (e5 _ _ h4))
          · have z := best_one land a
            simpa using z
        · intro z
          cases z
      · have ht4 := e4 _ _ ht
        obtain ⟨hb1, hb2, _⟩ := id hb
        apply s_when (b := decide ((cel land best - cel land a) * (a + 1 + i - a) < (cel land (a + 1 + i) - cel land a) * (best - a)))
        · refine et_is (b := false || decide ((cel land best - cel land a) * (a + 1 + i - a) < (cel land (a + 1 + i) - cel land a) * (best - a))) ?_ (Bool.false_or _)
          refine et_or (et_is (by walk_at "et") (by rfl)) (fun _ => ?_)
          refine et_B ?_
          exact ev_steeper (by walk_at "ea") (by walk_at "sq") (by walk_at "sq") (by omega) (by omega) (by omega) (by omega)
        · intro hyes H5 e5
          obtain ⟨hB, hy⟩ := best_yes hb (of_decide_eq_true hyes)
          have hl5 := e5 _ _ hl4
          refine q_asg (v := .ref t4) (by walk_at "ev") fun H6 e6 => ?_
          refine s_app (e6 _ _ hl5) (by walk_at "ev") (by walk_at "ev") (by rw [List.length_map]; exact Nat.lt_of_le_of_lt (aheadN_len land a i) (by omega)) fun H7 e7 => ?_
          have hne : t4 ≠ lp := ne_of h4 hl4 (by intro z; cases z)
          refine ⟨⟨Ex.mut (by walk_at "ex") nl, ?_⟩, _, _, _, rfl, .inr ⟨t4, a + 1 + (i : Int), rfl, ?_, hB⟩⟩
          · rw [upd_same, aheadN_yes hy, List.map_append]
            rfl
          · rw [upd_ne hne]
            exact e7 _ _ (e6 _ _ (e5 _ _ h4))
        · intro hno H5 e5
          obtain ⟨hB, hy⟩ := best_no hb (of_decide_eq_false hno)
          refine ⟨⟨by walk_at "ex", ?_⟩, _, _, _, rfl, .inr ⟨t, best, rfl, e5 _ _ ht4, hB⟩⟩
          rw [aheadN_no hy]
          exact e5 _ _ hl4
    · rintro σ' H3 ⟨⟨e3, hl3⟩, v3, v4, v5, rfl, _⟩
      apply s_ret
      · walk_at "ev"
      · intro H4 e4
        refine q lp H4 nl (by walk_at "ex") ?_
        have z := e4 _ _ hl3
        rw [hll] at z
        exact z
abbrev ssights : Stmt := topS 4
theorem scsights : FnScope ["land", "a", "b"] ["land"] (defScope ssights) := ⟨rfl, rfl, rfl, by decide +kernel, rfl, by decide +kernel, by decide +kernel⟩

theorem ok_sights {f : Addr} {fd : FuncData} (F : Fun K "sights" "sights" ssights f fd) (B : Blt mg) (C__seen_ahead : Cal P w K mg base "_seen_ahead" 2 ["land", "a"] (spL (RAhead K))) : FnOk P w K mg base CX0 3 f fd ["land"] (spP (RSights K)) := by
  refine F.ok scsights (fun vs H Q E h => ?_) (fun cdv A outer s H vs Q E hr h => ?_)
  · obtain ⟨_, ⟨_, _, rfl, _⟩, _⟩ := h
    rfl
  · obtain ⟨v, ⟨l, land, rfl, h1, h2, rfl⟩, q⟩ := h
    refine ⟨_, (pss_one (ps_ret (pe_lc2 (wi1 := iList K (tCall (spL (RAhead K)) [] E0 (tCons (tVar 0) (tCons (tVar 1) tNil)))) (own := [("a", 1), ("b", 2)]) (vs1 := [2]) (g := gName 1) (g1 := gName 2) (tt := tYes) (tt1 := tYes) rfl scsights.nd (pi_range1 (by rfl) B.m_range (pa_cons (pe_callB call_len_seq (by rfl) B.m_len PySem.boot_len (pa_cons (pv 0) pa_nil)) pa_nil)) (blkOk_by (N := ["land", "a", "b"]) (sc := defScope ssights) (by decide +kernel)) (by decide) (fun _ _ _ _ _ => pg_name (i := 1) scsights.nd rfl (Or.inl rfl)) (fun _ _ _ _ _ => pts_nil) (fun _ _ _ _ _ => (pi_list (pe_cal C__seen_ahead hr (pa_cons (pv 0) (pa_cons (pv 1) pa_nil))))) (fun _ _ _ _ _ => pg_name (i := 2) scsights.nd rfl (Or.inl rfl)) (fun _ _ _ _ _ => pts_nil) (fun _ _ _ _ _ => (pe_tup (pa_cons (pv 1) (pa_cons (pv 2) pa_nil))))))), ?_⟩
    try dsimp only [cxOf, Cx.nox, Cx.wish]
    refine s_retP (ps := flatP (fun k => aheadOf land (k : Int)) ((((land.map V.int).length : Nat) : Int)).toNat) ?_ ?_
    · refine ep_lc2 (fun k => aheadOf land (k : Int)) (by walk_at "ea") (by rw [List.length_map]; omega) (fun k => ?_) (fun _ => rfl) (fun _ _ => rfl) ?_ ?_
      · have := aheadN_len land (k : Int) ((land.length : Int) - ((k : Int) + 1)).toNat
        unfold aheadOf
        omega
      · intro k H1 e1 hk
        rw [List.length_map] at hk
        have hsl : SqL K H1 l (land.map V.int) := by walk_at "sq"
        refine el_ahead (by walk_at "ea") (by walk_at "sq") (by omega) (by omega) h1
      · intro k b H1 e1 hk
        walk_at "ea"
    · intro p H1 as hp e1 hl t1
      rw [List.length_map] at t1
      exact q p H1 as hp e1 hl t1
def spLaw (K : PySem.W.Frag) : Sp := fun vs H Q _ => ∃ (a : Addr) (ns : List Int), vs = [.ref a] ∧ SqL K H a (ns.map V.int) ∧ ns.length ≤ 63 ∧ ∀ H', Q (.bl true) H'
abbrev slaw : Stmt := topS 11
theorem sclaw : FnScope ["_law_script", "_law_land", "_law_by", "_law_more", "_law_times", "_law_last", "_law_due", "_law_tilted", "_law_turned", "_law_stretched", "_law_kept", "_law_found", "_law_height", "_law_k", "_law_a", "_law_b"] ["_law_script"] (defScope slaw) := ⟨rfl, rfl, rfl, by decide +kernel, rfl, by decide +kernel, by decide +kernel⟩

theorem ok_law {f : Addr} {fd : FuncData} (F : Fun K "law" "law" slaw f fd) (B : Blt mg) (C__law_cell_at : Cal P w K mg base "_law_cell_at" 1 ["_law_script", "_law_k"] (spV (RCel K)))
    (C__law_land_by : Cal P w K mg base "_law_land_by" 2 ["_law_script", "_law_most"] (spL (RLand K))) (C_sights : Cal P w K mg base "sights" 3 ["land"] (spP (RSights K))) : FnOk P w K mg base CX0 4 f fd ["_law_script"] (spLaw K) := by
  refine F.ok sclaw (fun vs H Q E h => ?_) (fun cdv A outer s H vs Q E hr h => ?_)
  · obtain ⟨_, _, rfl, _⟩ := h
    rfl
  · obtain ⟨l, ns, rfl, hs, hlen, q⟩ := h
    refine ⟨_, (pss_cons (ps_set (i := 1) sclaw.nd rfl (Or.inr rfl) (pe_lc (own := [("_law_height", 12)]) (g := gName 12) (tt := tYes) rfl sclaw.nd (pi_list (pe_cal C__law_land_by hr (pa_cons (pv 0) (pa_cons pe_int pa_nil)))) (blkOk_by (N := ["_law_script", "_law_land", "_law_by", "_law_more", "_law_times", "_law_last", "_law_due", "_law_tilted", "_law_turned", "_law_stretched", "_law_kept", "_law_found", "_law_height", "_law_k", "_law_a", "_law_b"]) (sc := defScope slaw) (by decide +kernel)) (fun _ _ _ _ _ => (pg_name (i := 12) sclaw.nd rfl (Or.inl rfl))) (fun _ _ _ _ _ => pts_nil) (fun _ _ _ _ _ => (pe_op op_fdiv (pv 12) pe_int))))
      (Evl.pss_cut (ps_if (pt_cmpR op_lt (pe_op op_mod (pe_op op_fdiv (pe_cal C__law_cell_at hr (pa_cons (pv 0) (pa_cons pe_int pa_nil))) pe_int) pe_int) pe_int (nomark _)) (pss_one (ps_set (i := 1) sclaw.nd rfl (Or.inr rfl) (pe_cal C__law_land_by hr (pa_cons (pv 0) (pa_cons pe_int pa_nil))))) pss_nil)
      (pss_cons (ps_set (i := 2) sclaw.nd rfl (Or.inr rfl) (pe_op op_sub (pe_op op_mod (pe_op op_mul (pe_cal C__law_cell_at hr (pa_cons (pv 0) (pa_cons pe_int pa_nil))) pe_int) (pe_op op_add (pe_op op_mul pe_int (pe_op op_pow pe_int pe_int)) pe_int)) (pe_op op_pow pe_int pe_int)))
      (pss_cons (ps_set (i := 3) sclaw.nd rfl (Or.inr rfl) (pe_op op_sub (pe_op op_mod (pe_cal C__law_cell_at hr (pa_cons (pv 0) (pa_cons pe_int pa_nil))) pe_int) pe_int))
      (pss_cons (ps_set (i := 4) sclaw.nd rfl (Or.inr rfl) (pe_op op_add pe_int (pe_op op_mod (pe_op op_fdiv (pe_cal C__law_cell_at hr (pa_cons (pv 0) (pa_cons pe_int pa_nil))) pe_int) pe_int)))
      (pss_cons (ps_set (i := 5) sclaw.nd rfl (Or.inr rfl) (pe_op op_sub (pe_callB call_len_seq (by rfl) B.m_len PySem.boot_len (pa_cons (pv 1) pa_nil)) pe_int))
      (pss_cons (ps_set (i := 6) sclaw.nd rfl (Or.inl rfl) (pe_cal C_sights hr (pa_cons (pe_callTy call_list_of (by rfl) B.m_list (by decide +kernel) (pa_cons (pv 1) pa_nil)) pa_nil)))
      (pss_cons (ps_setLc (i := 7) (own := [("_law_k", 13)]) (g := gName 13) (te := (tOp (rI0 fun i j => .int (i + j)) (tOp (rI0 fun i j => .int (i + j)) (tOp (rIxL K) (tVar 1) (tVar 13)) (tOp (rI CMul fun i j => .int (i * j)) (tVar 2) (tVar 13))) (tVar 3))) (tt := tYes) rfl sclaw.nd rfl rfl (sw_true rfl rfl rfl (by decide +kernel)) (pi_range1 (by rfl) B.m_range (pa_cons (pe_callB call_len_seq (by rfl) B.m_len PySem.boot_len (pa_cons (pv 1) pa_nil)) pa_nil)) (blkOk_by (N := ["_law_script", "_law_land", "_law_by", "_law_more", "_law_times", "_law_last", "_law_due", "_law_tilted", "_law_turned", "_law_stretched", "_law_kept", "_law_found", "_law_height", "_law_k", "_law_a", "_law_b"]) (sc := defScope slaw) (by decide +kernel)) (fun _ _ _ _ _ => (pg_name (i := 13) sclaw.nd rfl (Or.inl rfl))) (fun _ _ _ _ _ => pts_nil) (fun _ _ _ _ _ => (pe_op op_add (pe_op op_add (pe_ix ix_list (pv 1) (pv 13) (fun _ _ => rfl)) (pe_op op_mul (pv 2) (pv 13))) (pv 3))))
      (pss_cons (ps_setLc (i := 8) (own := [("_law_k", 13)]) (g := gName 13) (te := (tOp (rIxL K) (tVar 1) (tOp (rI0 fun i j => .int (i - j)) (tVar 5) (tVar 13)))) (tt := tYes) rfl sclaw.nd rfl rfl (sw_true rfl rfl rfl (by decide +kernel)) (pi_range1 (by rfl) B.m_range (pa_cons (pe_callB call_len_seq (by rfl) B.m_len PySem.boot_len (pa_cons (pv 1) pa_nil)) pa_nil)) (blkOk_by (N := ["_law_script", "_law_land", "_law_by", "_law_more", "_law_times", "_law_last", "_law_due", "_law_tilted", "_law_turned", "_law_stretched", "_law_kept", "_law_found", "_law_height", "_law_k", "_law_a", "_law_b"]) (sc := defScope slaw) (by decide +kernel)) (fun _ _ _ _ _ => (pg_name (i := 13) sclaw.nd rfl (Or.inl rfl))) (fun _ _ _ _ _ => pts_nil) (fun _ _ _ _ _ => (pe_ix ix_list (pv 1) (pe_op op_sub (pv 5) (pv 13)) (fun _ _ => rfl))))
      (pss_cons (ps_setLc (i := 9) (own := [("_law_height", 12)]) (g := gName 12) (tt := tYes) rfl sclaw.nd rfl rfl (sw_true rfl rfl rfl (by decide +kernel)) (pi_list (pv 1)) (blkOk_by (N := ["_law_script", "_law_land", "_law_by", "_law_more", "_law_times", "_law_last", "_law_due", "_law_tilted", "_law_turned", "_law_stretched", "_law_kept", "_law_found", "_law_height", "_law_k", "_law_a", "_law_b"]) (sc := defScope slaw) (by decide +kernel)) (fun _ _ _ _ _ => (pg_name (i := 12) sclaw.nd rfl (Or.inl rfl))) (fun _ _ _ _ _ => pts_nil) (fun _ _ _ _ _ => (pe_op op_mul (pv 12) (pv 4))))
      (pss_cons (ps_set (i := 10) sclaw.nd rfl (Or.inl rfl) (pe_callTy call_list_of (by rfl) B.m_list (by decide +kernel) (pa_cons (pv 7) pa_nil)))
      (pss_cons (ps_if (PW.pt (pw_or (pt_cmpR (op_neD hr.units) (pe_cal C_sights hr (pa_cons (pv 7) pa_nil)) (pv 6) (nomark _)) (pw_or (pt_cmpR (op_neD hr.units) (pv 7) (pv 10) (nomark _)) (pw_or1 (pt_cmpR (op_neD hr.units) (pe_cal C_sights hr (pa_cons (pv 9) pa_nil)) (pv 6) (nomark _)))))) (pss_one (ps_ret pe_bl)) pss_nil)
      (pss_cons (ps_set (i := 11) sclaw.nd rfl (Or.inl rfl) (pe_cal C_sights hr (pa_cons (pv 8) pa_nil)))
      (pss_one (ps_ret (pe_and (pe_callB call_isi (by rfl) B.m_isinstance (by decide +kernel) (pa_cons (pv 11) (pa_cons (pe_bltn (v := .ty "list") (by rfl) B.m_list (by decide +kernel) rfl) pa_nil))) (pe_one (pe_cmpR (op_eqD hr.units) (pv 11) (pe_callB cr_sortedPO (by rfl) B.m_sorted (by decide +kernel) (pa_cons (pe_lc (own := [("_law_a", 14), ("_law_b", 15)]) (g := gTup K 2 (gCons (gName 14) (gCons (gName 15) (gNil)))) (tt := tYes) rfl sclaw.nd (pi_list (pv 6)) (blkOk_by (N := ["_law_script", "_law_land", "_law_by", "_law_more", "_law_times", "_law_last", "_law_due", "_law_tilted", "_law_turned", "_law_stretched", "_law_kept", "_law_found", "_law_height", "_law_k", "_law_a", "_law_b"]) (sc := defScope slaw) (by decide +kernel)) (fun _ _ _ _ _ => (pg_tup rfl (pgs_cons (pg_name (i := 14) sclaw.nd rfl (Or.inl rfl)) (pgs_cons (pg_name (i := 15) sclaw.nd rfl (Or.inl rfl)) pgs_nil)))) (fun _ _ _ _ _ => pts_nil) (fun _ _ _ _ _ => (pe_tup (pa_cons (pe_op op_sub (pv 5) (pv 15)) (pa_cons (pe_op op_sub (pv 5) (pv 14)) pa_nil))))) pa_nil)) (nomark _))))))))))))))))))), ?_⟩
    try dsimp only [cxOf, Cx.nox, Cx.wish]
    rw [show L2.start ["_law_script", "_law_land", "_law_by", "_law_more", "_law_times", "_law_last", "_law_due", "_law_tilted", "_law_turned", "_law_stretched", "_law_kept", "_law_found", "_law_height", "_law_k", "_law_a", "_law_b"] [.ref l] = [some (.ref l), none, none, none, none, none, none, none, none, none, none, none, none, none, none, none] from rfl]
    have ll : 1 ≤ (landOf ns 14).length ∧ (landOf ns 14).length ≤ 14 := by
      rw [landOf_len]
      omega
    refine q_asgL (xs := ((landOf ns 14).map (· / 1000)).map V.int) ?_ fun p1 H1 n1 e1 h1 => ?_
    · refine el_lcIN (· / 1000) (by walk_at "eu") (by omega) (fun _ => rfl) fun x H1 e1 _ => ?_
      walk_at "ev"
    refine q_cut (M := fun σ' H' => ∃ (lp : Addr) (land : List Int), σ' = [some (.ref l), some (.ref lp), none, none, none, none, none, none, none, none, none, none, none, none, none, none] ∧ Ex H H' ∧ H' lp = some (.lst (land.map V.int)) ∧ 1 ≤ land.length ∧ land.length ≤ 14) ?_ ?_
    · apply s_when
      · walk_at "et"
      · intro _ H2 e2
        refine s_asgL (xs := (landOf ns 14).map V.int) (by walk_at "eu") fun p2 H3 n2 e3 h3 => ?_
        exact ⟨p2, _, rfl, by walk_at "ex", h3, ll.1, ll.2⟩
      · intro _ H2 e2
        exact ⟨p1, _, rfl, by walk_at "ex", by walk_at "hp", by rw [List.length_map]; exact ll.1, by rw [List.length_map]; exact ll.2⟩
    clear h1 n1 e1 ll
    clear H1 p1
    rintro σ' H1 ⟨lp, land, rfl, e1, hl, m1, m2⟩
    have hll : (land.map V.int).length = land.length := List.length_map ..
    apply q_asg
    · walk_at "ev"
    intro H2 e2
    walk_at "st"
    generalize (cel ns 1 * 48271 % (2 * 100000000000000 + 1) - 100000000000000 : Int) = b
    apply q_asg
    · walk_at "ev"
    intro H3 e3
    walk_at "st"
    generalize (cel ns 2 % 2001 - 1000 : Int) = m
    obtain ⟨t, ht⟩ : ∃ t, (1 + cel ns 2 / 2001 % 900 : Int) = t := ⟨_, rfl⟩
    refine q_asg (v := .int t) (ev_int (by walk_at "ev") ht) fun H4 e4 => ?_
    walk_at "st"
    have t1 : 1 ≤ t ∧ t ≤ 900 := by omega
    clear ht
    refine q_asg (v := .int ((land.length : Int) - 1)) (ev_int (by walk_at "ev") (by rw [hll])) fun H5 e5 => ?_
    walk_at "st"
    refine q_asgP (ps := sightsOf land) (ep_sightsN (by walk_at "eu") (by omega)) fun dp H6 das nd e6 hd td => ?_
    walk_at "st"
    have pd : PrL H6 dp (sightsOf land) := ⟨das, hd, td⟩
    have hl6 : SqL K H6 lp (land.map V.int) := by walk_at "sq"
    refine q_asgL (xs := ((List.range ((((land.map V.int).length : Nat) : Int)).toNat).map (fun (k : Nat) => cel land (k : Int) + b * (k : Int) + m)).map V.int) ?_ fun tp H7 nt e7 ht7 => ?_
    · refine el_lcR _ (by walk_at "ea") (by omega) (fun _ => rfl) fun k H7 e7 hk => ?_
      rw [hll] at hk
      walk_at "ev"
    walk_at "st"
    have ht7 : H7 tp = some (.lst ((tiltedOf land b m).map V.int)) := by
      rw [hll] at ht7
      exact ht7
    refine q_asgL (xs := ((List.range ((((land.map V.int).length : Nat) : Int)).toNat).map (fun (k : Nat) => cel land ((land.length : Int) - 1 - (k : Int)))).map V.int) ?_ fun up H8 nu e8 hu8 => ?_
    · refine el_lcR _ (by walk_at "ea") (by omega) (fun _ => rfl) fun k H8 e8 hk => ?_
      rw [hll] at hk
      walk_at "ev"
    walk_at "st"
    have hu8 : H8 up = some (.lst ((turnedOf land).map V.int)) := by
      rw [hll] at hu8
      exact hu8
    refine q_asgL (xs := (land.map (· * t)).map V.int) ?_ fun sp H9 nsp e9 hs9 => ?_
    · refine el_lcI (· * t) (by walk_at "ev") (by walk_at "sq") (by omega) (fun _ => rfl) fun x H9 e9 _ => ?_
      walk_at "ev"
    walk_at "st"
    refine q_asgL (xs := (tiltedOf land b m).map V.int) (by walk_at "eu") fun kp H10 nk e10 hk10 => ?_
    walk_at "st"
    have lt : (tiltedOf land b m).length = land.length := by unfold tiltedOf; rw [List.length_map, List.length_range]
    have lu : (turnedOf land).length = land.length := by unfold turnedOf; rw [List.length_map, List.length_range]
    have ls : (land.map (· * t)).length = land.length := List.length_map ..
    have pd10 : PrL H10 dp (sightsOf land) := ((((pd.ex e7).ex e8).ex e9).ex e10)
    apply q_when (b := false)
    · refine et_is (a := (!decide (sightsOf (tiltedOf land b m) = sightsOf land)) || ((!decide (tiltedOf land b m = tiltedOf land b m)) || (!decide (sightsOf (land.map (· * t)) = sightsOf land)))) ?_ ?_
      · refine et_or ?_ fun _ => et_or ?_ fun _ => ?_
        · refine et_test (ev_opPl (ep_sights (by walk_at "ea") (by walk_at "sq") (by omega)) (by walk_at "ev") fun p H1 hp e => rv_neP hp (pd10.ex e))
        · walk_at "et"
        · refine et_test (ev_opPl (ep_sights (by walk_at "ea") (by walk_at "sq") (by omega)) (by walk_at "ev") fun p H1 hp e => rv_neP hp (pd10.ex e))
      · rw [sights_tilted, sights_stretched land t (by omega)]
        simp
    · intro z
      cases z
    intro _ H11 e11
    have pd11 := pd10.ex e11
    refine q_asgP (ps := sightsOf (turnedOf land)) (ep_sights (by walk_at "ea") (by walk_at "sq") (by omega)) fun fp H12 fas nf e12 hf tf => ?_
    walk_at "st"
    have pf : PrL H12 fp (sightsOf (turnedOf land)) := ⟨fas, hf, tf⟩
    have lsl : (sightsOf land).length ≤ 100000 := by
      have z := sightsOf_len land
      have y := Nat.mul_le_mul m2 m2
      omega
    refine s_ret (v := .bl true) ?_ fun H13 e13 => q H13
    refine ev_is (v := .bl (true && decide (sightsOf (turnedOf land) = sightsOf (turnedOf land)))) (ev_andV (by walk_at "ev") fun _ => ?_) (by simp)
    refine ev_opPr (by walk_at "ev") (ep_sorted (ep_lcP (fun q => ((land.length : Int) - 1 - q.2, (land.length : Int) - 1 - q.1)) (by walk_at "ev") (pd11.ex e12) lsl (fun _ _ => rfl) fun q H1 e1 _ => ?_) (sights_turned land) (sightsOf_sorted _)) fun p H1 hp e => rv_eqP (pf.ex e) hp
    show EvA _ _ _ [.int ((land.length : Int) - 1 - q.2), .int ((land.length : Int) - 1 - q.1)]
    walk_at "wi"
    walk_at "ea"
end
section
theorem all_mk {l : PySem.W.OpenLaw} {w : World} {K : PySem.W.Frag} {h : Heap} {mg : Str → Option Value} {fa : Addr} {f__law_cell_at f__law_height_by f__law_land_by f_slope f_steeper f__seen_ahead f_sights f_law : Addr} (X : K.In h) (G : h.Ns mainGlobals mg) (hfa : mg "law" = some (.ref fa))
    {od__law_cell_at an__law_cell_at : Option Addr} {sl__law_cell_at : Array (Option Value)} {oc__law_cell_at kV__law_cell_at dc__law_cell_at pm__law_cell_at cd__law_cell_at ct__law_cell_at : Value}
    (a__law_cell_at : PySem.W.nsIn K mainGlobals "_law_cell_at" = some (some (.ref f__law_cell_at)))
    (l__law_cell_at : K.lookup f__law_cell_at = some ⟨oc__law_cell_at, od__law_cell_at, .func (PySem.W.fnOf "_law_cell_at" "_law_cell_at" (defArgs s_law_cell_at) (defBody s_law_cell_at) (defScope s_law_cell_at) .none kV__law_cell_at dc__law_cell_at pm__law_cell_at an__law_cell_at cd__law_cell_at ct__law_cell_at), sl__law_cell_at⟩)
    (c__law_cell_at : PySem.W.codeIn K cd__law_cell_at "_law_cell_at" = true) (k__law_cell_at : PySem.W.keepIn K (.ref f__law_cell_at) = true)
    {od__law_height_by an__law_height_by : Option Addr} {sl__law_height_by : Array (Option Value)} {oc__law_height_by kV__law_height_by dc__law_height_by pm__law_height_by cd__law_height_by ct__law_height_by : Value}
    (a__law_height_by : PySem.W.nsIn K mainGlobals "_law_height_by" = some (some (.ref f__law_height_by)))
    (l__law_height_by : K.lookup f__law_height_by = some ⟨oc__law_height_by, od__law_height_by, .func (PySem.W.fnOf "_law_height_by" "_law_height_by" (defArgs s_law_height_by) (defBody s_law_height_by) (defScope s_law_height_by) .none kV__law_height_by dc__law_height_by pm__law_height_by an__law_height_by cd__law_height_by ct__law_height_by), sl__law_height_by⟩)
    (c__law_height_by : PySem.W.codeIn K cd__law_height_by "_law_height_by" = true) (k__law_height_by : PySem.W.keepIn K (.ref f__law_height_by) = true)
    {od__law_land_by an__law_land_by : Option Addr} {sl__law_land_by : Array (Option Value)} {oc__law_land_by kV__law_land_by dc__law_land_by pm__law_land_by cd__law_land_by ct__law_land_by : Value}
    (a__law_land_by : PySem.W.nsIn K mainGlobals "_law_land_by" = some (some (.ref f__law_land_by)))
    (l__law_land_by : K.lookup f__law_land_by = some ⟨oc__law_land_by, od__law_land_by, .func (PySem.W.fnOf "_law_land_by" "_law_land_by" (defArgs s_law_land_by) (defBody s_law_land_by) (defScope s_law_land_by) .none kV__law_land_by dc__law_land_by pm__law_land_by an__law_land_by cd__law_land_by ct__law_land_by), sl__law_land_by⟩)
    (c__law_land_by : PySem.W.codeIn K cd__law_land_by "_law_land_by" = true) (k__law_land_by : PySem.W.keepIn K (.ref f__law_land_by) = true)
    {od_slope an_slope : Option Addr} {sl_slope : Array (Option Value)} {oc_slope kV_slope dc_slope pm_slope cd_slope ct_slope : Value}
    (a_slope : PySem.W.nsIn K mainGlobals "slope" = some (some (.ref f_slope)))
    (l_slope : K.lookup f_slope = some ⟨oc_slope, od_slope, .func (PySem.W.fnOf "slope" "slope" (defArgs sslope) (defBody sslope) (defScope sslope) .none kV_slope dc_slope pm_slope an_slope cd_slope ct_slope), sl_slope⟩)
    (c_slope : PySem.W.codeIn K cd_slope "slope" = true) (k_slope : PySem.W.keepIn K (.ref f_slope) = true)
    {od_steeper an_steeper : Option Addr} {sl_steeper : Array (Option Value)} {oc_steeper kV_steeper dc_steeper pm_steeper cd_steeper ct_steeper : Value}
    (a_steeper : PySem.W.nsIn K mainGlobals "steeper" = some (some (.ref f_steeper)))
    (l_steeper : K.lookup f_steeper = some ⟨oc_steeper, od_steeper, .func (PySem.W.fnOf "steeper" "steeper" (defArgs ssteeper) (defBody ssteeper) (defScope ssteeper) .none kV_steeper dc_steeper pm_steeper an_steeper cd_steeper ct_steeper), sl_steeper⟩)
    (c_steeper : PySem.W.codeIn K cd_steeper "steeper" = true) (k_steeper : PySem.W.keepIn K (.ref f_steeper) = true)
    {od__seen_ahead an__seen_ahead : Option Addr} {sl__seen_ahead : Array (Option Value)} {oc__seen_ahead kV__seen_ahead dc__seen_ahead pm__seen_ahead cd__seen_ahead ct__seen_ahead : Value}
    (a__seen_ahead : PySem.W.nsIn K mainGlobals "_seen_ahead" = some (some (.ref f__seen_ahead)))
    (l__seen_ahead : K.lookup f__seen_ahead = some ⟨oc__seen_ahead, od__seen_ahead, .func (PySem.W.fnOf "_seen_ahead" "_seen_ahead" (defArgs s_seen_ahead) (defBody s_seen_ahead) (defScope s_seen_ahead) .none kV__seen_ahead dc__seen_ahead pm__seen_ahead an__seen_ahead cd__seen_ahead ct__seen_ahead), sl__seen_ahead⟩)
    (c__seen_ahead : PySem.W.codeIn K cd__seen_ahead "_seen_ahead" = true) (k__seen_ahead : PySem.W.keepIn K (.ref f__seen_ahead) = true)
    {od_sights an_sights : Option Addr} {sl_sights : Array (Option Value)} {oc_sights kV_sights dc_sights pm_sights cd_sights ct_sights : Value}
    (a_sights : PySem.W.nsIn K mainGlobals "sights" = some (some (.ref f_sights)))
    (l_sights : K.lookup f_sights = some ⟨oc_sights, od_sights, .func (PySem.W.fnOf "sights" "sights" (defArgs ssights) (defBody ssights) (defScope ssights) .none kV_sights dc_sights pm_sights an_sights cd_sights ct_sights), sl_sights⟩)
    (c_sights : PySem.W.codeIn K cd_sights "sights" = true) (k_sights : PySem.W.keepIn K (.ref f_sights) = true)
    {od_law an_law : Option Addr} {sl_law : Array (Option Value)} {oc_law kV_law dc_law pm_law cd_law ct_law : Value}
    (a_law : PySem.W.nsIn K mainGlobals "law" = some (some (.ref f_law)))
    (l_law : K.lookup f_law = some ⟨oc_law, od_law, .func (PySem.W.fnOf "law" "law" (defArgs slaw) (defBody slaw) (defScope slaw) .none kV_law dc_law pm_law an_law cd_law ct_law), sl_law⟩)
    (c_law : PySem.W.codeIn K cd_law "law" = true) (k_law : PySem.W.keepIn K (.ref f_law) = true)
    (z_len : PySem.W.nsIn K mainGlobals "len" = some none)
    (z_range : PySem.W.nsIn K mainGlobals "range" = some none)
    (z_isinstance : PySem.W.nsIn K mainGlobals "isinstance" = some none)
    (z_int : PySem.W.nsIn K mainGlobals "int" = some none)
    (z_bool : PySem.W.nsIn K mainGlobals "bool" = some none)
    (z_list : PySem.W.nsIn K mainGlobals "list" = some none)
    (z_tuple : PySem.W.nsIn K mainGlobals "tuple" = some none)
    (z_min : PySem.W.nsIn K mainGlobals "min" = some none)
    (z_max : PySem.W.nsIn K mainGlobals "max" = some none)
    (z_all : PySem.W.nsIn K mainGlobals "all" = some none)
    (z_sorted : PySem.W.nsIn K mainGlobals "sorted" = some none)
    (z_ValueError : PySem.W.nsIn K mainGlobals "ValueError" = some none)
    : ∃ fd : FuncData, (∀ (s : Shared) (v : Value), BindsTo s fd ⟨[v], []⟩ [("_law_script", v)]) ∧ ∀ base : Heap, K.In base → base.Ns mainGlobals mg → FnOk l.prog w K mg base CX0 4 fa fd ["_law_script"] (spLaw K) := by
  have e := hfa.symm.trans (PySem.W.mg_of X G a_law)
  cases e
  have F__law_cell_at := fun_mk (st := s_law_cell_at) l__law_cell_at c__law_cell_at k__law_cell_at
  have F__law_height_by := fun_mk (st := s_law_height_by) l__law_height_by c__law_height_by k__law_height_by
  have F__law_land_by := fun_mk (st := s_law_land_by) l__law_land_by c__law_land_by k__law_land_by
  have F_slope := fun_mk (st := sslope) l_slope c_slope k_slope
  have F_steeper := fun_mk (st := ssteeper) l_steeper c_steeper k_steeper
  have F__seen_ahead := fun_mk (st := s_seen_ahead) l__seen_ahead c__seen_ahead k__seen_ahead
  have F_sights := fun_mk (st := ssights) l_sights c_sights k_sights
  have F_law := fun_mk (st := slaw) l_law c_law k_law
  have B : Blt mg := ⟨PySem.W.mg_none_of X G z_len, PySem.W.mg_none_of X G z_range, PySem.W.mg_none_of X G z_isinstance, PySem.W.mg_none_of X G z_int, PySem.W.mg_none_of X G z_bool, PySem.W.mg_none_of X G z_list, PySem.W.mg_none_of X G z_tuple, PySem.W.mg_none_of X G z_min, PySem.W.mg_none_of X G z_max, PySem.W.mg_none_of X G z_all, PySem.W.mg_none_of X G z_sorted, PySem.W.mg_none_of X G z_ValueError⟩
  refine ⟨PySem.W.fnOf "law" "law" (defArgs slaw) (defBody slaw) (defScope slaw) .none kV_law dc_law pm_law an_law cd_law ct_law, fun s v => .of_eq rfl, fun base _ _ => ?_⟩
  have C__law_cell_at : Cal l.prog w K mg base "_law_cell_at" 1 ["_law_script", "_law_k"] (spV (RCel K)) := ⟨f__law_cell_at, _, ok_cel F__law_cell_at B, PySem.W.mg_of X G a__law_cell_at, F__law_cell_at.kp, F__law_cell_at.binds (ps := ["_law_script", "_law_k"]) fun _ _ _ _ _ _ us hl => match us, hl with | [_, _], _ => rfl⟩
  have C__law_height_by : Cal l.prog w K mg base "_law_height_by" 1 ["_law_cell", "_law_k", "_law_kind", "_law_tilt"] (spV RHeight) := ⟨f__law_height_by, _, ok_height F__law_height_by, PySem.W.mg_of X G a__law_height_by, F__law_height_by.kp, F__law_height_by.binds (ps := ["_law_cell", "_law_k", "_law_kind", "_law_tilt"]) fun _ _ _ _ _ _ us hl => match us, hl with | [_, _, _, _], _ => rfl⟩
  have C__law_land_by : Cal l.prog w K mg base "_law_land_by" 2 ["_law_script", "_law_most"] (spL (RLand K)) := ⟨f__law_land_by, _, ok_land_by F__law_land_by B C__law_cell_at C__law_height_by, PySem.W.mg_of X G a__law_land_by, F__law_land_by.kp, F__law_land_by.binds (ps := ["_law_script", "_law_most"]) fun _ _ _ _ _ _ us hl => match us, hl with | [_, _], _ => rfl⟩
  have C_slope : Cal l.prog w K mg base "slope" 1 ["land", "a", "b"] (spU (RSlope K)) := ⟨f_slope, _, ok_slope F_slope, PySem.W.mg_of X G a_slope, F_slope.kp, F_slope.binds (ps := ["land", "a", "b"]) fun _ _ _ _ _ _ us hl => match us, hl with | [_, _, _], _ => rfl⟩
  have C_steeper : Cal l.prog w K mg base "steeper" 1 ["one", "other"] (spV (RSteeper K)) := ⟨f_steeper, _, ok_steeper F_steeper, PySem.W.mg_of X G a_steeper, F_steeper.kp, F_steeper.binds (ps := ["one", "other"]) fun _ _ _ _ _ _ us hl => match us, hl with | [_, _], _ => rfl⟩
  have C__seen_ahead : Cal l.prog w K mg base "_seen_ahead" 2 ["land", "a"] (spL (RAhead K)) := ⟨f__seen_ahead, _, ok_ahead F__seen_ahead B C_slope C_steeper, PySem.W.mg_of X G a__seen_ahead, F__seen_ahead.kp, F__seen_ahead.binds (ps := ["land", "a"]) fun _ _ _ _ _ _ us hl => match us, hl with | [_, _], _ => rfl⟩
  have C_sights : Cal l.prog w K mg base "sights" 3 ["land"] (spP (RSights K)) := ⟨f_sights, _, ok_sights F_sights B C__seen_ahead, PySem.W.mg_of X G a_sights, F_sights.kp, F_sights.binds (ps := ["land"]) fun _ _ _ _ _ _ us hl => match us, hl with | [_], _ => rfl⟩
  exact ok_law F_law B C__law_cell_at C__law_land_by C_sights
end
end Hx
open PySem PySem.W PyProof.Rows
set_option maxHeartbeats 0 in
set_option maxRecDepth 100000 in
theorem PySem.Challenge.cw_hillsight_k05_whole_tilted_holds : PySem.Challenge.rw_hillsight_k05_whole_tilted.Holds := by
  w_on; o_law; k_head; (case hw => w_witness2)
  k_fill
  refine L2.walk_of (l := PySem.Challenge.rw_hillsight_k05_whole_tilted) (n := 63) (k := 4) (x := "_law_script") (CX := fun _ => L2.CX0) (sp := fun w => Hx.spLaw _) rfl (by decide) rfl ⟨rfl, by decide, by decide⟩ (fun w h Y => PySem.W.kIn_of Y) ?F (fun _ _ a ns hl _ hS => ⟨a, ns, rfl, hS, hl, fun _ => rfl⟩) (fun _ _ _ _ _ h => h)
  case F =>
    intro w mg fa h KX G hmg
    refine' Hx.all_mk KX G hmg ?a__law_cell_at ?l__law_cell_at ?c__law_cell_at ?k__law_cell_at ?a__law_height_by ?l__law_height_by ?c__law_height_by ?k__law_height_by ?a__law_land_by ?l__law_land_by ?c__law_land_by ?k__law_land_by ?a_slope ?l_slope ?c_slope ?k_slope ?a_steeper ?l_steeper ?c_steeper ?k_steeper ?a__seen_ahead ?l__seen_ahead ?c__seen_ahead ?k__seen_ahead ?a_sights ?l_sights ?c_sights ?k_sights ?a_law ?l_law ?c_law ?k_law ?z_len ?z_range ?z_isinstance ?z_int ?z_bool ?z_list ?z_tuple ?z_min ?z_max ?z_all ?z_sorted ?z_ValueError
    (case a__law_cell_at => k_is)
    (case l__law_cell_at => k_is)
    (case c__law_cell_at => k_is)
    (case k__law_cell_at => k_is)
    (case a__law_height_by => k_is)
    (case l__law_height_by => k_is)
    (case c__law_height_by => k_is)
    (case k__law_height_by => k_is)
    (case a__law_land_by => k_is)
    (case l__law_land_by => k_is)
    (case c__law_land_by => k_is)
    (case k__law_land_by => k_is)
    (case a_slope => k_is)
    (case l_slope => k_is)
    (case c_slope => k_is)
    (case k_slope => k_is)
    (case a_steeper => k_is)
    (case l_steeper => k_is)
    (case c_steeper => k_is)
    (case k_steeper => k_is)
    (case a__seen_ahead => k_is)
    (case l__seen_ahead => k_is)
    (case c__seen_ahead => k_is)
    (case k__seen_ahead => k_is)
    (case a_sights => k_is)
    (case l_sights => k_is)
    (case c_sights => k_is)
    (case k_sights => k_is)
    (case a_law => k_is)
    (case l_law => k_is)
    (case c_law => k_is)
    (case k_law => k_is)
    (case z_len => k_is)
    (case z_range => k_is)
    (case z_isinstance => k_is)
    (case z_int => k_is)
    (case z_bool => k_is)
    (case z_list => k_is)
    (case z_tuple => k_is)
    (case z_min => k_is)
    (case z_max => k_is)
    (case z_all => k_is)
    (case z_sorted => k_is)
    (case z_ValueError => k_is)
