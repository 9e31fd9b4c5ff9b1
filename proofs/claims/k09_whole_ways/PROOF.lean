import PyProof.Rows.All
import Wide.All
import OpenK.AllK
import Wide.FinOn
import HandS.ForMost
import HandS.ForExc
import HandS.TryMany
import HandS.ExcIs
import HandS.IsInst
import HandS.Evl
import HandS.Wide
import HandS.SortRule
import HandS.HotCalls
import HandS.Style
import HandS.Star
import PySem.Challenge.RW_hillsight_k09_whole_ways
set_option Elab.async false
set_option linter.all false
set_option maxRecDepth 100000
set_option maxHeartbeats 4000000
/-! Hx: a thin layer of our own over HandS and Evl: called defs as one fact, values of the usual expressions, equality of int lists. -/
namespace Hx
open PySem PySem.Spec PyProof.Rows L2 Evl
/-- the built-in names that stay free in the module -/
structure Blt (mg : Str → Option Value) : Prop where
  m_len : mg "len" = none
  m_range : mg "range" = none
  m_isinstance : mg "isinstance" = none
  m_int : mg "int" = none
  m_bool : mg "bool" = none
  m_list : mg "list" = none
  m_tuple : mg "tuple" = none
  m_min : mg "min" = none
  m_max : mg "max" = none
  m_all : mg "all" = none
  m_sorted : mg "sorted" = none
  m_zip : mg "zip" = none
  m_abs : mg "abs" = none
  m_any : mg "any" = none
  m_set : mg "set" = none
  m_str : mg "str" = none
  m_ValueError : mg "ValueError" = none
/-- a def of the module that keeps a promise -/
structure Cal (P : Program) (w : World) (K : PySem.W.Frag) (mg : Str → Option Value) (base : Heap) (x : Str) (k : Nat) (ps : List Str) (sp : Sp) : Prop where
  ex : ∃ f fd, FnOk P w K mg base CX0 k f fd ps sp ∧ mg x = some (.ref f) ∧ PySem.W.keepIn K (.ref f) = true ∧ Binds K fd ps []
section
variable {X : Cx}
theorem pe_cal {x : Str} {k j : Nat} {ps : List Str} {sp : Sp} {p pos : Pos} {e : Expr} {es : List Expr} {t : TA} (C : Cal X.prog X.w X.K X.mg X.base x k ps sp) (hr : Room j X.A) (ha : PA X (e :: es) t) (hk : k ≤ j := by decide) (hg : Gl X x := by rfl)
    (hdb : (x == ("__debug__" : Str)) = false := by decide) (he : starEach (e :: es) X.env = (false, eval e X.env) :: starEach es X.env := by rfl) (hpl : (backTo pos (starEach es X.env)).any (·.1) = false := by rfl) :
    PE X (.Call (.Name x p) (e :: es) [] pos) (tCall sp [] E0 t) := by
  obtain ⟨f, fd, F, hm, kp, b⟩ := C.ex
  exact pe_call F (hr.mono hk) hg hm kp b .nil pass0 ha hdb he hpl
end
section
variable {K : PySem.W.Frag} {σ : L2.St} {H H' : Hp} {ta tb te tx : TE} {t u : TT} {x y z v : V} {D : Ends} {tu tw tz : TS} {g : TG}
theorem ex_at {H H' : Hp} {a : Addr} {o : HO} (e : Ex H H') (h : H a = some o) : H' a = some o := e a o h
theorem ex_step {H H1 H2 : Hp} (b : Ex H1 H2) (a : Ex H H1) : Ex H H2 := a.trans b
/-! ### values -/
theorem ev_int {i j : Int} (h : Ev te σ H (.int i)) (e : i = j) : Ev te σ H (.int j) := e ▸ h
theorem rc_isi {x : V} {t : Value} {T : String} {b : Bool} (ty : ∀ H1, Ex H H1 → TyX K H1 x t) (e : PySem.W.kitOne K t (.type T) = some b) : RC (rIsi K) [x, .ty T] H (.bl b) :=
  fun H1 e1 Q q => ⟨x, .ty T, t, .type T, b, rfl, .ty T, ty H1 e1, e, q H1 (Ex.refl H1)⟩
theorem rc_isi_int {i : Int} {T : String} {b : Bool} (e : kitB "int" T = some b) : RC (rIsi K) [.int i, .ty T] H (.bl b) := rc_isi (fun _ _ => .base (.int i)) (kit_ty e)
theorem rc_isi_bl {i : Bool} {T : String} {b : Bool} (e : kitB "bool" T = some b) : RC (rIsi K) [.bl i, .ty T] H (.bl b) := rc_isi (fun _ _ => .base (.bl i)) (kit_ty e)
theorem rc_isi_non {T : String} {b : Bool} (e : kitB "NoneType" T = some b) : RC (rIsi K) [.non, .ty T] H (.bl b) := rc_isi (fun _ _ => .base .non) (kit_ty e)
theorem rc_isi_str {i : Str} {T : String} {b : Bool} (e : kitB "str" T = some b) : RC (rIsi K) [.str i, .ty T] H (.bl b) := rc_isi (fun _ _ => .base (.str i)) (kit_ty e)
theorem rc_isi_lst {a : Addr} {xs : List V} {T : String} {b : Bool} (h : H a = some (.lst xs)) (e : kitB "list" T = some b) : RC (rIsi K) [.ref a, .ty T] H (.bl b) := rc_isi (fun _ e1 => .base (.lst (e1 _ _ h))) (kit_ty e)
theorem rc_isi_tup {a : Addr} {xs : List V} {T : String} {b : Bool} (h : H a = some (.tup xs)) (e : kitB "tuple" T = some b) : RC (rIsi K) [.ref a, .ty T] H (.bl b) := rc_isi (fun _ e1 => .base (.tup (e1 _ _ h))) (kit_ty e)
theorem rc_len {p : Addr} {ys : List V} (h : SqL K H p ys) : RC (fun xs H Q => ∃ p ys, xs = [V.ref p] ∧ (SqL K H p ys ∨ SqT K H p ys) ∧ Q (.int ys.length) H) [.ref p] H (.int (ys.length : Int)) :=
  fun H1 e Q q => ⟨p, ys, rfl, .inl (ex_l e h), q H1 (Ex.refl H1)⟩
theorem rc_lenT {p : Addr} {ys : List V} (h : SqT K H p ys) : RC (fun xs H Q => ∃ p ys, xs = [V.ref p] ∧ (SqL K H p ys ∨ SqT K H p ys) ∧ Q (.int ys.length) H) [.ref p] H (.int (ys.length : Int)) :=
  fun H1 e Q q => ⟨p, ys, rfl, .inr (ex_t e h), q H1 (Ex.refl H1)⟩
theorem rcl_list {p : Addr} {ys : List V} (h : SqL K H p ys) : RCL (fun xs H Q => ∃ p ys, xs = [V.ref p] ∧ (SqL K H p ys ∨ SqT K H p ys) ∧ ∀ l, H l = none → Q (.ref l) (upd H l (.lst ys))) [.ref p] H ys :=
  fun H1 e Q q => ⟨p, ys, rfl, .inl (ex_l e h), fun l hl => q l _ hl (Ex.new hl) upd_same⟩
theorem rc_min {i j : Int} : RC (fun xs H Q => ∃ i j, xs = [V.int i, V.int j] ∧ Q (.int (if j < i then j else i)) H) [.int i, .int j] H (.int (min i j)) := fun H1 _ Q q => ⟨i, j, rfl, by
  have e : (if j < i then j else i) = min i j := by rw [Int.min_def]; split <;> split <;> omega
  rw [e]; exact q H1 (Ex.refl H1)⟩
theorem rc_max {i j : Int} : RC (fun xs H Q => ∃ i j, xs = [V.int i, V.int j] ∧ Q (.int (if j > i then j else i)) H) [.int i, .int j] H (.int (max i j)) := fun H1 _ Q q => ⟨i, j, rfl, by
  have e : (if j > i then j else i) = max i j := by rw [Int.max_def]; split <;> split <;> omega
  rw [e]; exact q H1 (Ex.refl H1)⟩
theorem kb_int_int : kitB "int" "int" = some true := by decide +kernel
theorem kb_int_bool : kitB "int" "bool" = some false := by decide +kernel
theorem kb_bool_int : kitB "bool" "int" = some true := by decide +kernel
theorem kb_bool_bool : kitB "bool" "bool" = some true := by decide +kernel
theorem kb_NoneType_int : kitB "NoneType" "int" = some false := by decide +kernel
theorem kb_NoneType_bool : kitB "NoneType" "bool" = some false := by decide +kernel
theorem kb_str_int : kitB "str" "int" = some false := by decide +kernel
theorem kb_str_bool : kitB "str" "bool" = some false := by decide +kernel
theorem kb_list_list : kitB "list" "list" = some true := by decide +kernel
theorem kb_tuple_tuple : kitB "tuple" "tuple" = some true := by decide +kernel
theorem kb_list_int : kitB "list" "int" = some false := by decide +kernel
theorem kb_tuple_int : kitB "tuple" "int" = some false := by decide +kernel
theorem kb_list_bool : kitB "list" "bool" = some false := by decide +kernel
theorem kb_tuple_bool : kitB "tuple" "bool" = some false := by decide +kernel
theorem kb_list_tuple : kitB "list" "tuple" = some false := by decide +kernel
theorem kb_tuple_list : kitB "tuple" "list" = some false := by decide +kernel
theorem kb_int_list : kitB "int" "list" = some false := by decide +kernel
theorem kb_int_tuple : kitB "int" "tuple" = some false := by decide +kernel
theorem rc_intb {k : Bool} : RC (fun xs H Q => (∃ i, xs = [V.int i] ∧ Q (.int i) H) ∨ ∃ k, xs = [V.bl k] ∧ Q (.int (if k then 1 else 0)) H) [.bl k] H (.int (if k then 1 else 0)) := fun H1 _ _ q => .inr ⟨k, rfl, q H1 (Ex.refl H1)⟩
/-! ### int lists compared -/
theorem dp_ints : ∀ ns : List Int, DpAll K H (ns.map V.int) (ns.map PyData.int)
  | [] => .nil
  | n :: r => .cons (.int n) (dp_ints r)
theorem ints_lay : ∀ ns : List Int, PyData.canLayAll0 (ns.map PyData.int) = true
  | [] => by simp [PyData.canLayAll0]
  | n :: r => by simp [PyData.canLayAll0, PyData.canLay0, ints_lay r]
theorem ints_depth : ∀ ns : List Int, PyData.depthAll (ns.map PyData.int) ≤ 1
  | [] => by simp [PyData.depthAll]
  | n :: r => by
    have h := ints_depth r
    simp only [List.map_cons, PyData.depthAll, PyData.depth]
    omega
theorem ints_shaped (ns : List Int) : SeqAt.shaped (.list (ns.map PyData.int)) = true := by
  have h1 := ints_depth ns
  have h2 : PyData.depth (.list (ns.map PyData.int)) ≤ 64 := by
    simp only [PyData.depth]
    omega
  show (PyData.canLay0 (.list (ns.map PyData.int)) && decide (PyData.depth (.list (ns.map PyData.int)) ≤ 64)) = true
  rw [Bool.and_eq_true]
  exact ⟨by simp only [PyData.canLay0]; exact ints_lay ns, decide_eq_true h2⟩
theorem ints_eqvAll : ∀ ns ms : List Int, PyData.eqvAll (ns.map PyData.int) (ms.map PyData.int) = decide (ns = ms)
  | [], [] => by simp [PyData.eqvAll]
  | [], _ :: _ => by simp [PyData.eqvAll]
  | _ :: _, [] => by simp [PyData.eqvAll]
  | n :: r, m :: s => by
    have h := ints_eqvAll r s
    simp only [List.map_cons, PyData.eqvAll, PyData.eqv, h]
    by_cases e : n = m <;> by_cases e2 : r = s <;> simp [e, e2]
theorem ints_eqv (ns ms : List Int) : PyData.eqv (.list (ns.map PyData.int)) (.list (ms.map PyData.int)) = decide (ns = ms) := by
  simp only [PyData.eqv, ints_eqvAll]
theorem rv_eqI {p q : Addr} {ns ms : List Int} (h1 : SqL K H p (ns.map V.int)) (h2 : SqL K H q (ms.map V.int)) : RV (rEqD K) (.ref p) (.ref q) H (.bl (decide (ns = ms))) :=
  fun H1 e Q k => ⟨_, _, .lst (ex_l e h1) (dp_ints ns), .lst (ex_l e h2) (dp_ints ms), ints_shaped ns, ints_shaped ms, by rw [ints_eqv]; exact k H1 (Ex.refl H1)⟩
theorem rv_neI {p q : Addr} {ns ms : List Int} (h1 : SqL K H p (ns.map V.int)) (h2 : SqL K H q (ms.map V.int)) : RV (rNeD K) (.ref p) (.ref q) H (.bl (!decide (ns = ms))) :=
  fun H1 e Q k => ⟨_, _, .lst (ex_l e h1) (dp_ints ns), .lst (ex_l e h2) (dp_ints ms), ints_shaped ns, ints_shaped ms, by rw [ints_eqv]; exact k H1 (Ex.refl H1)⟩
/-! ### promises of one shape -/
/-- a def that hands back a value and leaves all as it was: R tells which -/
def spV (R : List V → Hp → V → Prop) : Sp := fun vs H Q _ => ∃ v, R vs H v ∧ RetV v H Q
/-- a def that hands back a new list, a new tuple -/
def spL (R : List V → Hp → List V → Prop) : Sp := fun vs H Q _ => ∃ xs, R vs H xs ∧ RetL xs H Q
def RetU (xs : List V) (H : Hp) (Q : VK) : Prop := ∀ p H2, H p = none → Ex H H2 → H2 p = some (.tup xs) → Q (.ref p) H2
def spU (R : List V → Hp → List V → Prop) : Sp := fun vs H Q _ => ∃ xs, R vs H xs ∧ RetU xs H Q
theorem ev_cal {R : List V → Hp → V → Prop} {vs : List V} {E : XK} {ta : TA} (h : EvA ta σ H vs) (hs : ∀ H1, Ex H H1 → R vs H1 z) : Ev (tCall (spV R) [] E ta) σ H z :=
  ev_call (vs := vs) h fun H1 e Q q E => ⟨z, by rw [List.append_nil]; exact hs H1 e, q⟩
theorem el_cal {R : List V → Hp → List V → Prop} {vs xs : List V} {E : XK} {ta : TA} (h : EvA ta σ H vs) (hs : ∀ H1, Ex H H1 → R vs H1 xs) : EvL (tCall (spL R) [] E ta) σ H xs :=
  el_call (vs := vs) h fun H1 e Q q E => ⟨xs, by rw [List.append_nil]; exact hs H1 e, q⟩
theorem eu_cal {R : List V → Hp → List V → Prop} {vs xs : List V} {E : XK} {ta : TA} (h : EvA ta σ H vs) (hs : ∀ H1, Ex H H1 → R vs H1 xs) : EvU (tCall (spU R) [] E ta) σ H xs :=
  fun H1 e Q q => h H1 e _ fun H2 e2 => ⟨xs, by rw [List.append_nil]; exact hs H2 (e.trans e2), fun p H3 hp e3 h3 => q p H3 (fresh_back e2 hp) (e2.trans e3) h3⟩
/-! ### a new tuple walked; a tuple unpacked -/
theorem s_forNT {xs : List V} {tl : TE} (h : EvU tl σ H xs) (Pv : Addr → Nat → L2.St → Hp → Prop) (h0 : ∀ p H1, H p = none → Ex H H1 → H1 p = some (.tup xs) → Pv p 0 σ H1) (hl : ∀ p i σ' H', i ≤ xs.length → Pv p i σ' H' → SqT K H' p xs)
    (hs : ∀ p i x σ' H', xs[i]? = some x → Pv p i σ' H' → g x σ' H' fun σ2 H2 => tu { D with nx := Pv p (i + 1), ct := Pv p (i + 1), bk := D.nx } σ2 H2) (hd : ∀ p σ' H', Pv p xs.length σ' H' → D.nx σ' H') : tFor (iTup K tl) g tu D σ H :=
  h H (Ex.refl H) _ fun p H1 hp e h1 => ⟨p, rfl, ⟨xs, st_of h1⟩, for_tup (Pv p) (h0 p H1 hp e h1) (hl p) (hs p) (hd p)⟩
theorem q_forNT {xs : List V} {tl : TE} (h : EvU tl σ H xs) (Pv : Addr → Nat → L2.St → Hp → Prop) (h0 : ∀ p H1, H p = none → Ex H H1 → H1 p = some (.tup xs) → Pv p 0 σ H1) (hl : ∀ p i σ' H', i ≤ xs.length → Pv p i σ' H' → SqT K H' p xs)
    (hs : ∀ p i x σ' H', xs[i]? = some x → Pv p i σ' H' → g x σ' H' fun σ2 H2 => tu { D with nx := Pv p (i + 1), ct := Pv p (i + 1), bk := tz D } σ2 H2) (hd : ∀ p σ' H', Pv p xs.length σ' H' → tz D σ' H') : tSeq (tFor (iTup K tl) g tu) tz D σ H :=
  s_forNT (D := { D with nx := tz D }) h Pv h0 hl hs hd
theorem g_tup2 {i j : Nat} {p : Addr} {x y : V} {Q : L2.St → Hp → Prop} (h : SqT K H p [x, y]) (q : Q ((σ.set i (some x)).set j (some y)) H) : gTup K 2 (gCons (gName i) (gCons (gName j) gNil)) (.ref p) σ H Q :=
  ⟨p, [x, y], rfl, h, rfl, x, [y], rfl, y, [], rfl, rfl, q⟩
theorem q_unpack {i j : Nat} {p : Addr} (ha : Ev te σ H (.ref p)) (h : SqT K H p [x, y]) (k : ∀ H1, Ex H H1 → tz D ((σ.set i (some x)).set j (some y)) H1) : tSeq (tAsg te (gTup K 2 (gCons (gName i) (gCons (gName j) gNil)))) tz D σ H :=
  ha H (Ex.refl H) _ fun H1 e => g_tup2 (ex_t e h) (k H1 e)
/-- a chain of two comparisons of ints, as a value -/
theorem ev_chain {r r' : R2} {tc : TE} {y w : V} {a b : Bool} (ha : Ev ta σ H x) (hb : Ev tb σ H y) (hc : Ev tc σ H w) (h1 : RV r x y H (.bl a)) (h2 : RV r' y w H (.bl b)) : Ev (tChain r r' ta tb tc) σ H (.bl (a && b)) := fun H1 e Q q =>
  ha H1 e _ fun H2 e2 => hb H2 (e.trans e2) _ fun H3 e3 => h1 H3 ((e.trans e2).trans e3) _ fun H4 e4 => ⟨a, rfl, by
    have e' := (((e.trans e2).trans e3).trans e4)
    have e'' := ((e2.trans e3).trans e4)
    cases a with
    | true => exact hc H4 e' _ fun H5 e5 => h2 H5 (e'.trans e5) _ fun H6 e6 => q H6 ((e''.trans e5).trans e6)
    | false => exact q H4 e''⟩
end
/-! ### the cells of a script -/
def cel (ns : List Int) (j : Int) : Int := ns.getD j.toNat 0
theorem getD_ix {ns : List Int} {j : Int} (h0 : 0 ≤ j) (h : j < (ns.length : Int)) : atI (ns.map V.int) j = some (V.int (cel ns j)) := by
  unfold cel
  have h1 : j.toNat < ns.length := by omega
  have e : j = ((j.toNat : Nat) : Int) := by omega
  have e2 : (ns.map V.int)[j.toNat]? = some (V.int (ns.getD j.toNat 0)) := by
    rw [List.getElem?_map, List.getD_eq_getElem?_getD, List.getElem?_eq_getElem h1]
    rfl
  have h3 := atI_nat e2
  rw [← e] at h3
  exact h3
def RCel (K : PySem.W.Frag) (vs : List V) (H : Hp) (v : V) : Prop := ∃ (l : Addr) (ns : List Int) (j : Int), vs = [.ref l, .int j] ∧ 0 ≤ j ∧ SqL K H l (ns.map V.int) ∧ v = .int (cel ns j)
/-- what the def that looks whether a thing is a whole number hands back, of the things it is asked of -/
def RWhole (vs : List V) (_ : Hp) (v : V) : Prop := ∃ x, vs = [x] ∧ (((∃ i, x = .int i) ∧ v = .bl true) ∨ (x = .non ∧ v = .bl false) ∨ ((∃ b, x = .bl b) ∧ v = .bl false) ∨ ((∃ b, x = .str b) ∧ v = .bl false))
def RSlope (K : PySem.W.Frag) (vs : List V) (H : Hp) (xs : List V) : Prop := ∃ (l : Addr) (ns : List Int) (a b : Int), vs = [.ref l, .int a, .int b] ∧ 0 ≤ a ∧ a < (ns.length : Int) ∧ 0 ≤ b ∧ b < (ns.length : Int) ∧ SqL K H l (ns.map V.int) ∧
  xs = [.int (cel ns b - cel ns a), .int (b - a)]
def RSteeper (K : PySem.W.Frag) (vs : List V) (H : Hp) (v : V) : Prop := ∃ (p1 p2 : Addr) (r1 n1 r2 n2 : Int), vs = [.ref p1, .ref p2] ∧ SqT K H p1 [.int r1, .int n1] ∧ SqT K H p2 [.int r2, .int n2] ∧
  -(2 ^ 64) < n1 ∧ n1 < 2 ^ 64 ∧ -(2 ^ 64) < n2 ∧ n2 < 2 ^ 64 ∧ v = .bl (decide (r2 * n1 < r1 * n2))
section
variable {K : PySem.W.Frag} {σ : L2.St} {H : Hp} {ta : TA} {E : XK}
theorem ev_cel {l : Addr} {ns : List Int} {j : Int} (h : EvA ta σ H [.ref l, .int j]) (hs : SqL K H l (ns.map V.int)) (h0 : 0 ≤ j) : Ev (tCall (spV (RCel K)) [] E ta) σ H (.int (cel ns j)) :=
  ev_cal h fun _ e => ⟨l, ns, j, rfl, h0, ex_l e hs, rfl⟩
theorem ev_whole {i : Int} (h : EvA ta σ H [.int i]) : Ev (tCall (spV RWhole) [] E ta) σ H (.bl true) := ev_cal h fun _ _ => ⟨_, rfl, .inl ⟨⟨i, rfl⟩, rfl⟩⟩
theorem eu_slope {l : Addr} {ns : List Int} {a b : Int} (h : EvA ta σ H [.ref l, .int a, .int b]) (hs : SqL K H l (ns.map V.int)) (a0 : 0 ≤ a) (a1 : a < (ns.length : Int)) (b0 : 0 ≤ b) (b1 : b < (ns.length : Int)) :
    EvU (tCall (spU (RSlope K)) [] E ta) σ H [.int (cel ns b - cel ns a), .int (b - a)] := eu_cal h fun _ e => ⟨l, ns, a, b, rfl, a0, a1, b0, b1, ex_l e hs, rfl⟩
theorem ev_steeper {p1 p2 : Addr} {r1 n1 r2 n2 : Int} (h : EvA ta σ H [.ref p1, .ref p2]) (h1 : SqT K H p1 [.int r1, .int n1]) (h2 : SqT K H p2 [.int r2, .int n2]) (b1 : -(2 ^ 64) < n1) (b2 : n1 < 2 ^ 64) (b3 : -(2 ^ 64) < n2) (b4 : n2 < 2 ^ 64) :
    Ev (tCall (spV (RSteeper K)) [] E ta) σ H (.bl (decide (r2 * n1 < r1 * n2))) := ev_cal h fun _ e => ⟨p1, p2, r1, n1, r2, n2, rfl, ex_t e h1, ex_t e h2, b1, b2, b3, b4, rfl⟩
end
end Hx
namespace Hx
open PySem PySem.Spec PyProof.Rows L2 Evl
/-! ### the lands that the laws build -/
def heightOf (c k kind tilt : Int) : Int :=
  if kind = 0 then c % 7 - 3 else if kind = 1 then tilt * k + c % 2 else if kind = 2 then c * 48271 % (2 * 1000000000000000000 + 1) - 1000000000000000000
  else if kind = 3 then k * k * (tilt % 3 - 1) + c % 3 else 1000000000000000000 - c % 3
def RHeight (vs : List V) (_ : Hp) (v : V) : Prop := ∃ c k kind tilt : Int, vs = [.int c, .int k, .int kind, .int tilt] ∧ 0 ≤ k ∧ k ≤ 1000 ∧ -3 ≤ tilt ∧ tilt ≤ 3 ∧ v = .int (heightOf c k kind tilt)
def kindOf (ns : List Int) (most : Int) : Int := cel ns 0 / most % 5
def tiltOf (ns : List Int) (most : Int) : Int := cel ns 0 / most / 5 % 7 - 3
def landOf (ns : List Int) (most : Int) : List Int := (List.range (1 + cel ns 0 % most).toNat).map fun (k : Nat) => heightOf (cel ns (3 + (k : Int))) k (kindOf ns most) (tiltOf ns most)
def RLand (K : PySem.W.Frag) (vs : List V) (H : Hp) (xs : List V) : Prop := ∃ (l : Addr) (ns : List Int) (most : Int), vs = [.ref l, .int most] ∧ 1 ≤ most ∧ most ≤ 100 ∧ SqL K H l (ns.map V.int) ∧ xs = (landOf ns most).map V.int
def moreOf (ns : List Int) (most : Int) (n : Int) (k : Nat) : Int := heightOf (cel ns (3 + (k : Int) % 20) * ((k : Int) + 5)) (n + (k : Int)) (kindOf ns most) (tiltOf ns most)
def longerOf (ns land : List Int) (most many : Int) : List Int := land ++ (List.range many.toNat).map (moreOf ns most land.length)
def RLonger (K : PySem.W.Frag) (vs : List V) (H : Hp) (xs : List V) : Prop := ∃ (l b : Addr) (ns land : List Int) (most many : Int), vs = [.ref l, .ref b, .int most, .int many] ∧ 1 ≤ most ∧ most ≤ 100 ∧ 0 ≤ many ∧ (land.length : Int) + many ≤ 1000 ∧ SqL K H l (ns.map V.int) ∧ SqL K H b (land.map V.int) ∧
  xs = (longerOf ns land most many).map V.int
theorem landOf_len (ns : List Int) (most : Int) : (landOf ns most).length = (1 + cel ns 0 % most).toNat := by
  unfold landOf
  rw [List.length_map, List.length_range]
theorem longerOf_len (ns land : List Int) (most many : Int) : (longerOf ns land most many).length = land.length + many.toNat := by
  unfold longerOf
  rw [List.length_append, List.length_map, List.length_range]
section
variable {K : PySem.W.Frag} {σ : L2.St} {H : Hp} {ta : TA} {E : XK}
theorem ev_height {c k kind tilt : Int} (h : EvA ta σ H [.int c, .int k, .int kind, .int tilt]) (h1 : 0 ≤ k) (h2 : k ≤ 1000) (h3 : -3 ≤ tilt) (h4 : tilt ≤ 3) : Ev (tCall (spV RHeight) [] E ta) σ H (.int (heightOf c k kind tilt)) :=
  ev_cal h fun _ _ => ⟨c, k, kind, tilt, rfl, h1, h2, h3, h4, rfl⟩
theorem el_land {l : Addr} {ns : List Int} {most : Int} (h : EvA ta σ H [.ref l, .int most]) (hs : SqL K H l (ns.map V.int)) (h1 : 1 ≤ most) (h2 : most ≤ 100) : EvL (tCall (spL (RLand K)) [] E ta) σ H ((landOf ns most).map V.int) :=
  el_cal h fun _ e => ⟨l, ns, most, rfl, h1, h2, ex_l e hs, rfl⟩
theorem el_longer {l b : Addr} {ns land : List Int} {most many : Int} (h : EvA ta σ H [.ref l, .ref b, .int most, .int many]) (hs : SqL K H l (ns.map V.int)) (hb : SqL K H b (land.map V.int)) (h1 : 1 ≤ most) (h2 : most ≤ 100) (h3 : 0 ≤ many) (h4 : (land.length : Int) + many ≤ 1000) :
    EvL (tCall (spL (RLonger K)) [] E ta) σ H ((longerOf ns land most many).map V.int) := el_cal h fun _ e => ⟨l, b, ns, land, most, many, rfl, h1, h2, h3, h4, ex_l e hs, ex_l e hb, rfl⟩
theorem et_yes : EvT tYes σ H true := fun H1 _ _ q => q H1 (Ex.refl H1)
theorem given_all {n : Nat} {v : Nat → V} {g : Nat → Int} (h : ∀ i, v i = .int (g i)) : given n (fun _ => true) v = ((List.range n).map g).map V.int := by
  unfold given
  rw [List.filter_eq_self.mpr (fun _ _ => rfl), List.map_map]
  exact List.map_congr_left fun i _ => h i
end
end Hx
namespace Hx
open PySem PySem.Spec PyProof.Rows L2 Evl
section
variable {K : PySem.W.Frag} {σ : L2.St} {H : Hp} {ta tb : TE} {x : V}
theorem rv_isN : RV (fun x y H Q => y = .non ∧ Q (.bl (decide (x = .non))) H) x .non H (.bl (decide (x = .non))) := fun H1 _ _ q => ⟨rfl, q H1 (Ex.refl H1)⟩
theorem rv_notN : RV (fun x y H Q => y = .non ∧ Q (.bl (!decide (x = .non))) H) x .non H (.bl (!decide (x = .non))) := fun H1 _ _ q => ⟨rfl, q H1 (Ex.refl H1)⟩
end
end Hx
namespace Hx
open PySem PySem.Spec PyProof.Rows L2 Evl
section
variable {σ : L2.St} {H : Hp}
theorem ev_pow {a b c : Int} (h1 : CPow a b) (h2 : a ^ b.toNat = c) : Ev (tOp (rI CPow fun i j => .int (i ^ j.toNat)) (tC (.int a)) (tC (.int b))) σ H (.int c) := h2 ▸ ev_op ev_c ev_c (rv_I h1)
theorem ev_pow18 : Ev (tOp (rI CPow fun i j => .int (i ^ j.toNat)) (tC (.int 10)) (tC (.int 18))) σ H (.int 1000000000000000000) := ev_pow ⟨by decide, by decide, by decide⟩ (by decide)
theorem ev_pow14 : Ev (tOp (rI CPow fun i j => .int (i ^ j.toNat)) (tC (.int 10)) (tC (.int 14))) σ H (.int 100000000000000) := ev_pow ⟨by decide, by decide, by decide⟩ (by decide)
theorem ev_pow9 : Ev (tOp (rI CPow fun i j => .int (i ^ j.toNat)) (tC (.int 10)) (tC (.int 9))) σ H (.int 1000000000) := ev_pow ⟨by decide, by decide, by decide⟩ (by decide)
end
end Hx
/-! The mathematics of looking: which hills see each other, by products of whole numbers. -/
namespace Hx
/-- the slope from a to k is less than that from a to b -/
def lowB (land : List Int) (a b k : Int) : Prop := (cel land k - cel land a) * (b - a) < (cel land b - cel land a) * (k - a)
instance {land : List Int} {a b k : Int} : Decidable (lowB land a b k) := by unfold lowB; infer_instance
def seesP (land : List Int) (a b : Int) : Prop := ∀ k, a < k → k < b → lowB land a b k
def seesB (land : List Int) (a b : Int) : Bool := (List.range (b - a - 1).toNat).all fun i => decide (lowB land a b (a + 1 + (i : Int)))
theorem seesB_iff {land : List Int} {a b : Int} : seesB land a b = true ↔ seesP land a b := by
  unfold seesB seesP
  rw [List.all_eq_true]
  constructor
  · intro h k h1 h2
    have z := h (k - a - 1).toNat (List.mem_range.mpr (by omega))
    have e : a + 1 + (((k - a - 1).toNat : Nat) : Int) = k := by omega
    rw [e] at z
    exact of_decide_eq_true z
  · intro h i hi
    have hi := List.mem_range.mp hi
    exact decide_eq_true (h _ (by omega) (by omega))
theorem seesB_false {land : List Int} {a b k : Int} (h1 : a < k) (h2 : k < b) (h : ¬ lowB land a b k) : seesB land a b = false := by
  cases e : seesB land a b with
  | false => rfl
  | true => exact absurd (seesB_iff.mp e k h1 h2) h
/-- the best of the places a + 1 .. a + i: none is steeper from a -/
def Best (land : List Int) (a : Int) (i : Nat) (best : Int) : Prop := a < best ∧ best ≤ a + i ∧ ∀ k, a < k → k ≤ a + i → (cel land k - cel land a) * (best - a) ≤ (cel land best - cel land a) * (k - a)
theorem lt_of_best {x y z n1 n2 n3 : Int} (h2 : 0 < n2) (h3 : 0 < n3) (h1 : 0 < n1) (a : y * n1 < x * n2) (b : z * n2 ≤ y * n3) : z * n1 < x * n3 := by
  have k1 : z * n2 * n1 ≤ y * n3 * n1 := Int.mul_le_mul_of_nonneg_right b (by omega)
  have k2 : y * n1 * n3 < x * n2 * n3 := Int.mul_lt_mul_of_pos_right a h3
  have k3 : (z * n1) * n2 < (x * n3) * n2 := by grind
  exact Int.lt_of_mul_lt_mul_right k3 (by omega)
theorem le_of_best {x y z n1 n2 n3 : Int} (h2 : 0 < n2) (h3 : 0 < n3) (h1 : 0 < n1) (a : y * n1 ≤ x * n2) (b : z * n2 ≤ y * n3) : z * n1 ≤ x * n3 := by
  have k1 : z * n2 * n1 ≤ y * n3 * n1 := Int.mul_le_mul_of_nonneg_right b (by omega)
  have k2 : y * n1 * n3 ≤ x * n2 * n3 := Int.mul_le_mul_of_nonneg_right a (by omega)
  have k3 : (z * n1) * n2 ≤ (x * n3) * n2 := by grind
  exact Int.le_of_mul_le_mul_right k3 h2
theorem best_one (land : List Int) (a : Int) : Best land a 1 (a + 1) := by
  refine ⟨by omega, by omega, fun k h1 h2 => ?_⟩
  have e : k = a + 1 := by omega
  rw [e]
  omega
/-- the next place is steeper than the best: it is seen, and the best -/
theorem best_yes {land : List Int} {a best : Int} {i : Nat} (h : Best land a i best) (hs : (cel land best - cel land a) * (a + 1 + i - a) < (cel land (a + 1 + i) - cel land a) * (best - a)) :
    Best land a (i + 1) (a + 1 + i) ∧ seesB land a (a + 1 + i) = true := by
  obtain ⟨h1, h2, h3⟩ := h
  refine ⟨⟨by omega, by omega, fun k k1 k2 => ?_⟩, seesB_iff.mpr fun k k1 k2 => ?_⟩
  · by_cases e : k = a + 1 + i
    · rw [e]
      omega
    · exact le_of_best (n2 := best - a) (by omega) (by omega) (by omega) (Int.le_of_lt hs) (h3 k k1 (by omega))
  · exact lt_of_best (n2 := best - a) (by omega) (by omega) (by omega) hs (h3 k k1 (by omega))
theorem best_no {land : List Int} {a best : Int} {i : Nat} (h : Best land a i best) (hs : ¬ (cel land best - cel land a) * (a + 1 + i - a) < (cel land (a + 1 + i) - cel land a) * (best - a)) :
    Best land a (i + 1) best ∧ seesB land a (a + 1 + i) = false := by
  obtain ⟨h1, h2, h3⟩ := h
  refine ⟨⟨by omega, by omega, fun k k1 k2 => ?_⟩, seesB_false (k := best) (by omega) (by omega) hs⟩
  by_cases e : k = a + 1 + i
  · rw [e]
    omega
  · exact h3 k k1 (by omega)
theorem sees_next (land : List Int) (a : Int) : seesB land a (a + 1) = true := seesB_iff.mpr fun k h1 h2 => by omega
/-- what the hill at a sees ahead of it, of the next i places -/
def aheadN (land : List Int) (a : Int) (i : Nat) : List Int := ((List.range i).map fun (j : Nat) => a + 1 + (j : Int)).filter (seesB land a)
theorem aheadN_yes {land : List Int} {a : Int} {i : Nat} (h : seesB land a (a + 1 + i) = true) : aheadN land a (i + 1) = aheadN land a i ++ [a + 1 + (i : Int)] := by
  unfold aheadN
  rw [List.range_succ, List.map_append, List.filter_append]
  simp [h]
theorem aheadN_no {land : List Int} {a : Int} {i : Nat} (h : seesB land a (a + 1 + i) = false) : aheadN land a (i + 1) = aheadN land a i := by
  unfold aheadN
  rw [List.range_succ, List.map_append, List.filter_append]
  simp [h]
theorem aheadN_len (land : List Int) (a : Int) (i : Nat) : (aheadN land a i).length ≤ i := by
  unfold aheadN
  have h := List.length_filter_le (seesB land a) ((List.range i).map fun (j : Nat) => a + 1 + (j : Int))
  rw [List.length_map, List.length_range] at h
  exact h
def aheadOf (land : List Int) (a : Int) : List Int := aheadN land a ((land.length : Int) - (a + 1)).toNat
theorem mem_aheadOf {land : List Int} {a b : Int} : b ∈ aheadOf land a ↔ a < b ∧ b < (land.length : Int) ∧ seesP land a b := by
  unfold aheadOf aheadN
  rw [List.mem_filter, List.mem_map, seesB_iff]
  constructor
  · rintro ⟨⟨j, hj, rfl⟩, h⟩
    have hj := List.mem_range.mp hj
    exact ⟨by omega, by omega, h⟩
  · rintro ⟨h1, h2, h⟩
    exact ⟨⟨(b - a - 1).toNat, List.mem_range.mpr (by omega), by omega⟩, h⟩
end Hx
namespace Hx
open PySem PySem.Spec PyProof.Rows L2 Evl
def RAhead (K : PySem.W.Frag) (vs : List V) (H : Hp) (xs : List V) : Prop := ∃ (l : Addr) (land : List Int) (a : Int), vs = [.ref l, .int a] ∧ 0 ≤ a ∧ a < (land.length : Int) ∧ land.length ≤ 1000 ∧ SqL K H l (land.map V.int) ∧ xs = (aheadOf land a).map V.int
section
variable {K : PySem.W.Frag} {σ : L2.St} {H : Hp} {ta : TA} {E : XK}
theorem el_ahead {l : Addr} {land : List Int} {a : Int} (h : EvA ta σ H [.ref l, .int a]) (hs : SqL K H l (land.map V.int)) (h1 : 0 ≤ a) (h2 : a < (land.length : Int)) (h3 : land.length ≤ 1000) : EvL (tCall (spL (RAhead K)) [] E ta) σ H ((aheadOf land a).map V.int) :=
  el_cal h fun _ e => ⟨l, land, a, rfl, h1, h2, h3, ex_l e hs, rfl⟩
end
end Hx
/-! Lists of pairs of whole numbers: each item a tuple of its own. -/
namespace Hx
open PySem PySem.Spec PyProof.Rows L2 Evl
/-- at the addresses stand the pairs -/
def Tups (H : Hp) (as : List Addr) (ps : List (Int × Int)) : Prop := as.length = ps.length ∧ ∀ (i : Nat) (a : Addr) (q : Int × Int), as[i]? = some a → ps[i]? = some q → H a = some (.tup [.int q.1, .int q.2])
theorem Tups.nil (H : Hp) : Tups H [] [] := ⟨rfl, fun i a q h => by simp at h⟩
theorem Tups.ex {H H' : Hp} {as : List Addr} {ps : List (Int × Int)} (e : Ex H H') (t : Tups H as ps) : Tups H' as ps := ⟨t.1, fun i a q h1 h2 => e _ _ (t.2 i a q h1 h2)⟩
theorem Tups.snoc {H : Hp} {as : List Addr} {ps : List (Int × Int)} {p : Addr} {q : Int × Int} (t : Tups H as ps) (h : H p = some (.tup [.int q.1, .int q.2])) : Tups H (as ++ [p]) (ps ++ [q]) := by
  refine ⟨by rw [List.length_append, List.length_append, t.1]; rfl, fun i a r h1 h2 => ?_⟩
  by_cases hi : i < as.length
  · rw [List.getElem?_append_left hi] at h1
    rw [List.getElem?_append_left (by rw [← t.1]; exact hi)] at h2
    exact t.2 i a r h1 h2
  · rw [List.getElem?_append_right (by omega)] at h1
    rw [List.getElem?_append_right (by rw [← t.1]; omega), ← t.1] at h2
    cases e : i - as.length with
    | zero =>
      rw [e] at h1 h2
      have e1 : p = a := Option.some.inj h1
      have e2 : q = r := Option.some.inj h2
      rw [← e1, ← e2]
      exact h
    | succ k =>
      rw [e] at h1
      simp at h1
theorem Tups.upd {H : Hp} {as : List Addr} {ps : List (Int × Int)} {D : Addr} {xs ys : List V} (t : Tups H as ps) (h : H D = some (.lst xs)) : Tups (upd H D (.lst ys)) as ps := ⟨t.1, fun i a q h1 h2 => by
  have z := t.2 i a q h1 h2
  have n : a ≠ D := ne_of z h (by intro w; cases w)
  rw [upd_ne n]
  exact z⟩
/-- evaluates to a new list of those pairs -/
def EvP (te : TE) (σ : L2.St) (H : Hp) (ps : List (Int × Int)) : Prop := ∀ H1, Ex H H1 → ∀ Q : VK, (∀ p H2 as, H1 p = none → Ex H1 H2 → H2 p = some (.lst (as.map V.ref)) → Tups H2 as ps → Q (.ref p) H2) → te σ H1 Q
def RetP (ps : List (Int × Int)) (H : Hp) (Q : VK) : Prop := ∀ p H2 as, H p = none → Ex H H2 → H2 p = some (.lst (as.map V.ref)) → Tups H2 as ps → Q (.ref p) H2
def spP (R : List V → Hp → List (Int × Int) → Prop) : Sp := fun vs H Q _ => ∃ xs, R vs H xs ∧ RetP xs H Q
section
variable {K : PySem.W.Frag} {σ : L2.St} {H : Hp} {ta tb te tl : TE} {D : Ends} {tz : TS} {ps : List (Int × Int)}
theorem ep_cal {R : List V → Hp → List (Int × Int) → Prop} {vs : List V} {E : XK} {ta : TA} (h : EvA ta σ H vs) (hs : ∀ H1, Ex H H1 → R vs H1 ps) : EvP (tCall (spP R) [] E ta) σ H ps :=
  fun H1 e Q q => h H1 e _ fun H2 e2 => ⟨ps, by rw [List.append_nil]; exact hs H2 (e.trans e2), fun p H3 as hp e3 h3 t3 => q p H3 as (fresh_back e2 hp) (e2.trans e3) h3 t3⟩
theorem q_asgP {i : Nat} (h : EvP te σ H ps) (k : ∀ p H1 as, H p = none → Ex H H1 → H1 p = some (.lst (as.map V.ref)) → Tups H1 as ps → tz D (σ.set i (some (.ref p))) H1) : tSeq (tAsg te (gName i)) tz D σ H :=
  h H (Ex.refl H) _ k
theorem s_retP (h : EvP te σ H ps) (k : ∀ p H1 as, H p = none → Ex H H1 → H1 p = some (.lst (as.map V.ref)) → Tups H1 as ps → D.rt (.ref p) H1) : tRet te D σ H := h H (Ex.refl H) _ k
theorem t_yes {A B : Hp → Prop} (h : A H) : tYes σ H fun b H1 => if b = true then A H1 else B H1 := by
  show (if true = true then A H else B H)
  rw [if_pos rfl]
  exact h
/-- [(a, b) for a in range(n) for b in row(a)] -/
def flatP (row : Nat → List Int) (n : Nat) : List (Int × Int) := (List.range n).flatMap fun k => (row k).map fun b => ((k : Int), b)
theorem flatP_succ (row : Nat → List Int) (n : Nat) : flatP row (n + 1) = flatP row n ++ (row n).map fun b => ((n : Int), b) := by
  unfold flatP
  rw [List.range_succ, List.flatMap_append]
  simp
theorem ep_lc2 {ta ta2 : TA} {i j : Nat} {vs vs1 : List Nat} {n : Int} (row : Nat → List Int) (h : EvA ta σ H [.int n]) (hn : 0 ≤ n ∧ n ≤ 1000) (hrow : ∀ k, (row k).length ≤ 1000)
    (hw : ∀ x, wipe ((wipe σ vs).set i (some x)) vs = wipe σ vs) (hw1 : ∀ x y, wipe ((wipe ((wipe σ vs).set i (some x)) vs1).set j (some y)) vs1 = wipe ((wipe σ vs).set i (some x)) vs1)
    (hl : ∀ (k : Nat) H1, Ex H H1 → (k : Int) < n → EvL tl ((wipe σ vs).set i (some (.int (k : Int)))) H1 ((row k).map V.int))
    (he : ∀ (k : Nat) (b : Int) H1, Ex H H1 → (k : Int) < n → EvA ta2 ((wipe ((wipe σ vs).set i (some (.int (k : Int)))) vs1).set j (some (.int b))) H1 [.int (k : Int), .int b]) :
    EvP (tLc2 (iRng1 ta) (gName i) tYes (iList K tl) (gName j) tYes (tTup ta2) vs vs1) σ H (flatP row n.toNat) := fun H0 e0 Q q => h H0 e0 _ fun H1 e1 => ⟨n, rfl, by omega, by omega, fun Dl hD => by
  let Pv : Nat → Hp → Prop := fun k H' => Ex H1 H' ∧ ∃ as, H' Dl = some (.lst (as.map V.ref)) ∧ Tups H' as (flatP row k) ∧ as.length ≤ k * 1000
  refine ⟨fun k m H' => m = n.toNat - k ∧ k ≤ n.toNat ∧ Pv k H', ⟨n.toNat, by omega, Nat.zero_le _, Ex.new hD, [], upd_same, Tups.nil _, Nat.zero_le _⟩, ?_⟩
  rintro k m H' ⟨rfl, hk, e2, as, hl2, t2, z2⟩
  by_cases hlt : k < n.toNat
  · refine .inr ⟨hlt, Pv (k + 1), fun H'' p => ⟨n.toNat - (k + 1), by omega, rfl, hlt, p⟩, fun x H'' y => ?_⟩
    obtain ⟨y1, y2⟩ := y
    subst y1 y2
    have ek : ((0 : Int) + ((k : Nat) : Int)) = (k : Int) := Int.zero_add _
    show wipe ((wipe σ vs).set i (some (.int ((0 : Int) + ((k : Nat) : Int))))) vs = wipe σ vs ∧ _
    rw [ek]
    refine ⟨hw _, ?_⟩
    refine t_yes ?_
    refine hl k H'' ((e0.trans e1).trans e2) (by omega) H'' (Ex.refl _) _ fun p H3 hp e3 h3 => ⟨p, rfl, ⟨_, sq_of h3⟩, ?_⟩
    let Pv1 : Nat → Hp → Prop := fun b H4 => Ex H1 H4 ∧ H4 p = some (.lst ((row k).map V.int)) ∧ ∃ as, H4 Dl = some (.lst (as.map V.ref)) ∧ Tups H4 as (flatP row k ++ ((row k).take b).map fun b => ((k : Int), b)) ∧ as.length ≤ k * 1000 + b
    have npD : p ≠ Dl := fun z => by rw [z, hl2] at hp; cases hp
    have n1p : H1 p = none := fresh_back e2 hp
    refine ⟨fun b m H4 => m = (row k).length - b ∧ b ≤ (row k).length ∧ Pv1 b H4, ⟨(row k).length, by omega, Nat.zero_le _, e2.trans e3, h3, as, e3 _ _ hl2, ?_, by omega⟩, ?_⟩
    · rw [List.take_zero, List.map_nil, List.append_nil]
      exact t2.ex e3
    rintro b m H4 ⟨rfl, hb, e4, h4, as', hl4, t4, z4⟩
    by_cases hbl : b < (row k).length
    · have hx : ((row k).map V.int)[b]? = some (.int (row k)[b]) := by rw [List.getElem?_map, List.getElem?_eq_getElem hbl]; rfl
      refine .inr ⟨⟨_, _, sq_of h4, hx⟩, Pv1 (b + 1), fun H5 p5 => ⟨(row k).length - (b + 1), by omega, rfl, hbl, p5⟩, fun x H5 y => ?_⟩
      obtain ⟨y1, y2⟩ := y
      subst y1
      have ex := (y2 _ (sq_of h4)).symm.trans hx
      have ex := Option.some.inj ex
      subst ex
      refine ⟨hw1 _ _, ?_⟩
      refine t_yes ?_
      refine he k _ H5 ((e0.trans e1).trans e4) (by omega) H5 (Ex.refl _) _ fun H6 e6 => ⟨sz_of (Nat.le_of_ble_eq_true rfl), fun t nt => ?_⟩
      have hl6 := e6 _ _ hl4
      have ntD : Dl ≠ t := ne_of_none hl6 nt
      have e7 : Ex H6 (upd H6 t (.tup [.int (k : Int), .int (row k)[b]])) := Ex.new nt
      have hl7 := e7 _ _ hl6
      have hk1 := hrow k
      have hk2 : k ≤ 1000 := by omega
      refine ⟨_, hl7, (by rw [List.length_map, sizeLine_eq]; omega), Ex.mut ((e4.trans e6).trans e7) hD, ?_, as' ++ [t], ?_, ?_, ?_⟩
      · rw [upd_ne npD]
        exact e7 _ _ (e6 _ _ h4)
      · rw [upd_same, List.map_append]
        rfl
      · have z := (((t4.ex e6).ex e7).snoc (p := t) (q := ((k : Int), (row k)[b])) upd_same).upd (ys := as'.map V.ref ++ [.ref t]) hl7
        rw [List.append_assoc] at z
        have et : (row k).take (b + 1) = (row k).take b ++ [(row k)[b]] := by rw [List.take_add_one, List.getElem?_eq_getElem hbl]; rfl
        rw [et, List.map_append]
        exact z
      · rw [List.length_append]
        show as'.length + 1 ≤ _
        omega
    · have eb : b = (row k).length := by omega
      subst eb
      refine .inl ⟨⟨_, sq_of h4, by rw [List.length_map]; omega⟩, e4, as', hl4, ?_, ?_⟩
      · rw [flatP_succ]
        rw [List.take_length] at t4
        exact t4
      · have := hrow k
        omega
  · have ek : k = n.toNat := by omega
    subst ek
    exact .inl ⟨Nat.le_refl _, q Dl H' as (fresh_back e1 hD) (e1.trans e2) hl2 t2⟩⟩
end
end Hx
namespace Hx
open PySem PySem.Spec PyProof.Rows L2 Evl
/-- the sights of a land -/
def sightsOf (land : List Int) : List (Int × Int) := flatP (fun k => aheadOf land (k : Int)) ((land.length : Nat) : Int).toNat
def RSights (K : PySem.W.Frag) (vs : List V) (H : Hp) (xs : List (Int × Int)) : Prop := ∃ (l : Addr) (land : List Int), vs = [.ref l] ∧ land.length ≤ 1000 ∧ SqL K H l (land.map V.int) ∧ xs = sightsOf land
theorem ep_sights {K : PySem.W.Frag} {σ : L2.St} {H : Hp} {ta : TA} {E : XK} {l : Addr} {land : List Int} (h : EvA ta σ H [.ref l]) (hs : SqL K H l (land.map V.int)) (h3 : land.length ≤ 1000) : EvP (tCall (spP (RSights K)) [] E ta) σ H (sightsOf land) :=
  ep_cal h fun _ e => ⟨l, land, rfl, h3, ex_l e hs, rfl⟩
theorem mem_sightsOf {land : List Int} {a b : Int} : (a, b) ∈ sightsOf land ↔ 0 ≤ a ∧ a < b ∧ b < (land.length : Int) ∧ seesP land a b := by
  unfold sightsOf flatP
  rw [List.mem_flatMap]
  constructor
  · rintro ⟨k, hk, h⟩
    have hk := List.mem_range.mp hk
    obtain ⟨c, hc, e⟩ := List.mem_map.mp h
    have e1 : ((k : Nat) : Int) = a := congrArg Prod.fst e
    have e2 : c = b := congrArg Prod.snd e
    subst e1 e2
    obtain ⟨h1, h2, h3⟩ := mem_aheadOf.mp hc
    exact ⟨by omega, h1, h2, h3⟩
  · rintro ⟨h0, h1, h2, h3⟩
    refine ⟨a.toNat, List.mem_range.mpr (by omega), List.mem_map.mpr ⟨b, ?_, ?_⟩⟩
    · have e : ((a.toNat : Nat) : Int) = a := by omega
      show b ∈ aheadOf land ((a.toNat : Nat) : Int)
      rw [e]
      exact mem_aheadOf.mpr ⟨h1, h2, h3⟩
    · have e : ((a.toNat : Nat) : Int) = a := by omega
      rw [e]
end Hx
/-! Lists of pairs compared and sorted; the sights of lands that are tilted, stretched, turned. -/
namespace Hx
open PySem PySem.Spec PyProof.Rows L2 Evl
def pD (q : Int × Int) : PyData := .tuple [.int q.1, .int q.2]
theorem pD_lay (z : Int × Int) : (pD z).canLay0 = true := by simp [pD, PyData.canLay0, PyData.canLayAll0]
theorem pD_depth (z : Int × Int) : (pD z).depth ≤ 1 := by simp [pD, PyData.depth, PyData.depthAll]
theorem pDs_lay : ∀ zs : List (Int × Int), PyData.canLayAll0 (zs.map pD) = true
  | [] => by simp [PyData.canLayAll0]
  | z :: zs => by simp [PyData.canLayAll0, pD_lay z, pDs_lay zs]
theorem pDs_depth : ∀ zs : List (Int × Int), PyData.depthAll (zs.map pD) ≤ 3
  | [] => by simp [PyData.depthAll]
  | z :: zs => by
    have h1 := pDs_depth zs
    have h2 := pD_depth z
    simp only [List.map_cons, PyData.depthAll]
    omega
theorem pDs_shaped (zs : List (Int × Int)) : SeqAt.shaped (.list (zs.map pD)) = true := by
  have h1 := pDs_depth zs
  have h2 : PyData.depth (.list (zs.map pD)) ≤ 64 := by
    simp only [PyData.depth]
    omega
  show (PyData.canLay0 (.list (zs.map pD)) && decide (PyData.depth (.list (zs.map pD)) ≤ 64)) = true
  rw [Bool.and_eq_true]
  exact ⟨by simp only [PyData.canLay0]; exact pDs_lay zs, decide_eq_true h2⟩
theorem pD_eqv (z w : Int × Int) : PyData.eqv (pD z) (pD w) = decide (z = w) := by
  obtain ⟨a, b⟩ := z
  obtain ⟨c, d⟩ := w
  have e : PyData.eqv (pD (a, b)) (pD (c, d)) = ((a == c) && ((b == d) && true)) := by simp only [pD, PyData.eqv, PyData.eqvAll]
  rw [e]
  by_cases h1 : a = c <;> by_cases h2 : b = d <;> simp [h1, h2]
theorem pDs_eqvAll : ∀ zs ws : List (Int × Int), PyData.eqvAll (zs.map pD) (ws.map pD) = decide (zs = ws)
  | [], [] => by simp [PyData.eqvAll]
  | [], _ :: _ => by simp [PyData.eqvAll]
  | _ :: _, [] => by simp [PyData.eqvAll]
  | n :: r, m :: s => by
    have h := pDs_eqvAll r s
    simp only [List.map_cons, PyData.eqvAll, pD_eqv, h]
    by_cases e : n = m <;> by_cases e2 : r = s <;> simp [e, e2]
theorem pDs_eqv (zs ws : List (Int × Int)) : PyData.eqv (.list (zs.map pD)) (.list (ws.map pD)) = decide (zs = ws) := by
  simp only [PyData.eqv, pDs_eqvAll]
section
variable {K : PySem.W.Frag} {σ : L2.St} {H : Hp} {ta tb te tl : TE} {D : Ends} {tz : TS} {ps qs : List (Int × Int)} {as bs : List Addr} {p q : Addr}
theorem dp_tups : ∀ {as : List Addr} {ps : List (Int × Int)}, Tups H as ps → DpAll K H (as.map V.ref) (ps.map pD)
  | [], [], _ => .nil
  | [], _ :: _, t => by cases t.1
  | _ :: _, [], t => by cases t.1
  | a :: as, z :: ps, t => .cons (.tup (st_of (t.2 0 a z rfl rfl)) (.cons (.int _) (.cons (.int _) .nil))) (dp_tups ⟨Nat.succ.inj t.1, fun i a q h1 h2 => t.2 (i + 1) a q h1 h2⟩)
/-- at p stands a list of the pairs -/
def PrL (H : Hp) (p : Addr) (ps : List (Int × Int)) : Prop := ∃ as, H p = some (.lst (as.map V.ref)) ∧ Tups H as ps
theorem PrL.ex {H H' : Hp} (e : Ex H H') (h : PrL H p ps) : PrL H' p ps := by
  obtain ⟨as, h1, h2⟩ := h
  exact ⟨as, e _ _ h1, h2.ex e⟩
theorem PrL.dp {K : PySem.W.Frag} (h : PrL H p ps) : Dp K H (.ref p) (.list (ps.map pD)) := by
  obtain ⟨as, h1, h2⟩ := h
  exact .lst (sq_of h1) (dp_tups h2)
theorem rv_eqP (h1 : PrL H p ps) (h2 : PrL H q qs) : RV (rEqD K) (.ref p) (.ref q) H (.bl (decide (ps = qs))) :=
  fun H1 e Q k => ⟨_, _, (h1.ex e).dp, (h2.ex e).dp, pDs_shaped ps, pDs_shaped qs, by rw [pDs_eqv]; exact k H1 (Ex.refl H1)⟩
theorem rv_neP (h1 : PrL H p ps) (h2 : PrL H q qs) : RV (rNeD K) (.ref p) (.ref q) H (.bl (!decide (ps = qs))) :=
  fun H1 e Q k => ⟨_, _, (h1.ex e).dp, (h2.ex e).dp, pDs_shaped ps, pDs_shaped qs, by rw [pDs_eqv]; exact k H1 (Ex.refl H1)⟩
/-- a new list of pairs on the left, on the right -/
theorem ev_opPl {r : R2} {y z : V} (ha : EvP ta σ H ps) (hb : Ev tb σ H y) (hr : ∀ p H1, PrL H1 p ps → Ex H H1 → RV r (.ref p) y H1 z) : Ev (tOp r ta tb) σ H z := fun H1 e Q k =>
  ha H1 e _ fun p H2 as _ e2 h2 t2 => hb H2 (e.trans e2) _ fun H3 e3 => hr p H2 ⟨as, h2, t2⟩ (e.trans e2) H3 e3 _ fun H4 e4 => k H4 ((e2.trans e3).trans e4)
theorem ev_opPr {r : R2} {x z : V} (ha : Ev ta σ H x) (hb : EvP tb σ H ps) (hr : ∀ p H1, PrL H1 p ps → Ex H H1 → RV r x (.ref p) H1 z) : Ev (tOp r ta tb) σ H z := fun H1 e Q k =>
  ha H1 e _ fun H2 e2 => hb H2 (e.trans e2) _ fun p H3 as _ e3 h3 t3 => hr p H3 ⟨as, h3, t3⟩ ((e.trans e2).trans e3) H3 (Ex.refl _) _ fun H4 e4 => k H4 ((e2.trans e3).trans e4)
/-- the lesser by the first, then by the second -/
def ltq (x y : Int × Int) : Prop := x.1 < y.1 ∨ (x.1 = y.1 ∧ x.2 < y.2)
def keyOf (H : Hp) : V → Int × Int := fun v => match v with
  | .ref t => (match H t with
    | some (.tup [.int a, .int b]) => (a, b)
    | _ => (0, 0))
  | _ => (0, 0)
theorem keyOf_at {t : Addr} {a b : Int} (h : H t = some (.tup [.int a, .int b])) : keyOf H (.ref t) = (a, b) := by
  unfold keyOf
  simp only [h]
theorem ep_sorted {qs : List (Int × Int)} (h : EvP te σ H ps) (hp : qs.Perm ps) (hs : qs.Pairwise ltq) : EvP (tCB (rSortedPO K) (tCons te tNil)) σ H qs := fun H0 e0 Q k => by
  refine h H0 e0 _ fun p H1 as np e1 h1 t1 => ?_
  have hk : ∀ x ∈ as.map V.ref, ∃ t, x = V.ref t ∧ H1 t = some (.tup [.int (keyOf H1 x).1, .int (keyOf H1 x).2]) := by
    intro x hx
    obtain ⟨t, ht, rfl⟩ := List.mem_map.mp hx
    obtain ⟨i, hi, et⟩ := List.getElem_of_mem ht
    have hi2 : i < ps.length := by rw [← t1.1]; exact hi
    have z := t1.2 i t ps[i] (by rw [List.getElem?_eq_getElem hi, et]) (List.getElem?_eq_getElem hi2)
    refine ⟨t, rfl, ?_⟩
    rw [keyOf_at z]
    exact z
  refine ⟨p, as.map V.ref, keyOf H1, rfl, sq_of h1, hk, fun ys l hys hst hl => ?_⟩
  have hm : (as.map V.ref).map (keyOf H1) = ps := by
    refine List.ext_getElem ?_ fun i h2 h3 => ?_
    · rw [List.length_map, List.length_map, t1.1]
    · have hi : i < as.length := by simpa using h2
      rw [List.getElem_map, List.getElem_map]
      have z := t1.2 i as[i] ps[i] (List.getElem?_eq_getElem hi) (List.getElem?_eq_getElem h3)
      rw [keyOf_at z]
  have hyp : (ys.map (keyOf H1)).Perm ps := by
    rw [← hm]
    exact hst.perm.map _
  have hysq : ys.map (keyOf H1) = qs := by
    refine List.Perm.eq_of_pairwise (le := fun x y => ¬ ltq y x) ?_ ?_ ?_ (hyp.trans hp.symm)
    · intro a b _ _ h1 h2
      unfold ltq at h1 h2
      exact Prod.ext (by omega) (by omega)
    · rw [List.pairwise_map]
      refine hys.imp fun {x y} hxy => ?_
      intro z
      have w : ltP (keyOf H1) y x = true := SrtO.lexB_iff.mpr (by unfold ltq at z; omega)
      rw [w] at hxy
      cases hxy
    · refine hs.imp fun {x y} hxy => ?_
      unfold ltq at hxy ⊢
      omega
  -- the refs, as addresses
  have hys' : ∃ cs : List Addr, ys = cs.map V.ref := by
    refine ⟨ys.map (fun v => match v with | .ref t => t | _ => 0), ?_⟩
    rw [List.map_map]
    refine (List.map_id ys).symm.trans (List.map_congr_left fun v hv => ?_)
    obtain ⟨t, _, rfl⟩ := List.mem_map.mp (hst.perm.mem_iff.mp hv)
    rfl
  obtain ⟨cs, rfl⟩ := hys'
  refine k l _ cs (fresh_back e1 hl) (e1.trans (Ex.new hl)) upd_same ?_
  refine ⟨by rw [← hysq, List.length_map, List.length_map], fun i a q h2 h3 => ?_⟩
  have hmem : V.ref a ∈ as.map V.ref := hst.perm.mem_iff.mp (List.mem_map.mpr ⟨a, List.mem_of_getElem? h2, rfl⟩)
  obtain ⟨t, e, z⟩ := hk _ hmem
  cases e
  rw [← hysq, List.getElem?_map, List.getElem?_map, h2] at h3
  have e3 : keyOf H1 (.ref a) = q := Option.some.inj h3
  rw [e3] at z
  exact Ex.new hl _ _ z
end
end Hx

namespace Hx
open PySem PySem.Spec PyProof.Rows L2 Evl
section
variable {K : PySem.W.Frag} {σ : L2.St} {H : Hp} {te tl : TE} {ps : List (Int × Int)} {p : Addr}
/-! ### comprehensions over int lists and lists of pairs -/
theorem given_of {xs : List Int} {v : Nat → V} {g : Int → Int} (h : ∀ i x, xs[i]? = some x → v i = .int (g x)) : given xs.length (fun _ => true) v = (xs.map g).map V.int := by
  unfold given
  rw [List.filter_eq_self.mpr (fun _ _ => rfl)]
  refine List.ext_getElem (by simp) fun i h1 h2 => ?_
  have hi : i < xs.length := by simpa using h1
  rw [List.getElem_map, List.getElem_map, List.getElem_map, List.getElem_range]
  exact h i _ (List.getElem?_eq_getElem hi)
theorem el_lcIN {xs : List Int} {j : Nat} {vs : List Nat} (g : Int → Int) (h : EvL tl σ H (xs.map V.int)) (hz : xs.length ≤ 40000) (hw : ∀ x, wipe ((wipe σ vs).set j (some x)) vs = wipe σ vs)
    (he : ∀ x H1, Ex H H1 → x ∈ xs → Ev te ((wipe σ vs).set j (some (.int x))) H1 (.int (g x))) : EvL (tLc (iList K tl) (gName j) tYes te vs) σ H ((xs.map g).map V.int) := by
  have hl : (xs.map V.int).length = xs.length := List.length_map ..
  have z := el_lcNL (K := K) (te := te) (t := tYes) (fun _ => true) (fun i => .int (g (cel xs (i : Int)))) h (by omega) hw (fun _ _ _ _ _ => et_yes) (fun i x H1 e hx _ => by
    rw [List.getElem?_map] at hx
    cases q : xs[i]? with
    | none => rw [q] at hx; cases hx
    | some y =>
      rw [q] at hx
      have ex : V.int y = x := Option.some.inj hx
      subst ex
      have ey : cel xs (i : Int) = y := by unfold cel; rw [List.getD_eq_getElem?_getD]; (show (xs[i]?).getD 0 = y); rw [q]; rfl
      rw [ey]
      exact he y H1 e (List.mem_of_getElem? q))
  rw [hl, given_of (xs := xs) (g := g)] at z
  · exact z
  · intro i x hx
    have ey : cel xs (i : Int) = x := by unfold cel; rw [List.getD_eq_getElem?_getD]; (show (xs[i]?).getD 0 = x); rw [hx]; rfl
    rw [ey]
theorem el_lcI {xs : List Int} {a : Addr} {j : Nat} {vs : List Nat} (g : Int → Int) (h : Ev tl σ H (.ref a)) (hx : SqL K H a (xs.map V.int)) (hz : xs.length ≤ 40000) (hw : ∀ x, wipe ((wipe σ vs).set j (some x)) vs = wipe σ vs)
    (he : ∀ x H1, Ex H H1 → x ∈ xs → Ev te ((wipe σ vs).set j (some (.int x))) H1 (.int (g x))) : EvL (tLc (iList K tl) (gName j) tYes te vs) σ H ((xs.map g).map V.int) := by
  have hl : (xs.map V.int).length = xs.length := List.length_map ..
  have z := el_lcL (K := K) (te := te) (t := tYes) (fun _ => true) (fun i => .int (g (cel xs (i : Int)))) h hx (by omega) hw (fun _ _ _ _ _ => et_yes) (fun i x H1 e hx _ => by
    rw [List.getElem?_map] at hx
    cases q : xs[i]? with
    | none => rw [q] at hx; cases hx
    | some y =>
      rw [q] at hx
      have ex : V.int y = x := Option.some.inj hx
      subst ex
      have ey : cel xs (i : Int) = y := by unfold cel; rw [List.getD_eq_getElem?_getD]; (show (xs[i]?).getD 0 = y); rw [q]; rfl
      rw [ey]
      exact he y H1 e (List.mem_of_getElem? q))
  rw [hl, given_of (xs := xs) (g := g)] at z
  · exact z
  · intro i x hx
    have ey : cel xs (i : Int) = x := by unfold cel; rw [List.getD_eq_getElem?_getD]; (show (xs[i]?).getD 0 = x); rw [hx]; rfl
    rw [ey]
theorem el_lcR {ta : TA} {n : Int} {j : Nat} {vs : List Nat} (g : Nat → Int) (h : EvA ta σ H [.int n]) (hn : 0 ≤ n ∧ n ≤ 40000) (hw : ∀ x, wipe ((wipe σ vs).set j (some x)) vs = wipe σ vs)
    (he : ∀ (i : Nat) H1, Ex H H1 → (i : Int) < n → Ev te ((wipe σ vs).set j (some (.int (i : Int)))) H1 (.int (g i))) : EvL (tLc (iRng1 ta) (gName j) tYes te vs) σ H (((List.range n.toNat).map g).map V.int) := by
  have z := el_lcR1 (te := te) (t := tYes) (fun _ => true) (fun i => .int (g i)) h hn hw (fun _ _ _ _ => et_yes) (fun i H1 e hi _ => he i H1 e hi)
  rw [given_all (g := g) (fun _ => rfl)] at z
  exact z
theorem ep_lcP {ta2 : TA} {i j : Nat} {vs : List Nat} (f : Int × Int → Int × Int) (h : Ev tl σ H (.ref p)) (hp : PrL H p ps) (hz : ps.length ≤ 100000) (hw : ∀ x y, wipe (((wipe σ vs).set i (some x)).set j (some y)) vs = wipe σ vs)
    (he : ∀ q H1, Ex H H1 → q ∈ ps → EvA ta2 (((wipe σ vs).set i (some (.int q.1))).set j (some (.int q.2))) H1 [.int (f q).1, .int (f q).2]) :
    EvP (tLc (iList K tl) (gTup K 2 (gCons (gName i) (gCons (gName j) gNil))) tYes (tTup ta2) vs) σ H (ps.map f) := fun H0 e0 Q k => h H0 e0 _ fun H1 e1 => by
  obtain ⟨as, ha, ta⟩ := hp
  have ha1 := e1 _ _ (e0 _ _ ha)
  refine ⟨p, rfl, ⟨_, sq_of ha1⟩, fun Dl hD => ?_⟩
  refine lc_list (xs := as.map V.ref) (fun n H' => Ex H1 H' ∧ ∃ bs, H' Dl = some (.lst (bs.map V.ref)) ∧ Tups H' bs ((ps.map f).take n)) ⟨Ex.new hD, [], upd_same, Tups.nil _⟩ (fun n H' _ q => sq_of (q.1 _ _ ha1)) ?_ ?_
  · rintro n x H' hx ⟨e2, bs, hb, tb⟩
    rw [List.getElem?_map] at hx
    cases qa : as[n]? with
    | none => rw [qa] at hx; cases hx
    | some t =>
      rw [qa] at hx
      have ex : V.ref t = x := Option.some.inj hx
      subst ex
      have hn : n < ps.length := by rw [← ta.1]; exact (List.getElem?_eq_some_iff.mp qa).1
      have ht := e2 _ _ (e1 _ _ (e0 _ _ (ta.2 n t ps[n] qa (List.getElem?_eq_getElem hn))))
      refine ⟨t, _, rfl, st_of ht, rfl, _, _, rfl, _, _, rfl, rfl, hw _ _, ?_⟩
      refine t_yes ?_
      refine he ps[n] H' ((e0.trans e1).trans e2) (List.getElem_mem hn) H' (Ex.refl _) _ fun H3 e3 => ⟨sz_of (Nat.le_of_ble_eq_true rfl), fun c nc => ?_⟩
      have e4 : Ex H3 (upd H3 c (.tup [.int (f ps[n]).1, .int (f ps[n]).2])) := Ex.new nc
      have hb4 := e4 _ _ (e3 _ _ hb)
      have lb : bs.length ≤ 100000 := by rw [tb.1, List.length_take]; omega
      refine ⟨_, hb4, by rw [List.length_map, sizeLine_eq]; omega, Ex.mut ((e2.trans e3).trans e4) hD, bs ++ [c], ?_, ?_⟩
      · rw [upd_same, List.map_append]
        rfl
      · have z := (((tb.ex e3).ex e4).snoc (p := c) (q := f ps[n]) upd_same).upd (ys := bs.map V.ref ++ [.ref c]) hb4
        have et : (ps.map f).take (n + 1) = (ps.map f).take n ++ [f ps[n]] := by
          rw [List.take_add_one, List.getElem?_map, List.getElem?_eq_getElem hn]
          rfl
        rw [et]
        exact z
  · rintro H' ⟨e2, bs, hb, tb⟩
    refine k Dl H' bs (fresh_back e1 hD) (e1.trans e2) hb ?_
    rw [List.length_map, ta.1, List.take_of_length_le (by rw [List.length_map]; exact Nat.le_refl _)] at tb
    exact tb
end
end Hx
/-! ### lands tilted, stretched, turned -/
namespace Hx
theorem sightsOf_congr {l m : List Int} (hl : l.length = m.length) (h : ∀ a b, 0 ≤ a → a < b → b < (l.length : Int) → (seesP l a b ↔ seesP m a b)) : sightsOf l = sightsOf m := by
  have hb : ∀ a b, 0 ≤ a → a < b → b < (l.length : Int) → seesB l a b = seesB m a b := fun a b h0 h1 h2 => by
    cases e : seesB m a b with
    | true => exact seesB_iff.mpr ((h a b h0 h1 h2).mpr (seesB_iff.mp e))
    | false =>
      cases e2 : seesB l a b with
      | false => rfl
      | true =>
        have z := seesB_iff.mpr ((h a b h0 h1 h2).mp (seesB_iff.mp e2))
        rw [e] at z
        cases z
  unfold sightsOf flatP
  rw [← hl]
  have key : ∀ k ∈ List.range (((l.length : Nat) : Int)).toNat, aheadOf l (k : Int) = aheadOf m (k : Int) := by
    intro k hk
    have hk := List.mem_range.mp hk
    unfold aheadOf aheadN
    rw [← hl]
    refine List.filter_congr fun x hx => ?_
    obtain ⟨j, hj, rfl⟩ := List.mem_map.mp hx
    have hj := List.mem_range.mp hj
    exact hb _ _ (by omega) (by omega) (by omega)
  rw [List.flatMap_def, List.flatMap_def]
  congr 1
  exact List.map_congr_left fun k hk => by dsimp only; rw [key k hk]
theorem aheadOf_sorted (land : List Int) (a : Int) : (aheadOf land a).Pairwise (· < ·) := by
  unfold aheadOf aheadN
  refine List.Pairwise.filter _ ?_
  rw [List.pairwise_map]
  exact List.pairwise_lt_range.imp fun {x y} h => by omega
theorem sightsOf_sorted (land : List Int) : (sightsOf land).Pairwise ltq := by
  unfold sightsOf flatP
  rw [List.pairwise_flatMap]
  constructor
  · intro k _
    rw [List.pairwise_map]
    exact (aheadOf_sorted land k).imp fun {x y} h => .inr ⟨rfl, h⟩
  · refine List.pairwise_lt_range.imp fun {x y} h => ?_
    intro p hp q hq
    obtain ⟨b, _, rfl⟩ := List.mem_map.mp hp
    obtain ⟨c, _, rfl⟩ := List.mem_map.mp hq
    exact .inl (by show (x : Int) < (y : Int); omega)
theorem ltq_nodup {ps : List (Int × Int)} (h : ps.Pairwise ltq) : ps.Nodup := h.imp fun {x y} z e => by
  subst e
  unfold ltq at z
  omega
theorem cel_range {g : Nat → Int} {n : Nat} {i : Int} (h0 : 0 ≤ i) (h : i < (n : Int)) : cel ((List.range n).map g) i = g i.toNat := by
  unfold cel
  rw [List.getD_eq_getElem?_getD, List.getElem?_map, List.getElem?_range (by omega)]
  rfl
theorem cel_map {f : Int → Int} {l : List Int} {i : Int} (h0 : 0 ≤ i) (h : i < (l.length : Int)) : cel (l.map f) i = f (cel l i) := by
  unfold cel
  rw [List.getD_eq_getElem?_getD, List.getD_eq_getElem?_getD, List.getElem?_map, List.getElem?_eq_getElem (by omega)]
  rfl
def tiltedOf (land : List Int) (by_ more : Int) : List Int := (List.range land.length).map fun (k : Nat) => cel land (k : Int) + by_ * (k : Int) + more
def turnedOf (land : List Int) : List Int := (List.range land.length).map fun (k : Nat) => cel land ((land.length : Int) - 1 - (k : Int))
theorem sights_tilted (land : List Int) (b m : Int) : sightsOf (tiltedOf land b m) = sightsOf land := by
  have hl : (tiltedOf land b m).length = land.length := by unfold tiltedOf; rw [List.length_map, List.length_range]
  refine sightsOf_congr hl fun x y h0 h1 h2 => ?_
  rw [hl] at h2
  have hc : ∀ i, 0 ≤ i → i < (land.length : Int) → cel (tiltedOf land b m) i = cel land i + b * i + m := fun i h0 h => by
    unfold tiltedOf
    rw [cel_range h0 h]
    have e : ((i.toNat : Nat) : Int) = i := by omega
    rw [e]
  unfold seesP lowB
  constructor
  · intro h k k1 k2
    have z := h k k1 k2
    rw [hc k (by omega) (by omega), hc x (by omega) (by omega), hc y (by omega) (by omega)] at z
    grind
  · intro h k k1 k2
    have z := h k k1 k2
    rw [hc k (by omega) (by omega), hc x (by omega) (by omega), hc y (by omega) (by omega)]
    grind
theorem sights_stretched (land : List Int) (t : Int) (ht : 0 < t) : sightsOf (land.map (· * t)) = sightsOf land := by
  have hl : (land.map (· * t)).length = land.length := List.length_map ..
  refine sightsOf_congr hl fun x y h0 h1 h2 => ?_
  rw [hl] at h2
  unfold seesP lowB
  constructor
  · intro h k k1 k2
    have z := h k k1 k2
    rw [cel_map (by omega) (by omega), cel_map (by omega) (by omega), cel_map (by omega) (by omega)] at z
    have e1 : (cel land k * t - cel land x * t) * (y - x) = ((cel land k - cel land x) * (y - x)) * t := by grind
    have e2 : (cel land y * t - cel land x * t) * (k - x) = ((cel land y - cel land x) * (k - x)) * t := by grind
    rw [e1, e2] at z
    exact Int.lt_of_mul_lt_mul_right z (by omega)
  · intro h k k1 k2
    have z := h k k1 k2
    rw [cel_map (by omega) (by omega), cel_map (by omega) (by omega), cel_map (by omega) (by omega)]
    have e1 : (cel land k * t - cel land x * t) * (y - x) = ((cel land k - cel land x) * (y - x)) * t := by grind
    have e2 : (cel land y * t - cel land x * t) * (k - x) = ((cel land y - cel land x) * (k - x)) * t := by grind
    rw [e1, e2]
    exact Int.mul_lt_mul_of_pos_right z ht
theorem sees_turned (land : List Int) {a b : Int} (h0 : 0 ≤ a) (h1 : a < b) (h2 : b < (land.length : Int)) : seesP (turnedOf land) a b ↔ seesP land ((land.length : Int) - 1 - b) ((land.length : Int) - 1 - a) := by
  have hc : ∀ i, 0 ≤ i → i < (land.length : Int) → cel (turnedOf land) i = cel land ((land.length : Int) - 1 - i) := fun i h0 h => by
    unfold turnedOf
    rw [cel_range h0 h]
    have e : ((i.toNat : Nat) : Int) = i := by omega
    rw [e]
  unfold seesP lowB
  constructor
  · intro h k k1 k2
    have z := h ((land.length : Int) - 1 - k) (by omega) (by omega)
    rw [hc _ (by omega) (by omega), hc _ (by omega) (by omega), hc _ (by omega) (by omega)] at z
    have e : (land.length : Int) - 1 - ((land.length : Int) - 1 - k) = k := by omega
    rw [e] at z
    grind
  · intro h k k1 k2
    have z := h ((land.length : Int) - 1 - k) (by omega) (by omega)
    rw [hc _ (by omega) (by omega), hc _ (by omega) (by omega), hc _ (by omega) (by omega)]
    grind
theorem sights_turned (land : List Int) : (sightsOf (turnedOf land)).Perm ((sightsOf land).map fun q => ((land.length : Int) - 1 - q.2, (land.length : Int) - 1 - q.1)) := by
  have hl : (turnedOf land).length = land.length := by unfold turnedOf; rw [List.length_map, List.length_range]
  refine (List.perm_ext_iff_of_nodup (ltq_nodup (sightsOf_sorted _)) ?_).mpr fun q => ?_
  · refine List.pairwise_map.mpr ((ltq_nodup (sightsOf_sorted land)).imp fun {x y} h e => h ?_)
    have e1 := congrArg Prod.fst e
    have e2 := congrArg Prod.snd e
    simp only at e1 e2
    exact Prod.ext (by omega) (by omega)
  · obtain ⟨a, b⟩ := q
    rw [mem_sightsOf, hl, List.mem_map]
    constructor
    · rintro ⟨h0, h1, h2, h3⟩
      refine ⟨((land.length : Int) - 1 - b, (land.length : Int) - 1 - a), mem_sightsOf.mpr ⟨by omega, by omega, by omega, (sees_turned land h0 h1 h2).mp h3⟩, ?_⟩
      exact Prod.ext (by simp only; omega) (by simp only; omega)
    · rintro ⟨⟨c, d⟩, hm, e⟩
      obtain ⟨h0, h1, h2, h3⟩ := mem_sightsOf.mp hm
      have e1 : (land.length : Int) - 1 - d = a := congrArg Prod.fst e
      have e2 : (land.length : Int) - 1 - c = b := congrArg Prod.snd e
      have e3 : (land.length : Int) - 1 - b = c := by omega
      have e4 : (land.length : Int) - 1 - a = d := by omega
      refine ⟨by omega, by omega, by omega, (sees_turned land (by omega) (by omega) (by omega)).mpr ?_⟩
      rw [e3, e4]
      exact h3
end Hx
namespace Hx
open PySem PySem.Spec PyProof.Rows L2 Evl
theorem ep_sightsN {K : PySem.W.Frag} {σ : L2.St} {H : Hp} {tl : TE} {E : XK} {land : List Int} (h : EvL tl σ H (land.map V.int)) (h3 : land.length ≤ 1000) : EvP (tCall (spP (RSights K)) [] E (tCons tl tNil)) σ H (sightsOf land) :=
  fun H0 e0 Q q => h H0 e0 _ fun l H1 nl e1 h1 => ⟨sightsOf land, ⟨l, land, rfl, h3, sq_of h1, rfl⟩, fun p H2 as np e2 h2 t2 => q p H2 as (fresh_back e1 np) (e1.trans e2) h2 t2⟩
end Hx
namespace Hx
theorem flatP_len {row : Nat → List Int} {m : Nat} (h : ∀ k, (row k).length ≤ m) : ∀ n, (flatP row n).length ≤ n * m
  | 0 => Nat.zero_le _
  | n + 1 => by
    have z := flatP_len h n
    have y := h n
    rw [flatP_succ, List.length_append, List.length_map, Nat.succ_mul]
    omega
theorem aheadOf_len (land : List Int) (a : Nat) : (aheadOf land (a : Int)).length ≤ land.length := by
  have z := aheadN_len land (a : Int) ((land.length : Int) - ((a : Int) + 1)).toNat
  unfold aheadOf
  omega
theorem sightsOf_len (land : List Int) : (sightsOf land).length ≤ land.length * land.length := by
  have z := flatP_len (row := fun k => aheadOf land (k : Int)) (fun k => aheadOf_len land k) ((land.length : Nat) : Int).toNat
  have e : ((land.length : Nat) : Int).toNat = land.length := by omega
  unfold sightsOf
  rw [e] at z ⊢
  exact z
end Hx
/-! A list turned round; defs that refuse; the classes of refusals. -/
namespace Hx
open PySem PySem.Spec PyProof.Rows L2 Evl
theorem Vals.rev : ∀ {xs : List V} {us : List Value}, L2.Vals xs us → L2.Vals xs.reverse us.reverse
  | _, _, .nil => .nil
  | _, _, .cons r t => by
    rw [List.reverse_cons, List.reverse_cons]
    exact L2.Vals.append (Vals.rev t) (.cons r .nil)
section
variable {X : Cx}
/-- xs[::-1] -/
def tBack (K : PySem.W.Frag) (te : TE) : TE := fun σ H Q => te σ H fun x H1 => ∃ a xs, x = .ref a ∧ SqL K H1 a xs ∧ ∀ p, H1 p = none → Q (.ref p) (upd H1 p (.lst xs.reverse))
theorem pe_back {e : Expr} {te : TE} {p1 p2 p3 pos : Pos} {j : Nat} (he : PE X e te) : PE X (.Subscript e (.Slice none none (some (.UnaryOp .USub (.Constant (.int 1) j p1) p2)) p3) pos) (tBack X.K te) := by
  refine ⟨fun pins s σ H Q I h => ?_⟩
  refine Subscript_ (thn (he.run pins s σ H _ I h) fun v s1 ⟨x, H1, I1, r1, q1⟩ => ?_)
  obtain ⟨a, xs, rfl, hx, q⟩ := q1
  have hst : PO X (some (.UnaryOp .USub (.Constant (.int 1) j p1) p2)) (tPart (tUn (rU fun i => .int (-i)) (tC (.int 1)))) := po_some (pe_un un_neg pe_int)
  refine wpAny_Slice ?_
  rw [evalPart_none]
  refine wpAny_pure (wpAny_pure ?_)
  refine thn (hst.run pins s1 σ H1 (fun o H2 => o = some (-1) ∧ H2 = H1) I1 ⟨1, rfl, -1, rfl, rfl, rfl⟩) fun vk s2 ⟨o, H2, I2, pk, eo, eH⟩ => ?_
  subst eo eH
  have I4 : Inv X pins σ H2 { s2 with heap := s2.heap.push { cls := .type "slice", data := .fields #[.none, .none, vk] } } := I2.kept (t' := s2.toks) fun b ob q => Heap.get?_push_of_some _ q
  cases r1
  obtain ⟨its, r, ht, hz⟩ := I4.list hx
  have hlen := r.length
  show wpAny (model X.prog X.w) X.A (subscriptTail e (.Slice none none (some (.UnaryOp .USub (.Constant (.int 1) j p1) p2)) p3) (.ref a) (.ref s2.heap.objs.size)) (EP X pins σ Q) X.xe { s2 with heap := s2.heap.push { cls := .type "slice", data := .fields #[.none, .none, vk] } }
  refine tail_any (ops := [.ref a, .ref s2.heap.objs.size]) ht.isList.typeIs slot_list_getitem.lookup ?_ (by with_unfolding_all rfl)
  refine wpAny_getItem_list_slice ht.isList (Heap.IsSliceOf.new ..) .none .none pk (by decide) ?_ (by rw [List.size_toArray] <;> omega)
  rw [PySem.W.krv_pick]
  refine ⟨.ref _, _, I4.laid (t' := s2.toks) (o := .lst xs.reverse) (fun b ob q => Heap.get?_push_of_some _ q) (Nat.le_refl _) ?_, rfl, q _ (I4.hok.fresh (Nat.le_refl _))⟩
  exact ⟨by rw [List.length_reverse]; exact hz, _, 0, Vals.rev r, Heap.get?_push_size _ rfl⟩
end
end Hx
namespace Hx
open PySem PySem.Spec PyProof.Rows L2 Evl
/-- a class of refusals: one of the module's own over ValueError, without more -/
structure ExK (K : PySem.W.Frag) (mg : Str → Option Value) (x : Str) (C : Addr) : Prop where
  g : mg x = some (.ref C)
  x : PySem.W.excIn K C [.type "ValueError", .type "Exception", .type "BaseException", .type "object"] "ValueError.__new__" = true
  k : PySem.W.keepIn K (.ref C) = true
  b : PySem.W.subIn K (.ref C) (.type "BaseException") = some true
  t : PySem.W.typeIn K (.ref C) = some (.type "type")
  d : PySem.W.hasDictIn K C = true
  s : PySem.W.subIn K (.ref C) (.ref C) = some true
/-- a def of the module that keeps a promise, and may refuse -/
structure CalX (P : Program) (w : World) (K : PySem.W.Frag) (mg : Str → Option Value) (base : Heap) (x : Str) (k : Nat) (ps : List Str) (sp : Sp) : Prop where
  ex : ∃ f fd, FnOk P w K mg base (L2.CX P w) k f fd ps sp ∧ mg x = some (.ref f) ∧ PySem.W.keepIn K (.ref f) = true ∧ Binds K fd ps []
section
variable {X : Cx} {x : Str} {k j : Nat} {ps : List Str} {sp : Sp} {p pos : Pos} {e : Expr} {es : List Expr} {t : TA}
/-- called where a refusal is let through to W -/
theorem pe_calX {W : WX} (C : CalX X.prog X.w X.K X.mg X.base x k ps sp) (hr : Room j X.A) (tk : Takes X W) (ha : PA X (e :: es) t) (hk : k ≤ j := by decide) (hg : Gl X x := by rfl)
    (hdb : (x == ("__debug__" : Str)) = false := by decide) (he : starEach (e :: es) X.env = (false, eval e X.env) :: starEach es X.env := by rfl) (hpl : (backTo pos (starEach es X.env)).any (·.1) = false := by rfl) :
    PE X (.Call (.Name x p) (e :: es) [] pos) (tCallS sp (WE W) t) := by
  obtain ⟨f, fd, F, hm, kp, b⟩ := C.ex
  exact pe_callS F (hr.mono hk) hg hm kp b (fun σ => passAt tk σ) ha hdb he hpl
/-- called where it refuses nothing -/
theorem pe_cal0 (C : CalX X.prog X.w X.K X.mg X.base x k ps sp) (hr : Room j X.A) (ha : PA X (e :: es) t) (hk : k ≤ j := by decide) (hg : Gl X x := by rfl)
    (hdb : (x == ("__debug__" : Str)) = false := by decide) (he : starEach (e :: es) X.env = (false, eval e X.env) :: starEach es X.env := by rfl) (hpl : (backTo pos (starEach es X.env)).any (·.1) = false := by rfl) :
    PE X (.Call (.Name x p) (e :: es) [] pos) (tCall sp [] E0 t) := by
  obtain ⟨f, fd, F, hm, kp, b⟩ := C.ex
  exact pe_call F (hr.mono hk) hg hm kp b .nil passL ha hdb he hpl
end
/-- a value, or a refusal of the class at C -/
def spVX (RV : List V → Hp → V → Prop) (RE : List V → Hp → Addr → Prop) : Sp := fun vs H Q E => (∃ v, RV vs H v ∧ RetV v H Q) ∨ (∃ C, RE vs H C ∧ ∀ H', Ex H H' → E (.ref C) none H')
def spLX (RV : List V → Hp → List V → Prop) (RE : List V → Hp → Addr → Prop) : Sp := fun vs H Q E => (∃ v, RV vs H v ∧ RetL v H Q) ∨ (∃ C, RE vs H C ∧ ∀ H', Ex H H' → E (.ref C) none H')
section
variable {K : PySem.W.Frag} {σ : L2.St} {H : Hp} {ta : TA} {vs xs : List V} {z : V} {W : WX} {C : Addr} {Q : VK} {RE : List V → Hp → Addr → Prop} {RL : List V → Hp → List V → Prop} {RV : List V → Hp → V → Prop} {E : XK}
theorem ev_calX (h : EvA ta σ H vs) (hs : ∀ H1, Ex H H1 → RV vs H1 z) : Ev (tCallS (spVX RV RE) (WE W) ta) σ H z := fun H1 e Q q => h H1 e _ fun H2 e2 => .inl ⟨z, hs H2 (e.trans e2), fun H3 e3 => q H3 (e2.trans e3)⟩
theorem ev_cal0 (h : EvA ta σ H vs) (hs : ∀ H1, Ex H H1 → RV vs H1 z) : Ev (tCall (spVX RV RE) [] E ta) σ H z := fun H1 e Q q => h H1 e _ fun H2 e2 => .inl ⟨z, by rw [List.append_nil]; exact hs H2 (e.trans e2), fun H3 e3 => q H3 (e2.trans e3)⟩
theorem el_calX (h : EvA ta σ H vs) (hs : ∀ H1, Ex H H1 → RL vs H1 xs) : EvL (tCallS (spLX RL RE) (WE W) ta) σ H xs := fun H1 e Q q => h H1 e _ fun H2 e2 => .inl ⟨xs, hs H2 (e.trans e2), fun p H3 hp e3 h3 => q p H3 (fresh_back e2 hp) (e2.trans e3) h3⟩
theorem el_cal0 (h : EvA ta σ H vs) (hs : ∀ H1, Ex H H1 → RL vs H1 xs) : EvL (tCall (spLX RL RE) [] E ta) σ H xs := fun H1 e Q q => h H1 e _ fun H2 e2 => .inl ⟨xs, by rw [List.append_nil]; exact hs H2 (e.trans e2), fun p H3 hp e3 h3 => q p H3 (fresh_back e2 hp) (e2.trans e3) h3⟩
theorem rx_calV (h : EvA ta σ H vs) (hs : ∀ H1, Ex H H1 → RE vs H1 C) (k : ∀ H1, Ex H H1 → W (.ref C) none σ H1) : tCallS (spVX RV RE) (WE W) ta σ H Q := h H (Ex.refl H) _ fun H2 e2 => .inr ⟨C, hs H2 e2, fun H3 e3 => k H3 (e2.trans e3)⟩
theorem rx_calL (h : EvA ta σ H vs) (hs : ∀ H1, Ex H H1 → RE vs H1 C) (k : ∀ H1, Ex H H1 → W (.ref C) none σ H1) : tCallS (spLX RL RE) (WE W) ta σ H Q := h H (Ex.refl H) _ fun H2 e2 => .inr ⟨C, hs H2 e2, fun H3 e3 => k H3 (e2.trans e3)⟩
end
/-- no place of a land of n hills -/
inductive BadPl (H : Hp) (n : Nat) : V → Prop where
  | int (i : Int) (h : i < 0 ∨ (n : Int) ≤ i) : BadPl H n (.int i)
  | non : BadPl H n .non
  | bl (b : Bool) : BadPl H n (.bl b)
  | str (s : Str) : BadPl H n (.str s)
  | tup (a : Addr) (xs : List V) (h : H a = some (.tup xs)) : BadPl H n (.ref a)
  | lst (a : Addr) (xs : List V) (h : H a = some (.lst xs)) : BadPl H n (.ref a)
theorem BadPl.ex {H H' : Hp} {n : Nat} {v : V} (e : Ex H H') (h : BadPl H n v) : BadPl H' n v := by
  cases h with
  | int i h => exact .int i h
  | non => exact .non
  | bl b => exact .bl b
  | str s => exact .str s
  | tup a xs h => exact .tup a xs (e _ _ h)
  | lst a xs h => exact .lst a xs (e _ _ h)
def RPlace (K : PySem.W.Frag) (vs : List V) (H : Hp) (v : V) : Prop := ∃ (l : Addr) (land : List Int) (i : Int), vs = [.ref l, .int i] ∧ SqL K H l (land.map V.int) ∧ 0 ≤ i ∧ i < (land.length : Int) ∧ v = .non
def RNoPlace (K : PySem.W.Frag) (N : Addr) (vs : List V) (H : Hp) (C : Addr) : Prop := ∃ (l : Addr) (land : List Int) (x : V), vs = [.ref l, x] ∧ SqL K H l (land.map V.int) ∧ BadPl H land.length x ∧ C = N
end Hx

namespace Hx
open PySem PySem.Spec PyProof.Rows L2 Evl
/-- an except clause over that class meets its own refusals -/
theorem ExK.te {K : PySem.W.Frag} {mg : Str → Option Value} {x : Str} {C : Addr} (X : ExK K mg x C) : PySem.W.exmOne K (.ref C) (.ref C) = some true := PySem.W.exm_ref X.b X.d X.t X.s
section
variable {K : PySem.W.Frag} {σ : L2.St} {H : Hp} {te : TE} {tr ta : TA} {x : V} {xs : List V} {P : List V → Hp → Prop} {D : Ends} {tz : TS}
/-! ### arguments of which some are new tuples -/
def EvAX (ta : TA) (σ : L2.St) (H : Hp) (P : List V → Hp → Prop) : Prop := ∀ H1, Ex H H1 → ∀ Q : List V → Hp → Prop, (∀ vs H2, Ex H1 H2 → P vs H2 → Q vs H2) → ta σ H1 Q
theorem eax_cons (h : Ev te σ H x) (hr : EvAX tr σ H P) : EvAX (tCons te tr) σ H (fun vs H2 => ∃ r, vs = x :: r ∧ P r H2) := fun H1 e1 Q q =>
  h H1 e1 _ fun H2 e2 => hr H2 (e1.trans e2) _ fun r H3 e3 p => q (x :: r) H3 (e2.trans e3) ⟨r, rfl, p⟩
theorem eax_lastU (h : EvU te σ H xs) : EvAX (tCons te tNil) σ H (fun vs H2 => ∃ p, vs = [.ref p] ∧ H2 p = some (.tup xs)) := fun H1 e1 Q q =>
  h H1 e1 _ fun p H2 _ e2 hp => q [.ref p] H2 e2 ⟨p, rfl, hp⟩
theorem q_asgLX {i : Nat} (h : EvAX ta σ H P) (hl : ∀ vs H2, P vs H2 → vs.length ≤ 100000) (k : ∀ p vs H1 H2, P vs H1 → Ex H H2 → Ex H1 H2 → H2 p = some (.lst vs) → tz D (σ.set i (some (.ref p))) H2) : tSeq (tAsg (tLst ta) (gName i)) tz D σ H :=
  h H (Ex.refl H) _ fun vs H1 e1 p => ⟨sz_of (hl vs H1 p), fun l nl => k l vs H1 _ p (e1.trans (Ex.new nl)) (Ex.new nl) upd_same⟩
theorem atI_in {vs : List V} {i : Int} (h0 : 0 ≤ i) (h : i < (vs.length : Int)) : ∃ v, atI vs i = some v ∧ v ∈ vs := by
  have h1 : i.toNat < vs.length := by omega
  have e : i = ((i.toNat : Nat) : Int) := by omega
  refine ⟨vs[i.toNat], ?_, List.getElem_mem h1⟩
  have z := atI_nat (List.getElem?_eq_getElem h1)
  rw [← e] at z
  exact z
theorem ev_all {bs : List Bool} (h : EvL te σ H (bs.map V.bl)) : Ev (tCB (rAll K) (tCons te tNil)) σ H (.bl (bs.all id)) := fun H1 e1 Q q =>
  h H1 e1 _ fun p H2 _ e2 hp => ⟨p, bs, rfl, sq_of hp, q H2 e2⟩
end
end Hx
namespace Hx
open PySem PySem.Spec PyProof.Rows L2 Evl
theorem el_catV {σ : L2.St} {H : Hp} {ta tb : TE} {p : Addr} {xs ys zs : List V} (ha : Ev ta σ H (.ref p)) (hp : H p = some (.lst xs)) (hb : EvL tb σ H ys) (e : zs = xs ++ ys) (hz : xs.length + ys.length ≤ 100000) : EvL (tOp rCat ta tb) σ H zs := fun H1 e1 Q q =>
  ha H1 e1 _ fun H2 e2 => hb H2 (e1.trans e2) _ fun r H3 nr e3 hr => ⟨p, r, xs, ys, rfl, rfl, e3 _ _ (e2 _ _ (e1 _ _ hp)), hr, sz_of hz, fun l hl => e ▸ q l _ (fresh_back (e2.trans e3) hl) ((e2.trans e3).trans (Ex.new hl)) (e ▸ upd_same)⟩
end Hx

namespace Hx
open PySem PySem.Spec PyProof.Rows L2 Evl
/-- no whole number -/
inductive NoInt (H : Hp) : V → Prop where
  | non : NoInt H .non
  | bl (b : Bool) : NoInt H (.bl b)
  | str (s : Str) : NoInt H (.str s)
  | tup (a : Addr) (xs : List V) (h : H a = some (.tup xs)) : NoInt H (.ref a)
  | lst (a : Addr) (xs : List V) (h : H a = some (.lst xs)) : NoInt H (.ref a)
theorem NoInt.ex {H H' : Hp} {v : V} (e : Ex H H') (h : NoInt H v) : NoInt H' v := by
  cases h with
  | non => exact .non
  | bl b => exact .bl b
  | str s => exact .str s
  | tup a xs h => exact .tup a xs (e _ _ h)
  | lst a xs h => exact .lst a xs (e _ _ h)
theorem BadPl.int_or {H : Hp} {n : Nat} {v : V} (h : BadPl H n v) : (∃ i : Int, v = .int i ∧ (i < 0 ∨ (n : Int) ≤ i)) ∨ NoInt H v := by
  cases h with
  | int i h => exact .inl ⟨i, rfl, h⟩
  | non => exact .inr .non
  | bl b => exact .inr (.bl b)
  | str s => exact .inr (.str s)
  | tup a xs h => exact .inr (.tup a xs h)
  | lst a xs h => exact .inr (.lst a xs h)
def RWholeV (vs : List V) (H : Hp) (v : V) : Prop := ∃ x, vs = [x] ∧ ((∃ i, x = .int i ∧ v = .bl true) ∨ (NoInt H x ∧ v = .bl false))
section
variable {K : PySem.W.Frag} {σ : L2.St} {H : Hp} {ta : TA} {x : V} {E : XK}
theorem ev_isW {i : Int} (h : EvA ta σ H [.int i]) : Ev (tCall (spV RWholeV) [] E ta) σ H (.bl true) := ev_cal h fun _ _ => ⟨_, rfl, .inl ⟨i, rfl, rfl⟩⟩
theorem ev_isN (h : EvA ta σ H [x]) (hx : NoInt H x) : Ev (tCall (spV RWholeV) [] E ta) σ H (.bl false) := ev_cal h fun _ e => ⟨_, rfl, .inr ⟨hx.ex e, rfl⟩⟩
end
end Hx
/-! What is seen behind, and the view of a hill. -/
namespace Hx
/-- of the places a - i .. a - 1 the one from which the slope to a is least -/
def Flat (land : List Int) (a : Int) (i : Nat) (best : Int) : Prop := best < a ∧ a - i ≤ best ∧ ∀ k, k < a → a - i ≤ k → (cel land a - cel land best) * (a - k) ≤ (cel land a - cel land k) * (a - best)
theorem lt_of_flat {x y z n1 n2 n3 : Int} (h2 : 0 < n2) (h3 : 0 < n3) (h1 : 0 < n1) (a : y * n1 ≤ x * n2) (b : z * n2 < y * n3) : z * n1 < x * n3 := by
  have k1 : z * n2 * n1 < y * n3 * n1 := Int.mul_lt_mul_of_pos_right b h1
  have k2 : y * n1 * n3 ≤ x * n2 * n3 := Int.mul_le_mul_of_nonneg_right a (by omega)
  have k3 : (z * n1) * n2 < (x * n3) * n2 := by grind
  exact Int.lt_of_mul_lt_mul_right k3 (by omega)
theorem low_back {land : List Int} {p a k : Int} : lowB land p a k ↔ (cel land a - cel land p) * (a - k) < (cel land a - cel land k) * (a - p) := by
  unfold lowB
  constructor <;> intro h <;> grind
theorem flat_one (land : List Int) (a : Int) : Flat land a 1 (a - 1) := by
  refine ⟨by omega, by omega, fun k h1 h2 => ?_⟩
  have e : k = a - 1 := by omega
  rw [e]
  omega
theorem flat_yes {land : List Int} {a best p : Int} {i : Nat} (ep : p = a - 1 - i) (h : Flat land a i best) (hs : (cel land a - cel land p) * (a - best) < (cel land a - cel land best) * (a - p)) :
    Flat land a (i + 1) p ∧ seesB land p a = true := by
  obtain ⟨h1, h2, h3⟩ := h
  refine ⟨⟨by omega, by omega, fun k k1 k2 => ?_⟩, seesB_iff.mpr fun k k1 k2 => low_back.mpr ?_⟩
  · by_cases e : k = p
    · rw [e]
      omega
    · exact Int.le_of_lt (lt_of_flat (n2 := a - best) (by omega) (by omega) (by omega) (h3 k k1 (by omega)) hs)
  · exact lt_of_flat (n2 := a - best) (by omega) (by omega) (by omega) (h3 k k2 (by omega)) hs
theorem flat_no {land : List Int} {a best p : Int} {i : Nat} (ep : p = a - 1 - i) (h : Flat land a i best) (hs : ¬ (cel land a - cel land p) * (a - best) < (cel land a - cel land best) * (a - p)) :
    Flat land a (i + 1) best ∧ seesB land p a = false := by
  obtain ⟨h1, h2, h3⟩ := h
  refine ⟨⟨by omega, by omega, fun k k1 k2 => ?_⟩, seesB_false (k := best) (by omega) (by omega) fun z => hs (low_back.mp z)⟩
  by_cases e : k = p
  · rw [e]
    omega
  · exact h3 k k1 (by omega)
theorem sees_prev (land : List Int) (a : Int) : seesB land (a - 1) a = true := seesB_iff.mpr fun k h1 h2 => by omega
def behindN (land : List Int) (a : Int) (i : Nat) : List Int := ((List.range i).map fun (j : Nat) => a - 1 - (j : Int)).filter fun p => seesB land p a
theorem behindN_yes {land : List Int} {a : Int} {i : Nat} (h : seesB land (a - 1 - i) a = true) : behindN land a (i + 1) = behindN land a i ++ [a - 1 - (i : Int)] := by
  unfold behindN
  rw [List.range_succ, List.map_append, List.filter_append]
  simp [h]
theorem behindN_no {land : List Int} {a : Int} {i : Nat} (h : seesB land (a - 1 - i) a = false) : behindN land a (i + 1) = behindN land a i := by
  unfold behindN
  rw [List.range_succ, List.map_append, List.filter_append]
  simp [h]
theorem behindN_len (land : List Int) (a : Int) (i : Nat) : (behindN land a i).length ≤ i := by
  unfold behindN
  have h := List.length_filter_le (fun p => seesB land p a) ((List.range i).map fun (j : Nat) => a - 1 - (j : Int))
  rw [List.length_map, List.length_range] at h
  exact h
def behindOf (land : List Int) (a : Int) : List Int := ((List.range a.toNat).map fun (j : Nat) => (j : Int)).filter fun p => seesB land p a
theorem behind_rev (land : List Int) {a : Int} (h : 0 ≤ a) : (behindN land a a.toNat).reverse = behindOf land a := by
  unfold behindN behindOf
  rw [← List.filter_reverse]
  congr 1
  refine List.ext_getElem (by simp) fun i h1 h2 => ?_
  have hi : i < a.toNat := by simpa using h2
  rw [List.getElem_reverse, List.getElem_map, List.getElem_map, List.getElem_range, List.getElem_range]
  simp only [List.length_map, List.length_range]
  omega
def viewOf (land : List Int) (a : Int) : List Int := behindOf land a ++ aheadOf land a
/-- as a plain looking through tells -/
def dueN (land : List Int) (a : Int) (n : Nat) : List Int := ((List.range n).map fun (j : Nat) => (j : Int)).filter fun b => decide (b ≠ a) && seesB land (min a b) (max a b)
theorem dueN_yes {land : List Int} {a : Int} {i : Nat} (h : (decide ((i : Int) ≠ a) && seesB land (min a (i : Int)) (max a (i : Int))) = true) : dueN land a (i + 1) = dueN land a i ++ [(i : Int)] := by
  unfold dueN
  rw [List.range_succ, List.map_append, List.filter_append, List.map_singleton, List.filter_cons, if_pos h]
  rfl
theorem dueN_no {land : List Int} {a : Int} {i : Nat} (h : (decide ((i : Int) ≠ a) && seesB land (min a (i : Int)) (max a (i : Int))) = false) : dueN land a (i + 1) = dueN land a i := by
  unfold dueN
  rw [List.range_succ, List.map_append, List.filter_append, List.map_singleton, List.filter_cons, if_neg (by rw [h]; decide)]
  simp
theorem dueN_len (land : List Int) (a : Int) (i : Nat) : (dueN land a i).length ≤ i := by
  unfold dueN
  refine Nat.le_trans (List.length_filter_le _ _) ?_
  rw [List.length_map, List.length_range]
  exact Nat.le_refl _
theorem view_due (land : List Int) {a : Int} (h0 : 0 ≤ a) (h1 : a < (land.length : Int)) : viewOf land a = dueN land a land.length := by
  unfold viewOf dueN
  have hn : land.length = a.toNat + (1 + (land.length - a.toNat - 1)) := by omega
  rw [hn, List.range_add, List.map_append, List.filter_append]
  congr 1
  · unfold behindOf
    refine List.filter_congr fun x hx => ?_
    obtain ⟨j, hj, rfl⟩ := List.mem_map.mp hx
    have hj := List.mem_range.mp hj
    rw [decide_eq_true (show ((j : Int) ≠ a) by omega), Bool.true_and, Int.min_eq_right (by omega), Int.max_eq_left (by omega)]
  · rw [List.range_add, List.map_append, List.map_append, List.filter_append]
    have e0 : List.filter (fun b => decide (b ≠ a) && seesB land (min a b) (max a b)) (List.map (fun (j : Nat) => (j : Int)) (List.map (fun x => a.toNat + x) (List.range 1))) = [] := by
      refine List.filter_eq_nil_iff.mpr fun x hx => ?_
      have ex : x = a := by
        obtain ⟨j, hj, rfl⟩ := List.mem_map.mp hx
        obtain ⟨k, hk, rfl⟩ := List.mem_map.mp hj
        have hk := List.mem_range.mp hk
        omega
      rw [decide_eq_false (fun z => z ex), Bool.false_and]
      decide
    rw [e0, List.nil_append]
    unfold aheadOf aheadN
    have em : List.map (fun (j : Nat) => (j : Int)) (List.map (fun x => a.toNat + x) (List.map (fun x => 1 + x) (List.range (land.length - a.toNat - 1)))) = (List.range ((land.length : Int) - (a + 1)).toNat).map fun (j : Nat) => a + 1 + (j : Int) := by
      rw [List.map_map, List.map_map]
      have er : ((land.length : Int) - (a + 1)).toNat = land.length - a.toNat - 1 := by omega
      rw [er]
      refine List.map_congr_left fun j _ => ?_
      simp only [Function.comp]
      omega
    rw [em]
    refine List.filter_congr fun x hx => ?_
    obtain ⟨j, hj, rfl⟩ := List.mem_map.mp hx
    rw [decide_eq_true (show (a + 1 + (j : Int) ≠ a) by omega), Bool.true_and, Int.min_eq_left (by omega), Int.max_eq_right (by omega)]
end Hx

namespace Hx
open PySem PySem.Spec PyProof.Rows L2 Evl
def RBehind (K : PySem.W.Frag) (vs : List V) (H : Hp) (xs : List V) : Prop := ∃ (l : Addr) (land : List Int) (a : Int), vs = [.ref l, .int a] ∧ 0 ≤ a ∧ a < (land.length : Int) ∧ land.length ≤ 1000 ∧ SqL K H l (land.map V.int) ∧ xs = (behindOf land a).map V.int
section
variable {K : PySem.W.Frag} {σ : L2.St} {H : Hp} {ta : TA} {te : TE} {E : XK} {D : Ends} {tu tz : TS}
theorem el_behind {l : Addr} {land : List Int} {a : Int} (h : EvA ta σ H [.ref l, .int a]) (hs : SqL K H l (land.map V.int)) (h1 : 0 ≤ a) (h2 : a < (land.length : Int)) (h3 : land.length ≤ 1000) : EvL (tCall (spL (RBehind K)) [] E ta) σ H ((behindOf land a).map V.int) :=
  el_cal h fun _ e => ⟨l, land, a, rfl, h1, h2, h3, ex_l e hs, rfl⟩
theorem el_back {a : Addr} {xs : List V} (h : Ev te σ H (.ref a)) (hs : SqL K H a xs) : EvL (tBack K te) σ H xs.reverse := fun H1 e Q q => h H1 e _ fun H2 e2 => ⟨a, xs, rfl, ex_l (e.trans e2) hs, fun p hp => q p _ (fresh_back e2 hp) (e2.trans (Ex.new hp)) upd_same⟩
/-- for x in range(lo, -1, -1) -/
theorem q_forDown {j : Nat} {lo : Int} (h : EvA ta σ H [.int lo, .int (-1), .int (-1)]) (hn : -1 ≤ lo ∧ lo ≤ 100000) (Pv : Nat → L2.St → Hp → Prop) (h0 : ∀ H1, Ex H H1 → Pv 0 σ H1)
    (hs : ∀ (i : Nat) σ' H', (i : Int) ≤ lo → Pv i σ' H' → tu { D with nx := Pv (i + 1), ct := Pv (i + 1), bk := tz D } (σ'.set j (some (.int (lo - (i : Int))))) H') (hd : ∀ σ' H', Pv (lo + 1).toNat σ' H' → tz D σ' H') : tSeq (tFor (iRng3 ta) (gName j) tu) tz D σ H :=
  h H (Ex.refl H) _ fun H1 e => ⟨lo, -1, -1, (lo - -1).toNat, rfl, RgC.neg (by omega) (by omega) (by omega) (by omega), for_rangeC (lo := lo) (c := -1) (n := (lo - -1).toNat) Pv (h0 H1 e) (fun i σ' H' hi p => by
    have e0 : lo + (i : Int) * (-1) = lo - (i : Int) := by omega
    show tu { D with nx := Pv (i + 1), ct := Pv (i + 1), bk := tz D } (σ'.set j (some (.int (lo + (i : Int) * (-1))))) H'
    rw [e0]
    exact hs i σ' H' (by omega) p) (fun σ' H' p => hd σ' H' (by have z : (lo - -1).toNat = (lo + 1).toNat := by omega
                                                                rw [z] at p; exact p))⟩
end
end Hx
namespace Hx
open PySem PySem.Spec PyProof.Rows L2 Evl
def RView (K : PySem.W.Frag) (vs : List V) (H : Hp) (xs : List V) : Prop := ∃ (l : Addr) (land : List Int) (a : Int), vs = [.ref l, .int a] ∧ 0 ≤ a ∧ a < (land.length : Int) ∧ land.length ≤ 1000 ∧ SqL K H l (land.map V.int) ∧ xs = (viewOf land a).map V.int
theorem el_catN {σ : L2.St} {H : Hp} {ta tb : TE} {xs ys zs : List V} (ha : EvL ta σ H xs) (hb : EvL tb σ H ys) (e : zs = xs ++ ys) (hz : xs.length + ys.length ≤ 100000) : EvL (tOp rCat ta tb) σ H zs := fun H1 e1 Q q =>
  ha H1 e1 _ fun p H2 np e2 hp => hb H2 (e1.trans e2) _ fun r H3 nr e3 hr => ⟨p, r, xs, ys, rfl, rfl, e3 _ _ hp, hr, sz_of hz, fun l hl => e ▸ q l _ (fresh_back (e2.trans e3) hl) ((e2.trans e3).trans (Ex.new hl)) (e ▸ upd_same)⟩
end Hx
namespace Hx
open PySem PySem.Spec PyProof.Rows L2 Evl
def RSeenBy (K : PySem.W.Frag) (vs : List V) (H : Hp) (v : V) : Prop := ∃ (l : Addr) (land : List Int) (a b : Int), vs = [.ref l, .int a, .int b] ∧ 0 ≤ a ∧ a < b ∧ b < (land.length : Int) ∧ land.length ≤ 1000 ∧ SqL K H l (land.map V.int) ∧ v = .bl (seesB land a b)
section
variable {K : PySem.W.Frag} {σ : L2.St} {H : Hp} {ta : TA} {E : XK}
theorem ev_seen_by {l : Addr} {land : List Int} {a b : Int} (h : EvA ta σ H [.ref l, .int a, .int b]) (hs : SqL K H l (land.map V.int)) (h0 : 0 ≤ a) (h1 : a < b) (h2 : b < (land.length : Int)) (h3 : land.length ≤ 1000) : Ev (tCall (spV (RSeenBy K)) [] E ta) σ H (.bl (seesB land a b)) :=
  ev_cal h fun _ e => ⟨l, land, a, b, rfl, h0, h1, h2, h3, ex_l e hs, rfl⟩
theorem el_view {N l : Addr} {land : List Int} {a : Int} (h : EvA ta σ H [.ref l, .int a]) (hs : SqL K H l (land.map V.int)) (h1 : 0 ≤ a) (h2 : a < (land.length : Int)) (h3 : land.length ≤ 1000) : EvL (tCall (spLX (RView K) (RNoPlace K N)) [] E ta) σ H ((viewOf land a).map V.int) :=
  el_cal0 h fun _ e => ⟨l, land, a, rfl, h1, h2, h3, ex_l e hs, rfl⟩
end
end Hx
/-! Which hill hides two others. -/
namespace Hx
def stepB (land : List Int) (a best place : Int) : Int := if (cel land best - cel land a) * (place - a) < (cel land place - cel land a) * (best - a) then place else best
/-- the first of the steepest of the places a + 1 .. a + 1 + i -/
def steepN (land : List Int) (a : Int) : Nat → Int
  | 0 => a + 1
  | i + 1 => stepB land a (steepN land a i) (a + 2 + (i : Int))
def steepOf (land : List Int) (a b : Int) : Int := steepN land a (b - a - 1).toNat
theorem steepN_best (land : List Int) (a : Int) : ∀ i : Nat, Best land a (i + 1) (steepN land a i)
  | 0 => best_one land a
  | i + 1 => by
    have ih := steepN_best land a i
    have ep : a + 1 + ((i + 1 : Nat) : Int) = a + 2 + (i : Int) := by omega
    show Best land a (i + 1 + 1) (stepB land a (steepN land a i) (a + 2 + (i : Int)))
    unfold stepB
    by_cases h : (cel land (steepN land a i) - cel land a) * (a + 2 + (i : Int) - a) < (cel land (a + 2 + (i : Int)) - cel land a) * (steepN land a i - a)
    · rw [if_pos h]
      have z := best_yes ih (by rw [ep]; exact h)
      rw [ep] at z
      exact z.1
    · rw [if_neg h]
      exact (best_no ih (by rw [ep]; exact h)).1
theorem steepOf_best (land : List Int) {a b : Int} (h : a < b) : Best land a (b - a).toNat (steepOf land a b) := by
  have z := steepN_best land a (b - a - 1).toNat
  have e : (b - a - 1).toNat + 1 = (b - a).toNat := by omega
  rw [e] at z
  exact z
theorem steep_at (land : List Int) {a b : Int} (h : a < b) : a < steepOf land a b ∧ steepOf land a b ≤ b := by
  obtain ⟨h1, h2, _⟩ := steepOf_best land h
  exact ⟨h1, by omega⟩
/-- another than the later one is the steepest: it lies between, and not below the line -/
theorem steep_hides (land : List Int) {a b : Int} (h : a < b) (hn : steepOf land a b ≠ b) : a < steepOf land a b ∧ steepOf land a b < b ∧ ¬ lowB land a b (steepOf land a b) := by
  obtain ⟨h1, h2, h3⟩ := steepOf_best land h
  refine ⟨h1, by omega, fun z => ?_⟩
  have y := h3 b h (by omega)
  unfold lowB at z
  omega
theorem steep_sees (land : List Int) {a b : Int} (h : a < b) : steepOf land a b = b ↔ seesP land a b := by
  constructor
  · intro e
    by_cases h1 : b = a + 1
    · subst h1
      exact fun k k1 k2 => by omega
    · have hn : (b - a - 1).toNat = (b - a - 2).toNat + 1 := by omega
      have ep : a + 2 + (((b - a - 2).toNat : Nat) : Int) = b := by omega
      unfold steepOf at e
      rw [hn] at e
      have e : stepB land a (steepN land a (b - a - 2).toNat) (a + 2 + (((b - a - 2).toNat : Nat) : Int)) = b := e
      rw [ep] at e
      have ih := steepN_best land a (b - a - 2).toNat
      have ep2 : a + 1 + (((b - a - 2).toNat + 1 : Nat) : Int) = b := by omega
      unfold stepB at e
      by_cases hc : (cel land (steepN land a (b - a - 2).toNat) - cel land a) * (b - a) < (cel land b - cel land a) * (steepN land a (b - a - 2).toNat - a)
      · have z := best_yes ih (by rw [ep2]; exact hc)
        rw [ep2] at z
        exact seesB_iff.mp z.2
      · rw [if_neg hc] at e
        obtain ⟨_, k2, _⟩ := ih
        omega
  · intro hs
    by_cases e : steepOf land a b = b
    · exact e
    · obtain ⟨h1, h2, h3⟩ := steep_hides land h e
      exact absurd (hs _ h1 h2) h3
theorem steep_near (land : List Int) (a : Int) : steepOf land a (a + 1) = a + 1 := by
  unfold steepOf
  have e : (a + 1 - a - 1).toNat = 0 := by omega
  rw [e]
  rfl
end Hx
namespace Hx
open PySem PySem.Spec PyProof.Rows L2 Evl
def hidV (land : List Int) (a b : Int) : V := if steepOf land (min a b) (max a b) = max a b then .non else .int (steepOf land (min a b) (max a b))
def RSteepest (K : PySem.W.Frag) (vs : List V) (H : Hp) (v : V) : Prop := ∃ (l : Addr) (land : List Int) (a b : Int), vs = [.ref l, .int a, .int b] ∧ 0 ≤ a ∧ a < b ∧ b < (land.length : Int) ∧ land.length ≤ 1000 ∧ SqL K H l (land.map V.int) ∧ v = .int (steepOf land a b)
def RTwo (K : PySem.W.Frag) (vs : List V) (H : Hp) (v : V) : Prop := ∃ (l : Addr) (land : List Int) (a b : Int), vs = [.ref l, .int a, .int b] ∧ SqL K H l (land.map V.int) ∧ 0 ≤ a ∧ a < (land.length : Int) ∧ 0 ≤ b ∧ b < (land.length : Int) ∧ a ≠ b ∧ v = .non
/-- why two places are refused: the first, the second is none, both are one -/
inductive NoTwo (H : Hp) (n : Nat) (N S : Addr) : V → V → Addr → Prop where
  | first (x y : V) (h : BadPl H n x) : NoTwo H n N S x y N
  | second (i : Int) (y : V) (h0 : 0 ≤ i) (h1 : i < (n : Int)) (h : BadPl H n y) : NoTwo H n N S (.int i) y N
  | same (i : Int) (h0 : 0 ≤ i) (h1 : i < (n : Int)) : NoTwo H n N S (.int i) (.int i) S
theorem NoTwo.ex {H H' : Hp} {n : Nat} {N S : Addr} {x y : V} {C : Addr} (e : Ex H H') (h : NoTwo H n N S x y C) : NoTwo H' n N S x y C := by
  cases h with
  | first x y h => exact .first x y (h.ex e)
  | second i y h0 h1 h => exact .second i y h0 h1 (h.ex e)
  | same i h0 h1 => exact .same i h0 h1
def RNoTwo (K : PySem.W.Frag) (N S : Addr) (vs : List V) (H : Hp) (C : Addr) : Prop := ∃ (l : Addr) (land : List Int) (x y : V), vs = [.ref l, x, y] ∧ SqL K H l (land.map V.int) ∧ land.length ≤ 1000 ∧ NoTwo H land.length N S x y C
def RHider (K : PySem.W.Frag) (vs : List V) (H : Hp) (v : V) : Prop := ∃ (l : Addr) (land : List Int) (a b : Int), vs = [.ref l, .int a, .int b] ∧ SqL K H l (land.map V.int) ∧ land.length ≤ 1000 ∧ 0 ≤ a ∧ a < (land.length : Int) ∧ 0 ≤ b ∧ b < (land.length : Int) ∧ a ≠ b ∧ v = hidV land a b
def RSees (K : PySem.W.Frag) (vs : List V) (H : Hp) (v : V) : Prop := ∃ (l : Addr) (land : List Int) (a b : Int), vs = [.ref l, .int a, .int b] ∧ SqL K H l (land.map V.int) ∧ land.length ≤ 1000 ∧ 0 ≤ a ∧ a < (land.length : Int) ∧ 0 ≤ b ∧ b < (land.length : Int) ∧ a ≠ b ∧ v = .bl (decide (hidV land a b = .non))
section
variable {K : PySem.W.Frag} {σ : L2.St} {H : Hp} {ta : TA} {t1 t2 : TE} {E : XK}
theorem ev_steeperU {r1 n1 r2 n2 : Int} (h1 : EvU t1 σ H [.int r1, .int n1]) (h2 : EvU t2 σ H [.int r2, .int n2]) (b1 : -(2 ^ 64) < n1) (b2 : n1 < 2 ^ 64) (b3 : -(2 ^ 64) < n2) (b4 : n2 < 2 ^ 64) :
    Ev (tCall (spV (RSteeper K)) [] E (tCons t1 (tCons t2 tNil))) σ H (.bl (decide (r2 * n1 < r1 * n2))) := fun H1 e1 Q q =>
  h1 H1 e1 _ fun p1 H2 _ e2 hp1 => h2 H2 (e1.trans e2) _ fun p2 H3 _ e3 hp2 => ⟨_, ⟨p1, p2, r1, n1, r2, n2, rfl, st_of (e3 _ _ hp1), st_of hp2, b1, b2, b3, b4, rfl⟩, fun H4 e4 => q H4 ((e2.trans e3).trans e4)⟩
theorem ev_steepest {l : Addr} {land : List Int} {a b : Int} (h : EvA ta σ H [.ref l, .int a, .int b]) (hs : SqL K H l (land.map V.int)) (h0 : 0 ≤ a) (h1 : a < b) (h2 : b < (land.length : Int)) (h3 : land.length ≤ 1000) : Ev (tCall (spV (RSteepest K)) [] E ta) σ H (.int (steepOf land a b)) :=
  ev_cal h fun _ e => ⟨l, land, a, b, rfl, h0, h1, h2, h3, ex_l e hs, rfl⟩
theorem ev_hider {N S l : Addr} {land : List Int} {a b : Int} (h : EvA ta σ H [.ref l, .int a, .int b]) (hs : SqL K H l (land.map V.int)) (h3 : land.length ≤ 1000) (a0 : 0 ≤ a) (a1 : a < (land.length : Int)) (b0 : 0 ≤ b) (b1 : b < (land.length : Int)) (hn : a ≠ b) :
    Ev (tCall (spVX (RHider K) (RNoTwo K N S)) [] E ta) σ H (hidV land a b) := ev_cal0 h fun _ e => ⟨l, land, a, b, rfl, ex_l e hs, h3, a0, a1, b0, b1, hn, rfl⟩
theorem ev_sees {N S l : Addr} {land : List Int} {a b : Int} (h : EvA ta σ H [.ref l, .int a, .int b]) (hs : SqL K H l (land.map V.int)) (h3 : land.length ≤ 1000) (a0 : 0 ≤ a) (a1 : a < (land.length : Int)) (b0 : 0 ≤ b) (b1 : b < (land.length : Int)) (hn : a ≠ b) :
    Ev (tCall (spVX (RSees K) (RNoTwo K N S)) [] E ta) σ H (.bl (decide (hidV land a b = .non))) := ev_cal0 h fun _ e => ⟨l, land, a, b, rfl, ex_l e hs, h3, a0, a1, b0, b1, hn, rfl⟩
end
end Hx
/-! For the law over whole sights: a chain of three comparisons, a dict of pairs, lands on a line and on a curve. -/
namespace Hx
open PySem PySem.Spec PyProof.Rows L2 Evl
section
variable {X : Cx} {a b c d : Expr} {ta tb tc td : TE} {pos : Pos}
def tChain3 (r1 r2 r3 : R2) (ta tb tc td : TE) : TT := fun σ H Q => ta σ H fun x H1 => tb σ H1 fun y H2 => r1 x y H2 fun z H3 => ∃ k, z = .bl k ∧ (if k = true then tc σ H3 fun w H4 => r2 y w H4 fun z2 H5 => ∃ k2, z2 = .bl k2 ∧
  (if k2 = true then td σ H5 fun u H6 => r3 w u H6 fun z3 H7 => ∃ k3, z3 = .bl k3 ∧ Q k3 H7 else Q false H5) else Q false H3)
theorem pt_chain3 {o1 o2 o3 : CmpOp} {r1 r2 r3 : R2} (h1 : OpR X (compareOp o1) r1) (h2 : OpR X (compareOp o2) r2) (h3 : OpR X (compareOp o3) r3) (ha : PE X a ta) (hb : PE X b tb) (hc : PE X c tc) (hd : PE X d td)
    (hm : lastMarks [o1, o2, o3] [b, c, d] = false := by with_unfolding_all rfl) : PT X (.Compare a [o1, o2, o3] [b, c, d] pos) (tChain3 r1 r2 r3 ta tb tc td) := by
  refine ⟨fun pins s σ H Q I q0 => ?_⟩
  refine isTrue_chain (thn (ha.run pins s σ H _ I q0) fun va sa ⟨xa, Ha, Ia, ra, qa⟩ => test_link (thn (hb.run pins sa σ Ha _ Ia qa) fun vb sb ⟨xb, Hb, Ib, rb, qb⟩ => thn (h1 pins sb σ Hb xa xb va vb _ Ib ra rb qb) fun v1 s1 ⟨z1, H1, I1, e1, k1, ek1, q1⟩ => ?_)) hm
  subst ek1
  cases e1
  refine wpAny_truthy_bool ?_
  cases k1 with
  | false => exact ⟨H1, I1, q1⟩
  | true =>
    refine test_link (thn (hc.run pins s1 σ H1 _ I1 q1) fun vc sc ⟨xc, Hc, Ic, rc, qc⟩ => thn (h2 pins sc σ Hc xb xc vb vc _ Ic rb rc qc) fun v2 s2 ⟨z2, H2, I2, e2, k2, ek2, q2⟩ => ?_)
    subst ek2
    cases e2
    refine wpAny_truthy_bool ?_
    cases k2 with
    | false => exact ⟨H2, I2, q2⟩
    | true =>
      refine test_last (thn (hd.run pins s2 σ H2 _ I2 q2) fun vd sd ⟨xd, Hd, Id, rd, qd⟩ => thn (h3 pins sd σ Hd xc xd vc vd _ Id rc rd qd) fun v3 s3 ⟨z3, H3, I3, e3, k3, ek3, q3⟩ => ?_)
      subst ek3
      cases e3
      exact wpAny_truthy_bool ⟨H3, I3, q3⟩
end
section
variable {K : PySem.W.Frag} {σ : L2.St} {H : Hp} {ta tb tc td te tl : TE} {D : Ends} {tz : TS} {ps : List (Int × Int)}
theorem et_chain3 {r1 r2 r3 : R2} {x y w u : V} {k1 k2 k3 : Bool} (ha : Ev ta σ H x) (hb : Ev tb σ H y) (hc : Ev tc σ H w) (hd : Ev td σ H u) (h1 : RV r1 x y H (.bl k1)) (h2 : RV r2 y w H (.bl k2)) (h3 : RV r3 w u H (.bl k3)) : EvT (tChain3 r1 r2 r3 ta tb tc td) σ H (k1 && (k2 && k3)) := fun H1 e1 Q q =>
  ha H1 e1 _ fun H2 e2 => hb H2 (e1.trans e2) _ fun H3 e3 => h1 H3 ((e1.trans e2).trans e3) _ fun H4 e4 => ⟨k1, rfl, by
    have f4 := ((e1.trans e2).trans e3).trans e4
    have g4 := (e2.trans e3).trans e4
    cases k1 with
    | false => exact q H4 g4
    | true => exact hc H4 f4 _ fun H5 e5 => h2 H5 (f4.trans e5) _ fun H6 e6 => ⟨k2, rfl, by
        have f6 := (f4.trans e5).trans e6
        have g6 := (g4.trans e5).trans e6
        cases k2 with
        | false => exact q H6 g6
        | true => exact hd H6 f6 _ fun H7 e7 => h3 H7 (f6.trans e7) _ fun H8 e8 => ⟨k3, rfl, q H8 ((g6.trans e7).trans e8)⟩⟩⟩
theorem rv_ltP {p q : Addr} {a b : Int × Int} (h1 : SqT K H p [.int a.1, .int a.2]) (h2 : SqT K H q [.int b.1, .int b.2]) (h : ltq a b) : RV (rLtT K) (.ref p) (.ref q) H (.bl true) := fun H1 e Q k => by
  refine ⟨p, q, [a.1, a.2], [b.1, b.2], rfl, rfl, ex_t e h1, ex_t e h2, ?_⟩
  have z : HT.lexLt [a.1, a.2] [b.1, b.2] = true := by
    unfold ltq at h
    simp only [HT.lexLt]
    rcases h with h | ⟨h, h'⟩
    · simp [h]
      omega
    · simp [h, h']
      omega
  rw [z]
  exact k H1 (Ex.refl H1)
/-! ### a dict of pairs -/
def kk (q : Int × Int) : List Key := [.inl q.1, .inl q.2]
theorem kk_inj {p q : Int × Int} (h : kk p = kk q) : p = q := by
  have h1 := List.cons.inj h
  have h2 := List.cons.inj h1.2
  exact Prod.ext (Sum.inl.inj h1.1) (Sum.inl.inj h2.1)
def dicF (d : List (List Key × V)) (ps : List (Int × Int)) : List (List Key × V) := ps.foldl (fun d q => putK d (kk q) (.bl true)) d
theorem dicF_has (q : Int × Int) : ∀ (ps : List (Int × Int)) (d : List (List Key × V)), (valV (dicF d ps) (kk q)).isSome = (decide (q ∈ ps) || (valV d (kk q)).isSome)
  | [], d => by simp [dicF]
  | p :: r, d => by
    have ih := dicF_has q r (putK d (kk p) (.bl true))
    show (valV (dicF (putK d (kk p) (.bl true)) r) (kk q)).isSome = _
    rw [ih, valV_put]
    by_cases e : q = p
    · subst e
      simp
    · rw [if_neg (fun z => e (kk_inj z))]
      simp [e]
theorem dicF_len : ∀ (ps : List (Int × Int)) (d : List (List Key × V)), (dicF d ps).length ≤ d.length + ps.length
  | [], d => Nat.le_refl _
  | p :: r, d => by
    have ih := dicF_len r (putK d (kk p) (.bl true))
    have z := length_putK d (kk p) (.bl true)
    show (dicF (putK d (kk p) (.bl true)) r).length ≤ d.length + (r.length + 1)
    omega
theorem dicF_snoc (d : List (List Key × V)) (ps : List (Int × Int)) (q : Int × Int) : dicF d (ps ++ [q]) = putK (dicF d ps) (kk q) (.bl true) := by
  unfold dicF
  rw [List.foldl_append]
  rfl
theorem s_dput {td ty tv : TE} {a t : Addr} {kvs : List (List Key × V)} {q : Int × Int} {v : V} (hv : Ev tv σ H v) (hd : Ev td σ H (.ref a)) (hy : Ev ty σ H (.ref t)) (h : H a = some (.dT kvs)) (ht : H t = some (.tup [.int q.1, .int q.2])) (hz : kvs.length < 100000)
    (k : ∀ H1, Ex H H1 → D.nx σ (upd H1 a (.dT (putK kvs (kk q) v)))) : sDPut td ty tv D σ H := hv H (Ex.refl H) _ fun H1 e1 => hd H1 e1 _ fun H2 e2 => hy H2 (e1.trans e2) _ fun H3 e3 =>
  ⟨a, _, rfl, .t (k := kk q) (((e1.trans e2).trans e3) _ _ h) (((e1.trans e2).trans e3) _ _ ht) (sz_lt hz), k H3 ((e1.trans e2).trans e3)⟩
theorem et_din {ty td : TE} {a : Addr} {kvs : List (List Key × V)} {q : Int × Int} (hy : EvU ty σ H [.int q.1, .int q.2]) (hd : Ev td σ H (.ref a)) (h : H a = some (.dT kvs)) : EvT (tB (tDIn ty td)) σ H (valV kvs (kk q)).isSome := fun H1 e1 Q k =>
  hy H1 e1 _ fun t H2 _ e2 ht => hd H2 (e1.trans e2) _ fun H3 e3 => ⟨a, _, rfl, .t (k := kk q) (((e1.trans e2).trans e3) _ _ h) (e3 _ _ ht), _, rfl, k H3 (e2.trans e3)⟩
/-! ### pairs out of a range; a list of pairs and one more -/
theorem ep_lcR {ta ta2 : TA} {j : Nat} {vs : List Nat} {n : Int} (f : Nat → Int × Int) (h : EvA ta σ H [.int n]) (hn : 0 ≤ n ∧ n ≤ 40000) (hw : ∀ x, wipe ((wipe σ vs).set j (some x)) vs = wipe σ vs)
    (he : ∀ (k : Nat) H1, Ex H H1 → (k : Int) < n → EvA ta2 ((wipe σ vs).set j (some (.int (k : Int)))) H1 [.int (f k).1, .int (f k).2]) : EvP (tLc (iRng1 ta) (gName j) tYes (tTup ta2) vs) σ H ((List.range n.toNat).map f) := fun H0 e0 Q k => h H0 e0 _ fun H1 e1 => ⟨n, rfl, by omega, by omega, fun Dl hD => by
  refine lc_range (lo := 0) (n := n.toNat) (fun m H' => Ex H1 H' ∧ ∃ bs, H' Dl = some (.lst (bs.map V.ref)) ∧ Tups H' bs ((List.range m).map f)) ⟨Ex.new hD, [], upd_same, Tups.nil _⟩ ?_ ?_
  · rintro m H' hm ⟨e2, bs, hb, tb⟩
    have ez : (0 : Int) + (m : Int) = (m : Int) := Int.zero_add _
    show wipe ((wipe σ vs).set j (some (.int ((0 : Int) + (m : Int))))) vs = wipe σ vs ∧ _
    rw [ez]
    refine ⟨hw _, t_yes ?_⟩
    refine he m H' ((e0.trans e1).trans e2) (by omega) H' (Ex.refl _) _ fun H3 e3 => ⟨sz_of (Nat.le_of_ble_eq_true rfl), fun c nc => ?_⟩
    have e4 : Ex H3 (upd H3 c (.tup [.int (f m).1, .int (f m).2])) := Ex.new nc
    have hb4 := e4 _ _ (e3 _ _ hb)
    have lb : bs.length ≤ 40000 := by rw [tb.1, List.length_map, List.length_range]; omega
    refine ⟨_, hb4, by rw [List.length_map, sizeLine_eq]; omega, Ex.mut ((e2.trans e3).trans e4) hD, bs ++ [c], ?_, ?_⟩
    · rw [upd_same, List.map_append]
      rfl
    · have z := (((tb.ex e3).ex e4).snoc (p := c) (q := f m) upd_same).upd (ys := bs.map V.ref ++ [.ref c]) hb4
      rw [List.range_succ, List.map_append]
      exact z
  · rintro H' ⟨e2, bs, hb, tb⟩
    exact k Dl H' bs (fresh_back e1 hD) (e1.trans e2) hb tb⟩
theorem ep_catS {p : Addr} {te2 : TE} {a b : Int} (ha : Ev ta σ H (.ref p)) (hp : PrL H p ps) (hb : EvU te2 σ H [.int a, .int b]) (hz : ps.length ≤ 90000) : EvP (tOp rCat ta (tLst (tCons te2 tNil))) σ H (ps ++ [(a, b)]) := fun H1 e1 Q q =>
  ha H1 e1 _ fun H2 e2 => hb H2 (e1.trans e2) _ fun t H3 nt e3 ht => ⟨sz_of (Nat.le_of_ble_eq_true rfl), fun r nr => by
    obtain ⟨as, h1, h2⟩ := hp
    have f3 := (e1.trans e2).trans e3
    have e4 : Ex H3 (upd H3 r (.lst [.ref t])) := Ex.new nr
    refine ⟨p, r, as.map V.ref, [.ref t], rfl, rfl, e4 _ _ (f3 _ _ h1), upd_same, sz_of (by rw [List.length_map, h2.1, List.length_cons, List.length_nil]; omega), fun l nl => ?_⟩
    have e5 : Ex (upd H3 r (.lst [.ref t])) (upd (upd H3 r (.lst [.ref t])) l (.lst (as.map V.ref ++ [.ref t]))) := Ex.new nl
    refine q l _ (as ++ [t]) (fresh_back ((e2.trans e3).trans e4) nl) (((e2.trans e3).trans e4).trans e5) (by rw [upd_same, List.map_append]; rfl) ?_
    exact (((h2.ex f3).ex e4).ex e5).snoc (e5 _ _ (e4 _ _ ht))⟩
theorem el_copyP {p : Addr} {as : List Addr} (h : Ev te σ H (.ref p)) (hp : H p = some (.lst (as.map V.ref))) : EvL (tCB (fun xs H Q => ∃ p ys, xs = [V.ref p] ∧ (SqL K H p ys ∨ SqT K H p ys) ∧ ∀ l, H l = none → Q (.ref l) (upd H l (.lst ys))) (tCons te tNil)) σ H (as.map V.ref) :=
  el_cb (ea_cons h ea_nil) (rcl_list (sq_of hp))
end
/-! ### lands on a line and on a curve -/
def lineOf (t : Int) (n : Nat) : List Int := (List.range n).map fun (k : Nat) => t * (k : Int) + 7
def curveOf (t : Int) (n : Nat) : List Int := (List.range n).map fun (k : Nat) => (k : Int) * (k : Int) + t * (k : Int)
theorem cel_line {t : Int} {n : Nat} {i : Int} (h0 : 0 ≤ i) (h : i < (n : Int)) : cel (lineOf t n) i = t * i + 7 := by
  unfold lineOf
  rw [cel_range h0 h]
  have e : ((i.toNat : Nat) : Int) = i := by omega
  rw [e]
theorem cel_curve {t : Int} {n : Nat} {i : Int} (h0 : 0 ≤ i) (h : i < (n : Int)) : cel (curveOf t n) i = i * i + t * i := by
  unfold curveOf
  rw [cel_range h0 h]
  have e : ((i.toNat : Nat) : Int) = i := by omega
  rw [e]
theorem line_ahead (t : Int) (n : Nat) {a : Int} (h0 : 0 ≤ a) : ∀ m : Nat, a + 1 + (m : Int) ≤ (n : Int) → aheadN (lineOf t n) a m = if m = 0 then [] else [a + 1]
  | 0, _ => rfl
  | 1, _ => by
    have z := aheadN_yes (i := 0) (land := lineOf t n) (a := a) (by have := sees_next (lineOf t n) a; simpa using this)
    rw [z]
    simp [aheadN]
  | m + 2, h => by
    have ih := line_ahead t n h0 (m + 1) (by omega)
    have hl : ((lineOf t n).length : Int) = (n : Int) := by unfold lineOf; rw [List.length_map, List.length_range]
    have z : seesB (lineOf t n) a (a + 1 + ((m + 1 : Nat) : Int)) = false := by
      refine seesB_false (k := a + 1) (by omega) (by omega) ?_
      unfold lowB
      rw [cel_line (by omega) (by omega), cel_line (by omega) (by omega), cel_line (by omega) (by omega)]
      intro y
      grind
    rw [aheadN_no z, ih]
    simp
theorem curve_ahead (t : Int) (n : Nat) {a : Int} (h0 : 0 ≤ a) : ∀ m : Nat, a + 1 + (m : Int) ≤ (n : Int) → aheadN (curveOf t n) a m = (List.range m).map fun (j : Nat) => a + 1 + (j : Int)
  | 0, _ => rfl
  | m + 1, h => by
    have ih := curve_ahead t n h0 m (by omega)
    have z : seesB (curveOf t n) a (a + 1 + (m : Int)) = true := seesB_iff.mpr fun k k1 k2 => by
      unfold lowB
      rw [cel_curve (by omega) (by omega), cel_curve (by omega) (by omega), cel_curve (by omega) (by omega)]
      generalize hb : a + 1 + (m : Int) = b at k2
      have p1 : 0 < (k - a) * (b - a) := Int.mul_pos (by omega) (by omega)
      have p2 : 0 < (k - a) * (b - a) * (b - k) := Int.mul_pos p1 (by omega)
      grind
    rw [aheadN_yes z, ih, List.range_succ, List.map_append]
    rfl
theorem flatP_congr {r1 r2 : Nat → List Int} {n : Nat} (h : ∀ k, k < n → r1 k = r2 k) : flatP r1 n = flatP r2 n := by
  unfold flatP
  rw [List.flatMap_def, List.flatMap_def]
  congr 1
  exact List.map_congr_left fun k hk => by rw [h k (List.mem_range.mp hk)]
theorem sights_line (t : Int) (n : Nat) (hn : 1 ≤ n) : sightsOf (lineOf t n) = (List.range (n - 1)).map fun (k : Nat) => ((k : Int), (k : Int) + 1) := by
  have hl : (lineOf t n).length = n := by unfold lineOf; rw [List.length_map, List.length_range]
  have row : ∀ k, k < n → aheadOf (lineOf t n) (k : Int) = if k + 1 < n then [(k : Int) + 1] else [] := fun k hk => by
    unfold aheadOf
    rw [hl, line_ahead t n (by omega) _ (by omega)]
    by_cases e : k + 1 < n
    · rw [if_neg (by omega), if_pos e]
    · rw [if_pos (by omega), if_neg e]
  unfold sightsOf
  have en : (((lineOf t n).length : Nat) : Int).toNat = n := by rw [hl]; omega
  rw [en, flatP_congr row]
  have part : ∀ i, i ≤ n - 1 → flatP (fun k => if k + 1 < n then [(k : Int) + 1] else []) i = (List.range i).map fun (k : Nat) => ((k : Int), (k : Int) + 1) := by
    intro i
    induction i with
    | zero => intro _; rfl
    | succ i ih =>
      intro hi
      rw [flatP_succ, ih (by omega), if_pos (by omega), List.range_succ, List.map_append]
      rfl
  obtain ⟨m, rfl⟩ : ∃ m, n = m + 1 := ⟨n - 1, by omega⟩
  rw [flatP_succ, part m (by omega), if_neg (by omega)]
  simp
theorem sights_curve (t : Int) (n : Nat) : sightsOf (curveOf t n) = flatP (fun k => (List.range (n - k - 1)).map fun (j : Nat) => (k : Int) + 1 + (j : Int)) n := by
  have hl : (curveOf t n).length = n := by unfold curveOf; rw [List.length_map, List.length_range]
  unfold sightsOf
  have en : (((curveOf t n).length : Nat) : Int).toNat = n := by rw [hl]; omega
  rw [en]
  refine flatP_congr fun k hk => ?_
  unfold aheadOf
  rw [hl, curve_ahead t n (by omega) _ (by omega)]
  have e : ((n : Int) - ((k : Int) + 1)).toNat = n - k - 1 := by omega
  rw [e]
end Hx
namespace Hx
open PySem PySem.Spec PyProof.Rows L2 Evl
def RBelow (K : PySem.W.Frag) (vs : List V) (H : Hp) (v : V) : Prop := ∃ (l : Addr) (land : List Int) (a b k : Int), vs = [.ref l, .int a, .int b, .int k] ∧ 0 ≤ a ∧ a < (land.length : Int) ∧ 0 ≤ b ∧ b < (land.length : Int) ∧ 0 ≤ k ∧ k < (land.length : Int) ∧ land.length ≤ 1000 ∧ SqL K H l (land.map V.int) ∧ v = .bl (decide (lowB land a b k))
def RPairs (vs : List V) (H : Hp) (v : V) : Prop := ∃ (p : Addr) (n : Int) (ps : List (Int × Int)), vs = [.ref p, .int n] ∧ PrL H p ps ∧ ps.Pairwise ltq ∧ (∀ q ∈ ps, 0 ≤ q.1 ∧ q.1 < q.2 ∧ q.2 < n) ∧ v = .bl true
def RKnown (K : PySem.W.Frag) (vs : List V) (H : Hp) (v : V) : Prop := ∃ (l : Addr) (ns : List Int), vs = [.ref l] ∧ SqL K H l (ns.map V.int) ∧ v = .bl true
section
variable {K : PySem.W.Frag} {σ : L2.St} {H : Hp} {ta : TA} {E : XK}
theorem ev_below {l : Addr} {land : List Int} {a b k : Int} (h : EvA ta σ H [.ref l, .int a, .int b, .int k]) (hs : SqL K H l (land.map V.int)) (a0 : 0 ≤ a) (a1 : a < (land.length : Int)) (b0 : 0 ≤ b) (b1 : b < (land.length : Int)) (k0 : 0 ≤ k) (k1 : k < (land.length : Int)) (h3 : land.length ≤ 1000) :
    Ev (tCall (spV (RBelow K)) [] E ta) σ H (.bl (decide (lowB land a b k))) := ev_cal h fun _ e => ⟨l, land, a, b, k, rfl, a0, a1, b0, b1, k0, k1, h3, ex_l e hs, rfl⟩
theorem ev_pairs {p : Addr} {n : Int} {ps : List (Int × Int)} (h : EvA ta σ H [.ref p, .int n]) (hp : PrL H p ps) (h1 : ps.Pairwise ltq) (h2 : ∀ q ∈ ps, 0 ≤ q.1 ∧ q.1 < q.2 ∧ q.2 < n) : Ev (tCall (spV RPairs) [] E ta) σ H (.bl true) :=
  ev_cal h fun _ e => ⟨p, n, ps, rfl, hp.ex e, h1, h2, rfl⟩
end
end Hx
namespace Hx
open PySem PySem.Spec PyProof.Rows L2 Evl
section
variable {K : PySem.W.Frag} {σ : L2.St} {H : Hp} {te : TE} {ta : TA} {D : Ends} {tz : TS}
theorem q_asgD {i : Nat} (k : ∀ p H1, H p = none → Ex H H1 → H1 p = some (.dT []) → tz D (σ.set i (some (.ref p))) H1) : tSeq (tAsg tDNewT (gName i)) tz D σ H := fun p hp => k p _ hp (Ex.new hp) upd_same
/-- [True for k in range(lo, n)] -/
theorem el_lcT {lo n : Int} {j : Nat} {vs : List Nat} (h : EvA ta σ H [.int lo, .int n]) (hn : 0 ≤ lo ∧ lo ≤ 40000 ∧ -40000 ≤ n ∧ n ≤ 40000) (hw : ∀ x, wipe ((wipe σ vs).set j (some x)) vs = wipe σ vs)
    (he : ∀ (k : Nat) H1, Ex H H1 → lo + (k : Int) < n → Ev te ((wipe σ vs).set j (some (.int (lo + (k : Int))))) H1 (.bl true)) : EvL (tLc (iRng2 ta) (gName j) tYes te vs) σ H ((List.replicate (n - lo).toNat true).map V.bl) := fun H0 e0 Q q => h H0 e0 _ fun H1 e1 =>
  ⟨lo, n, rfl, ⟨by omega, by omega, by omega, by omega⟩, fun Dl hD => by
  refine lc_range (lo := lo) (n := (n - lo).toNat) (fun m H' => Ex H1 H' ∧ H' Dl = some (.lst ((List.replicate m true).map V.bl))) ⟨Ex.new hD, upd_same⟩ ?_ ?_
  · rintro m H' hm ⟨e2, hb⟩
    refine ⟨hw _, t_yes ?_⟩
    refine he m H' ((e0.trans e1).trans e2) (by omega) H' (Ex.refl _) _ fun H3 e3 => ?_
    refine ⟨_, e3 _ _ hb, by rw [List.length_map, List.length_replicate, sizeLine_eq]; omega, Ex.mut (e2.trans e3) hD, ?_⟩
    rw [upd_same, List.replicate_succ', List.map_append]
    rfl
  · rintro H' ⟨e2, hb⟩
    exact q Dl H' (fresh_back e1 hD) (e1.trans e2) hb⟩
end
end Hx
/-! A try with several clauses that bear names; a def that looks at a caught error. -/
namespace Hx
open PySem PySem.Spec PyProof.Rows L2 Evl
/-- one clause: the class, the slot of its name, what its suite does -/
structure Cl where
  c : Value
  i : Nat
  ts : Addr → Value → Option Addr → TS
/-- the ends of a suite behind which the name is gone -/
def goneE (i : Nat) (D : Ends) : Ends where
  nx := fun τ G => D.nx (τ.set i none) G
  rt := D.rt
  bk := fun τ G => D.bk (τ.set i none) G
  ct := fun τ G => D.ct (τ.set i none) G
/-- what the clauses want, in their order; none may be left -/
def wCls (K : PySem.W.Frag) (D : Ends) : List Cl → WX
  | [] => fun _ _ _ _ => False
  | q :: r => fun cls d τ G => ∃ b, PySem.W.exmOne K cls q.c = some b ∧
      (b = true → ∀ x, G x = none → q.ts x cls d (goneE q.i D) (τ.set q.i (some (.ref x))) G) ∧ (b = false → wCls K D r cls d τ G)
inductive ClsOk (X : Cx) : List ExceptHandler → List Cl → Prop
  | nil : ClsOk X [] []
  | cons {y n : Str} {c : Value} {i : Nat} {ts : Addr → Value → Option Addr → TS} {b1 : Stmt} {bs : List Stmt} {p1 p2 : Pos} {hs : List ExceptHandler} {l : List Cl}
      (slot : X.N[i]? = some n) (loc : X.env.kindOf n = some .local) (nm : Names X y c)
      (suite : ∀ (x : Addr) (o : Obj) (cls : Value) (d : Option Addr) (pn : List (Addr × Obj)), Zc cls d o → (∃ fs, o.data = .fields fs) → PSs (X.suite x ((x, o) :: pn)) (b1 :: bs) (ts x cls d))
      (rest : ClsOk X hs l) : ClsOk X (.ExceptHandler (some (.Name y p1)) (some n) (b1 :: bs) p2 :: hs) (⟨c, i, ts⟩ :: l)
section
variable {X : Cx} {pins : List (Addr × Obj)} {D : Ends} {B : Heap} {x : Addr} {s1 : Shared} {sI : Shared} {τ : L2.St} {G : Hp} {cls : Value} {d : Option Addr} {h3 : Heap}
/-- an error that has landed, looked at by the clauses -/
theorem clauses (ok : X.Ok) (nd : X.N.Nodup) (J : Inv X pins τ G sI) (nb : ∀ b o, sI.heap.get? b = some o → b ∉ frs X.stack → B.get? b = some o) (up : sI.heap.UpToSlots h3) (free : G x = none)
    (eo : s1.os = sI.os) (bare : AllBare s1.gens) (stk : X.stack = X.env :: X.outer) (fr : X.env.frame = some X.env.locals) (fl : HandSPX.FlyingZ B (X.env :: X.outer) x (Zc cls d) h3) :
    ∀ {hs : List ExceptHandler} {l : List Cl}, ClsOk X hs l → wCls X.K D l cls d τ G → wpAny (model X.prog X.w) X.A (handleBy (.ref x) X.env hs) (SP X pins D) X.xe { s1 with heap := h3 } := by
  have awayAt : ∀ {h : Heap} {o : Obj} {fs : Array Value}, h.FunFrames B (X.env :: X.outer) → h.get? x = some o → o.data = .fields fs → x ∉ frs (X.env :: X.outer) := by
    intro h o fs ff e dd hm
    obtain ⟨_, o2, e2, no⟩ := ff.mem hm
    rw [e2] at e
    cases e
    exact no _ dd
  obtain ⟨o3, f3, g3, z3, d3⟩ := fl.there
  have away := awayAt fl.2.2.1 g3 d3
  have aL : x ≠ X.env.locals := by
    intro z
    refine away (List.mem_filterMap.mpr ⟨X.env, List.mem_cons_self, ?_⟩)
    rw [fr, z]
  have aF : x ∉ X.fs := by
    intro hm
    obtain ⟨e, he, q⟩ := List.mem_filterMap.mp hm
    exact away (List.mem_filterMap.mpr ⟨e, List.mem_cons_of_mem _ he, q⟩)
  have back : ∀ {h : Heap}, sI.heap.UpToSlots h → HandSPX.FlyingZ B (X.env :: X.outer) x (Zc cls d) h → Inv X pins τ G { s1 with heap := h } := fun {h} u f => J.landed nb f.1 u eo bare
  have S3 := (back up fl).suite g3 d3 free aL aF
  have asks : PySem.W.Looks (model X.prog X.w) h3 (typeOf (.ref x)) cls := fun A Q E s k q => wpAny_typeOf_ref (k _ _ g3) (by rw [z3.1]; exact q)
  intro hs l ok2
  induction ok2 with
  | nil => exact fun w => w.elim
  | @cons y n c i ts b1 bs p1 p2 hs2 l2 slot loc nm suite rest ih =>
    rintro ⟨b, hb, yes, no⟩
    have M := PySem.W.exm_one (M := model X.prog X.w) (back up fl).kIn asks hb
    have named : ∀ {Q E : Value → Shared → Prop}, Q c { s1 with heap := h3 } → wpAny (model X.prog X.w) (X.A.mark (some (.ref x))) (eval (.Name y p1) X.env) Q E { s1 with heap := h3 } := by
      intro Q E q
      obtain ⟨g, db, m | ⟨m, v, nn⟩⟩ := nm
      · exact ld_glob (X := X.suite x ((x, o3) :: (X.pn ++ pins))) S3 g m q db
      · exact ld_blt (X := X.suite x ((x, o3) :: (X.pn ++ pins))) S3 g m v q nn db
    refine wpAny_handleBy_cons (codeAny_handlers_test (named (M.here ?_))) (fun q => nomatch q)
    cases b with
    | false => exact ih (no rfl)
    | true =>
      refine codeAny_handlers_suite_as (HandSPX.lands_againZ fl fun h4 fl4 up4 => ?_)
      obtain ⟨o4, f4, g4, z4, d4⟩ := fl4.there
      have S4 := (back (up.trans up4) fl4).suite g4 d4 free aL aF
      refine store_ok (X := X.suite x ((x, o4) :: (X.pn ++ pins))) (v := .ref x) S4 nd slot (.inl loc) rfl (fun s5 S5 => ?_) (.inr loc)
      refine wpAny_mono ((suite x o4 cls d (X.pn ++ pins) z4 ⟨_, d4⟩).run [] s5 _ G _ S5 (yes rfl x free)) (fun f s6 e6 => ?_) (fun _ _ z => z.elim)
      have gone : ∀ {τ6 : L2.St} {G6 : Hp} {Q : Shared → Prop}, Inv (X.suite x ((x, o4) :: (X.pn ++ pins))) [] τ6 G6 s6 → (∀ s7, Inv X pins (τ6.set i none) G6 s7 → Q s7) →
          wpAny (model X.prog X.w) X.A (do bindName X.env n .none; unbindBehindTheSuite X.env n p2) (fun _ s7 => Q s7) X.xe s6 := by
        intro τ6 G6 Q S6 k
        exact gone_ok (S6.unsuite ok) nd slot loc k
      cases f with
      | ret u =>
        obtain ⟨v6, τ6, G6, S6, r6, q6⟩ := e6
        exact gone S6 fun _ J7 => ⟨v6, _, G6, J7, r6, q6⟩
      | next =>
        obtain ⟨τ6, G6, S6, q6⟩ := e6
        exact gone S6 fun _ J7 => ⟨_, G6, J7, q6⟩
      | cont =>
        obtain ⟨τ6, G6, S6, q6⟩ := e6
        exact gone S6 fun _ J7 => ⟨_, G6, J7, q6⟩
      | brk =>
        obtain ⟨τ6, G6, S6, q6⟩ := e6
        exact gone S6 fun _ J7 => ⟨_, G6, J7, q6⟩
end
section
variable {X : Cx} {body : List Stmt} {h1 : ExceptHandler} {hs : List ExceptHandler} {l : List Cl} {p0 : Pos} {tb : WX → TS}
/-- try: body / except C1 as n: .. / except C2 as m: .. -/
theorem ps_catch (stk : X.stack = X.env :: X.outer) (fr : X.env.frame = some X.env.locals) (nd : X.N.Nodup)
    (hb : ∀ (W : WX) (pn : List (Addr × Obj)) (xe : Value → Shared → Prop), Takes (X.tr pn xe) W → PSs (X.tr pn xe) body (tb W)) (hc : ClsOk X (h1 :: hs) l) :
    PS X (.Try body (h1 :: hs) [] [] p0) (fun D τ G => tb (wCls X.K D l) D τ G) := by
  refine ⟨fun pins s τ G D I w => wpAny_Try_except ?_⟩
  have ok := I.ok
  have frA : X.A.frames = some (X.env :: X.outer) := by
    rw [ok.frames, stk]
  refine wpAny_mono ((hb (wCls X.K D l) (X.pn ++ pins) _ ?caught).run [] s τ G D (I.toTry _) w) (fun f s2 e2 => ?_) (fun _ _ z => z)
  case caught =>
    rintro u s2 ⟨x, B, sI, pins2, τ2, G2, cls, d, rfl, J2, nb, up, sky, free, eo, bare, w2⟩
    have J : Inv X pins τ2 G2 sI := J2.ofTry ok
    have air : Sky B (X.env :: X.outer) x (Zc cls d) X.env.locals s2.heap := by
      rw [← stk]
      exact sky
    exact Sky.land Zc.steady frA fr air fun h3 fl3 up3 => clauses ok nd J nb (up.trans up3) free eo bare stk fr fl3 hc w2
  cases f with
  | ret u =>
    obtain ⟨v, τ2, G2, J2, r, q⟩ := e2
    exact ⟨v, τ2, G2, J2.ofTry ok, r, q⟩
  | next =>
    obtain ⟨τ2, G2, J2, q⟩ := e2
    exact wpAny_execs_nil ⟨τ2, G2, J2.ofTry ok, q⟩
  | cont =>
    obtain ⟨τ2, G2, J2, q⟩ := e2
    exact ⟨τ2, G2, J2.ofTry ok, q⟩
  | brk =>
    obtain ⟨τ2, G2, J2, q⟩ := e2
    exact ⟨τ2, G2, J2.ofTry ok, q⟩
end
/-- xs.append(e), the fragment told ahead (within a try, where the reading may not name the body's own context) -/
theorem pe_appK {X : Cx} {K : PySem.W.Frag} {o e : Expr} {ap cp : Pos} {to : TE} {t : TA} (ho : PE X o to) (ha : PA X [e] t) (hK : X.K = K := by rfl) (hbase : attributeBase o "append" X.env (eval o X.env) = eval o X.env := by rfl)
    (hfew : ((backTo cp (starEach [e] X.env)).all (fun x => !x.1) && (backToKw cp (keywordEach [] X.env)).all (fun x => x.1.isSome) && decide ([e].length + ([] : List Keyword).length + (if ([] : List Keyword).isEmpty then 0 else 1) < 30)) = true := by rfl)
    (hline : (ap.endLine == cp.line) = true := by rfl) (hs : starEach [e] X.env = (false, eval e X.env) :: starEach [] X.env := by rfl) (hplain : (backTo cp (starEach [] X.env)).any (·.1) = false := by rfl) :
    PE X (.Call (.Attribute o "append" ap) [e] [] cp) (tBM K "list" rAppend to t) := by
  subst hK
  exact pe_bm PySem.F.plainAttrs_list PySem.F.slot_list_append PySem.F.type_list_append mt_append ho ha hbase hfew hline hs hplain
end Hx
namespace Hx
open PySem PySem.Spec PyProof.Rows L2 Evl
/-- a def of one parameter, asked for a caught error of the class at C: it tells v, and no more than new things come -/
structure FnZ (P : Program) (w : World) (K : PySem.W.Frag) (mg : Str → Option Value) (base : Heap) (k : Nat) (f : Addr) (fd : FuncData) (y : Str) (C : Addr) (v : V) : Prop where
  run : ∀ (A : Around) (out : List Env) (s : Shared) (G : Hp) (as : Args) (q : Addr × Obj), L2H.RoomH k A → Zc (.ref C) none q.2 → (∃ fs, q.2.data = .fields fs) → L2H.PinOk out G s q →
    Env0 P w K mg base A out s G → BindsTo s fd as [(y, .ref q.1)] → codeAny (model P w) A (.call (.ref f) as) (CR CX0 out P w G s (fun u G' => u = v ∧ Ex G G') E0) s
/-- by its body -/
theorem Fun.okZ {P : Program} {w : World} {K : PySem.W.Frag} {mg : Str → Option Value} {base : Heap} {x qual y : Str} {st : Stmt} {f : Addr} {fd : FuncData} {N : List Str} {k : Nat} {C : Addr} {v : V} (F : Fun K x qual st f fd) (S : FnScope N [y] (defScope st))
    (h : ∀ (cdv : Value) (A : Around) (out : List Env) (s : Shared) (G : Hp) (q : Addr × Obj), L2H.RoomH k (A.deeper (envOfC qual (defScope st) s.heap.objs.size f cdv)) → Zc (.ref C) none q.2 → (∃ fs, q.2.data = .fields fs) →
      ∃ t, PSs (L2H.cxH CX0 P w K mg base N qual (defScope st) f cdv A out s G E0 q) (defBody st) t ∧ t { nx := fun _ _ => False, rt := fun u G' => u = v ∧ Ex G G' } (L2.start N [.ref q.1]) G) : FnZ P w K mg base (k + 1) f fd y C v := by
  obtain ⟨oc, od, kV, doc, pm, an, cdv, ct, osl, rfl, lk, code⟩ := F.ex
  refine ⟨fun A out s G as q room z hf pin e0 hb => ?_⟩
  have grow : ∀ b o, base.get? b = some o → s.heap.get? b = some o := fun b o e => (e0.bs b o e).1
  have there : K.In s.heap := e0.mod.kin.keeps grow
  have kinds : ∀ z ∈ [(y, Value.ref q.1)], (defScope st).names.lookup z.1 = some .local ∨ ((defScope st).names.lookup z.1 = some .cell ∧ ((cellsFrom (s.heap.objs.size + 1) (defScope st).names []).lookup z.1).isSome = true) := by
    intro z hz
    cases List.mem_singleton.mp hz
    rcases S.par y List.mem_cons_self with k | k
    · exact .inl k
    · exact .inr ⟨k, PySem.W.cellsFrom_some _ _ _ (.inl k)⟩
  refine codeAny_call_function room.depth (there _ _ lk) rfl S.co S.gen rfl (PySem.W.codeRec_of there code) (hb _ _ _ _ (wpAny_newFunctionEnv_cells S.kind kinds fun env he s1 x1 => ?_))
  subst he
  refine ⟨(e0.mod.nolimit.keeps grow).keeps x1.toInCall.keep, codeAny_func ?_⟩
  obtain ⟨t, ht, hq⟩ := h cdv A out s G q (room.deeper _) z hf
  have I := L2H.inv_startH (CX := CX0) (E := E0) (cd := cdv) (us := [.ref q.1]) (vs := [.ref q.1]) S pin e0 rfl (.cons rfl .nil) x1
  refine wpAny_mono (ht.run [] s1 _ G _ I hq) (fun fl s2 e2 => ?_) fun _ _ e => e
  cases fl with
  | ret u =>
    obtain ⟨v2, _, G2, J, r, e⟩ := e2
    exact ⟨v2, G2, J.os, J.bare, J.base, J.hok, r, e⟩
  | next =>
    obtain ⟨_, _, _, z⟩ := e2
    exact z.elim
  | cont =>
    obtain ⟨_, _, _, z⟩ := e2
    exact False.elim z
  | brk =>
    obtain ⟨_, _, _, z⟩ := e2
    exact False.elim z
/-- such a def under its name -/
structure CalZ (P : Program) (w : World) (K : PySem.W.Frag) (mg : Str → Option Value) (base : Heap) (x : Str) (k : Nat) (y : Str) (R : Addr → V → Prop) : Prop where
  ex : ∃ f fd, (∀ C v, R C v → FnZ P w K mg base k f fd y C v) ∧ mg x = some (.ref f) ∧ PySem.W.keepIn K (.ref f) = true ∧ Binds K fd [y] []
/-- the call, within the suite -/
def tZ (R : Addr → V → Prop) (cls : Value) (d : Option Addr) (a : Addr) (t : TA) : TE := fun σ H Q => t σ H fun vs H1 => vs = [.ref a] ∧ ∃ C v, cls = .ref C ∧ d = none ∧ R C v ∧ ∀ H2, Ex H1 H2 → Q v H2
section
variable {X : Cx} {x y : Str} {k j : Nat} {R : Addr → V → Prop} {p pos : Pos} {e : Expr} {t : TA} {a C : Addr} {o : Obj} {v : V}
theorem pe_calZ {cls : Value} {d : Option Addr} (c : CalZ X.prog X.w X.K X.mg X.base x k y R) (hr : L2H.RoomH j X.A) (hz : Zc cls d o) (hf : ∃ fs, o.data = .fields fs) (hm : (a, o) ∈ X.pn) (ha : PA X [e] t) (hk : k ≤ j := by decide) (hg : Gl X x := by rfl)
    (hdb : (x == ("__debug__" : Str)) = false := by decide) (he : starEach [e] X.env = (false, eval e X.env) :: starEach [] X.env := by rfl) (hpl : (backTo pos (starEach [] X.env)).any (·.1) = false := by rfl) :
    PE X (.Call (.Name x p) [e] [] pos) (tZ R cls d a t) := by
  obtain ⟨f, fd, F, m, keep, b⟩ := c.ex
  refine ⟨fun pins s σ H Q I h => wpAny_Call_Name_kw (ld_glob I hg m ?_ hdb)⟩
  refine PySem.W.callWith_K (h₀ := X.base) I.ok.mod.kin keep (thn (ha.run pos pins s σ H _ I h) fun us s1 ⟨vs, H1, I1, r, ev, C, v, ec, ed, hv, q⟩ => ⟨I1.kIn, ?_⟩) he hpl
  subst ev ec ed
  obtain ⟨g, free, nL, nF, nc⟩ := I1.pin (a, o) (List.mem_append_left _ hm)
  have pin : L2H.PinOk X.stack H1 s1 (a, o) := by
    refine ⟨g, free, fun z => ?_, nc⟩
    rcases List.mem_cons.mp (I1.stkSub a z) with z | z
    · exact nL z
    · exact nF z
  cases r with
  | cons ru rn =>
    cases rn
    cases ru
    refine wpAny_call (codeAny_mono ((F C v hv).run X.A X.stack s1 H1 ⟨[.ref a], []⟩ (a, o) ⟨Nat.lt_of_le_of_lt (by omega) hr.dp, Nat.lt_of_le_of_lt (by omega) hr.un⟩ hz hf pin I1.env0 (b s1 [.ref a] I1.kIn rfl)) fun res s2 e2 => ?_)
    match res, e2 with
    | .ok (.ret u), e2 =>
      refine I1.after ?_
      obtain ⟨u2, G, e3, e4, e5, e6, e7, rfl, e8⟩ := e2
      exact ⟨u2, G, e3, e4, e5, e6, e7, q G e8⟩
/-- isinstance of that error, wherever it is pinned -/
theorem call_isZ (c : ExcC X.K C) (hz : Zc (.ref C) none o) (hf : ∃ fs, o.data = .fields fs) (hm : (a, o) ∈ X.pn) : CallR X (.builtin "isinstance") (rIsE X.K C a) := by
  rintro pins s σ H xs us Q I r ⟨u, w, b, rfl, hu, hb, q⟩
  cases r with
  | cons r1 r2 =>
    cases r1
    cases r2 with
    | cons r3 r4 =>
      cases r4
      cases hu _ r3
      obtain ⟨c1, d1, dt, sl⟩ := o
      obtain ⟨fs, rfl⟩ : ∃ fs, dt = .fields fs := hf
      obtain ⟨rfl, rfl⟩ : c1 = .ref C ∧ d1 = none := hz
      have at1 : PySem.W.InstAt s.heap a _ C none := ⟨(I.pin _ (List.mem_append_left _ hm)).1, rfl, rfl, trivial⟩
      have kit := PySem.W.handS_kitx_exc (x := a) (ox := ⟨.ref C, none, .fields fs, sl⟩) c.hg c.hk c.hs c.hd c.ha c.hn c.ht c.hm
      exact PySem.W.kia_one kit I.kIn at1 hb (fun z => nomatch z) fun tk => ⟨.bl b, H, I.kept (t' := tk) (fun _ _ z => z), rfl, q⟩
end
theorem rc_isZ {K : PySem.W.Frag} {H : Hp} {D a c : Addr} {b : Bool} (h : PySem.W.kitOne K (.ref D) (.ref c) = some b) : RC (rIsE K D a) [.ref a, .ref c] H (.bl b) := fun H1 _ Q q =>
  ⟨.ref c, .ref c, b, rfl, fun _ r => r, h, q H1 (Ex.refl H1)⟩
theorem rc_isZt {K : PySem.W.Frag} {H : Hp} {D a : Addr} {T : String} {b : Bool} (h : PySem.W.kitOne K (.ref D) (.type T) = some b) : RC (rIsE K D a) [.ref a, .ty T] H (.bl b) := fun H1 _ Q q =>
  ⟨.ty T, .type T, b, rfl, fun _ r => r, h, q H1 (Ex.refl H1)⟩
theorem ev_calZ {σ : L2.St} {H : Hp} {a C : Addr} {v : V} {t : TA} {R : Addr → V → Prop} (h : EvA t σ H [.ref a]) (hR : R C v) : Ev (tZ R (.ref C) none a t) σ H v := fun H1 e Q q => h H1 e _ fun H2 e2 => ⟨rfl, C, v, rfl, rfl, hR, fun H3 e3 => q H3 (e2.trans e3)⟩
/-- which of the module's own errors one of the class D is -/
structure SoleK (K : PySem.W.Frag) (L N S T U HE D : Addr) : Prop where
  e : ExcC K D
  one : ∃ b1 b2 b3 b4 b5 : Bool, PySem.W.kitOne K (.ref D) (.ref L) = some b1 ∧ PySem.W.kitOne K (.ref D) (.ref N) = some b2 ∧ PySem.W.kitOne K (.ref D) (.ref S) = some b3 ∧ PySem.W.kitOne K (.ref D) (.ref T) = some b4 ∧
    PySem.W.kitOne K (.ref D) (.ref U) = some b5 ∧ (b1.toInt + b2.toInt + b3.toInt + b4.toInt + b5.toInt = 1)
  h : PySem.W.kitOne K (.ref D) (.ref HE) = some true
  v : PySem.W.kitOne K (.ref D) (.type "ValueError") = some true
theorem ExK.kit {K : PySem.W.Frag} {mg : Str → Option Value} {x : Str} {C D : Addr} {b : Bool} (X : ExK K mg x C) (h : PySem.W.subIn K (.ref D) (.ref C) = some b) : PySem.W.kitOne K (.ref D) (.ref C) = some b := by
  unfold PySem.W.kitOne
  by_cases e : D = C
  · subst e
    rw [if_pos (by simp)]
    exact X.s.symm.trans h
  · rw [if_neg (fun z => e (Value.ref.inj (beq_iff_eq.mp z)))]
    obtain ⟨cd, hc, _⟩ := PySem.W.any_some X.d
    show (if _ = true then _ else _) = _
    rw [if_pos (by rw [hc, X.t]; rfl)]
    exact h
theorem kit_top {K : PySem.W.Frag} {D : Addr} {T : String} {b : Bool} (m : PySem.W.kitMeta T = true) (h : PySem.W.subIn K (.ref D) (.type T) = some b) : PySem.W.kitOne K (.ref D) (.type T) = some b := by
  unfold PySem.W.kitOne
  rw [if_neg (fun z => by cases beq_iff_eq.mp z)]
  show (if PySem.W.kitMeta T = true then _ else _) = _
  rw [if_pos m]
  exact h
section
variable {σ : L2.St} {H : Hp} {te : TE} {tr : TA} {xs : List V} {P : List V → Hp → Prop}
theorem eax_consU (h : EvU te σ H xs) (hr : EvAX tr σ H P) : EvAX (tCons te tr) σ H (fun vs H2 => ∃ p r H1, vs = .ref p :: r ∧ H1 p = some (.tup xs) ∧ Ex H1 H2 ∧ P r H2) := fun H1 e1 Q q =>
  h H1 e1 _ fun p H2 _ e2 hp => hr H2 (e1.trans e2) _ fun r H3 e3 y => q (.ref p :: r) H3 (e2.trans e3) ⟨p, r, H2, rfl, hp, e3, y⟩
theorem eax_lastL (h : EvL te σ H xs) : EvAX (tCons te tNil) σ H (fun vs H2 => ∃ p, vs = [.ref p] ∧ H2 p = some (.lst xs)) := fun H1 e1 Q q =>
  h H1 e1 _ fun p H2 _ e2 hp => q [.ref p] H2 e2 ⟨p, rfl, hp⟩
end
/-- the law's own look for the hider: what is found behind i places -/
def fndV (land : List Int) (a : Int) : Nat → V
  | 0 => .non
  | i + 1 => .int (steepN land a i)
def hidOf (land : List Int) (a b : Int) : V := if steepOf land a b = b then .non else .int (steepOf land a b)
theorem hidV_eq (land : List Int) (a b : Int) : hidV land a b = hidOf land (min a b) (max a b) := rfl
def RAbove (K : PySem.W.Frag) (vs : List V) (H : Hp) (v : V) : Prop := ∃ (l : Addr) (land : List Int) (a j k : Int), vs = [.ref l, .int a, .int j, .int k] ∧ 0 ≤ a ∧ a < (land.length : Int) ∧ 0 ≤ j ∧ j < (land.length : Int) ∧ 0 ≤ k ∧ k < (land.length : Int) ∧ land.length ≤ 1000 ∧ SqL K H l (land.map V.int) ∧
  v = .bl (decide ((cel land k - cel land a) * (j - a) < (cel land j - cel land a) * (k - a)))
def RHiderBy (K : PySem.W.Frag) (vs : List V) (H : Hp) (v : V) : Prop := ∃ (l : Addr) (land : List Int) (a b : Int), vs = [.ref l, .int a, .int b] ∧ 0 ≤ a ∧ a < b ∧ b < (land.length : Int) ∧ land.length ≤ 1000 ∧ SqL K H l (land.map V.int) ∧ v = hidOf land a b
/-- the word for a refusal -/
def RWord (K : PySem.W.Frag) (N S : Addr) (vs : List V) (H : Hp) (v : V) : Prop := ∃ (l : Addr) (land : List Int) (x y : V) (C : Addr), vs = [.ref l, x, y] ∧ SqL K H l (land.map V.int) ∧ land.length ≤ 1000 ∧ NoTwo H land.length N S x y C ∧
  ((C = N ∧ v = .str "no hill") ∨ (C = S ∧ v = .str "same hill"))
end Hx
/-! Own readings for the second stage: negative places, pops, zip, slices, is True, all whole. -/
namespace Hx
open PySem PySem.Spec PyProof.Rows L2 Evl
theorem getD_neg {ns : List Int} {j : Int} (h0 : j < 0) (h : -(ns.length : Int) ≤ j) : atI (ns.map V.int) j = some (V.int (cel ns ((ns.length : Int) + j))) := by
  have hl : (ns.map V.int).length = ns.length := List.length_map ..
  have e := getD_ix (ns := ns) (j := (ns.length : Int) + j) (by omega) (by omega)
  unfold atI ixN at e ⊢
  rw [hl] at e ⊢
  rw [if_pos (by omega), if_pos (by omega)] at e
  rw [if_neg (by omega), if_pos h]
  have ez : (j + (ns.length : Int)).toNat = ((ns.length : Int) + j).toNat := by omega
  rw [ez]
  exact e
theorem cutV_from (xs : List V) (k : Nat) : cutV xs (some (k : Int)) none = xs.drop k := by
  unfold cutV
  rw [HT.sIx_nat, HT.sIx_none]
  by_cases h : k ≤ xs.length
  · rw [Nat.min_eq_left h, List.take_of_length_le (by rw [List.length_drop]; omega)]
  · rw [Nat.min_eq_right (by omega), List.drop_of_length_le (Nat.le_refl _), List.drop_of_length_le (by omega), List.take_nil]
theorem cutV_init (xs : List V) (x : V) : cutV (xs ++ [x]) none (some (-1)) = xs := by
  unfold cutV
  have e : HT.sIx (xs ++ [x]).length (xs ++ [x]).length (some (-1)) = xs.length := by
    show (if (-1 : Int) < 0 then (-1 + ((xs ++ [x]).length : Int)).toNat else min (-1 : Int).toNat (xs ++ [x]).length) = _
    rw [if_pos (by decide), List.length_append, List.length_singleton]
    omega
  rw [e, HT.sIx_none, List.drop_zero, Nat.sub_zero, List.take_left]
theorem cutV_to (xs : List V) (k : Nat) : cutV xs none (some (k : Int)) = xs.take k := by
  unfold cutV
  rw [HT.sIx_nat, HT.sIx_none, List.drop_zero, Nat.sub_zero]
  by_cases h : k ≤ xs.length
  · rw [Nat.min_eq_left h]
  · rw [Nat.min_eq_right (by omega), List.take_of_length_le (Nat.le_refl _), List.take_of_length_le (by omega)]
theorem cutV_mid (xs : List V) (j k : Nat) : cutV xs (some (j : Int)) (some (k : Int)) = (xs.drop j).take (k - j) := by
  unfold cutV
  rw [HT.sIx_nat, HT.sIx_nat]
  by_cases h : j ≤ xs.length
  · rw [Nat.min_eq_left h]
    by_cases h2 : k ≤ xs.length
    · rw [Nat.min_eq_left h2]
    · rw [Nat.min_eq_right (by omega), List.take_of_length_le (by rw [List.length_drop]; omega), List.take_of_length_le (by rw [List.length_drop]; omega)]
  · rw [Nat.min_eq_right (show xs.length ≤ j by omega), List.drop_of_length_le (Nat.le_refl _), List.drop_of_length_le (show xs.length ≤ j by omega), List.take_nil, List.take_nil]
section
variable {K : PySem.W.Frag} {σ : L2.St} {H H' : Hp} {ta tb te tx : TE} {t u : TT} {x y z v : V} {D : Ends} {tu tw tz : TS} {g : TG}
theorem s_pop {l : Addr} {xs : List V} {x : V} (hl : H l = some (.lst (xs ++ [x]))) (ha : Ev ta σ H (.ref l)) (k : ∀ H1, Ex H H1 → D.nx σ (upd H1 l (.lst xs))) : tDrop (tBM0 K "list" rPop ta) D σ H := ha H (Ex.refl H) _ fun H1 e1 =>
  ⟨Or.inl ⟨rfl, _, sq_of (e1 l _ hl)⟩, l, xs ++ [x], x, rfl, rfl, e1 l _ hl, by rw [List.length_append, List.length_singleton, Nat.add_sub_cancel]; exact List.getElem?_concat_length, by rw [List.dropLast_concat]; exact k H1 e1⟩
theorem q_pop {l : Addr} {xs : List V} {x : V} (hl : H l = some (.lst (xs ++ [x]))) (ha : Ev ta σ H (.ref l)) (k : ∀ H1, Ex H H1 → tz D σ (upd H1 l (.lst xs))) : tSeq (tDrop (tBM0 K "list" rPop ta)) tz D σ H := s_pop (D := { D with nx := tz D }) hl ha k
theorem el_from {a : Addr} {xs : List V} (k : Nat) (h : Ev te σ H (.ref a)) (hs : SqL K H a xs) : EvL (tSl (rSlL K) te (tPart (tC (.int (k : Int)))) tNoPart) σ H (xs.drop k) := by
  rw [← cutV_from xs k]
  exact el_sl h (eo_some ev_c) eo_none hs
theorem rv_isB {a b : Bool} : RV rIsB (.bl a) (.bl b) H (.bl (decide (a = b))) := fun H1 _ _ q => ⟨a, b, rfl, rfl, q H1 (Ex.refl H1)⟩
theorem rv_notB {a b : Bool} : RV rNotB (.bl a) (.bl b) H (.bl (!decide (a = b))) := fun H1 _ _ q => ⟨a, b, rfl, rfl, q H1 (Ex.refl H1)⟩
theorem rc_abs {i : Int} : RC (fun xs H Q => ∃ i, xs = [V.int i] ∧ Q (.int (if i < 0 then -i else i)) H) [.int i] H (.int (i.natAbs : Int)) := fun H1 _ Q q => ⟨i, rfl, by
  have e : (if i < 0 then -i else i) = (i.natAbs : Int) := by split <;> omega
  rw [e]
  exact q H1 (Ex.refl H1)⟩
theorem for_zipM {a b : Addr} {xs ys : List V} (Pv : Nat → L2.St → Hp → Prop) (h0 : Pv 0 σ H) (hq : ∀ i σ H, Pv i σ H → SqL K H a xs ∧ SqL K H b ys)
    (hs : ∀ (i : Nat) (x y : V) (T : Addr) (σ : L2.St) (H : Hp), xs[i]? = some x → ys[i]? = some y → Pv i σ H → H T = none → g (.ref T) σ (upd H T (.tup [x, y])) fun σ2 H2 => tu { D with nx := Pv (i + 1), ct := Pv (i + 1), bk := D.nx } σ2 H2) (hd : ∀ σ H, Pv (min xs.length ys.length) σ H → D.nx σ H) :
    ∃ W : Nat → Nat → L2.St → Hp → Prop, (∃ m, W 0 m σ H) ∧ ∀ i m σ H, W i m σ H →
      ((Itz K a b).stop i H ∧ D.nx σ H) ∨ ((Itz K a b).go i H ∧ ∃ N : L2.St → Hp → Prop, (∀ σ' H', N σ' H' → ∃ m', m' < m ∧ W (i + 1) m' σ' H') ∧ ∀ v H', (Itz K a b).yld i H v H' → g v σ H' fun σ2 H2 => tu { D with nx := N, ct := N, bk := D.nx } σ2 H2) := by
  refine ⟨fun i m σ H => m = min xs.length ys.length - i ∧ i ≤ min xs.length ys.length ∧ Pv i σ H, ⟨min xs.length ys.length, rfl, Nat.zero_le _, h0⟩, ?_⟩
  rintro i m σ H ⟨rfl, hi, p⟩
  obtain ⟨qx, qy⟩ := hq i σ H p
  by_cases hlt : i < min xs.length ys.length
  · have hx : xs[i]? = some xs[i] := List.getElem?_eq_getElem (by omega)
    have hy : ys[i]? = some ys[i] := List.getElem?_eq_getElem (by omega)
    refine .inr ⟨⟨xs, ys, _, _, qx, qy, hx, hy⟩, Pv (i + 1), fun σ' H' p' => ⟨min xs.length ys.length - (i + 1), by omega, rfl, hlt, p'⟩, fun v H' y => ?_⟩
    obtain ⟨T, x', y', rfl, hT, rfl, f1, f2⟩ := y
    exact hs i x' y' T σ H (f1 xs qx) (f2 ys qy) p hT
  · have e : i = min xs.length ys.length := by omega
    refine .inl ⟨⟨xs, ys, qx, qy, by omega⟩, hd σ H (e ▸ p)⟩
theorem el_eq {xs ys : List V} (h : EvL te σ H xs) (e : xs = ys) : EvL te σ H ys := e ▸ h
theorem el_lcR2 {ta : TA} {j : Nat} {vs : List Nat} {lo n : Int} (f : Nat → Bool) (v : Nat → V) (h : EvA ta σ H [.int lo, .int n]) (hn : 0 ≤ lo ∧ lo ≤ 40000 ∧ -40000 ≤ n ∧ n ≤ 40000) (hw : ∀ x, wipe ((wipe σ vs).set j (some x)) vs = wipe σ vs)
    (ht : ∀ (i : Nat) H1, Ex H H1 → lo + (i : Int) < n → EvT t ((wipe σ vs).set j (some (.int (lo + (i : Int))))) H1 (f i)) (he : ∀ (i : Nat) H1, Ex H H1 → lo + (i : Int) < n → f i = true → Ev te ((wipe σ vs).set j (some (.int (lo + (i : Int))))) H1 (v i)) :
    EvL (tLc (iRng2 ta) (gName j) t te vs) σ H (given (n - lo).toNat f v) := fun H0 e Q q => h H0 e _ fun H1 e1 => ⟨lo, n, rfl, ⟨by omega, by omega, by omega, by omega⟩, fun Dl hD =>
  lc_range (lo := lo) (n := (n - lo).toNat) (Cw H1 f v Dl) ⟨hD, Ex.new hD, upd_same⟩ (fun i H' hi p => ⟨hw _, cw_turn p (by omega) (ht i H1 (e.trans e1) (by omega)) (fun hf => he i H1 (e.trans e1) (by omega) hf)⟩) (fun H' p => q Dl H' (fresh_back e1 p.1) (e1.trans p.2.1) p.2.2)⟩
theorem ea_star {p : Addr} {xs vs : List V} {tr : TA} (h : Ev te σ H (.ref p)) (hp : SqL K H p xs) (hr : EvA tr σ H vs) : EvA (StX.tStar K te tr) σ H (xs ++ vs) := fun H1 e1 Q q =>
  h H1 e1 _ fun H2 e2 => ⟨p, xs, rfl, .inr (ex_l (e1.trans e2) hp), hr H2 (e1.trans e2) _ fun H3 e3 => q H3 (e2.trans e3)⟩
theorem foldr_max_ge : ∀ {ms : List Int} {y : Int}, y ∈ (0 :: ms) → y ≤ ms.foldr max 0
  | [], y, h => by
    rw [List.mem_singleton.mp h]
    exact Int.le_refl _
  | m :: r, y, h => by
    rw [List.foldr_cons]
    have z0 := foldr_max_ge (ms := r) (y := 0) (List.mem_cons_self ..)
    rcases List.mem_cons.mp h with rfl | h
    · omega
    · rcases List.mem_cons.mp h with rfl | h
      · omega
      · have z := foldr_max_ge (ms := r) (y := y) (List.mem_cons_of_mem _ h)
        omega
theorem foldr_max_mem : ∀ ms : List Int, ms.foldr max 0 ∈ (0 :: ms)
  | [] => List.mem_singleton.mpr rfl
  | m :: r => by
    rw [List.foldr_cons]
    have z := foldr_max_mem r
    by_cases h : m ≤ r.foldr max 0
    · rw [Int.max_eq_right h]
      rcases List.mem_cons.mp z with e | e
      · rw [e]
        exact List.mem_cons_self ..
      · exact List.mem_cons_of_mem _ (List.mem_cons_of_mem _ e)
    · rw [Int.max_eq_left (by omega)]
      exact List.mem_cons_of_mem _ (List.mem_cons_self ..)
theorem ev_maxL {ms : List Int} {m : Int} (h : EvL te σ H (ms.map V.int)) (hm : m ∈ ms) (hge : ∀ y ∈ ms, y ≤ m) : Ev (tCB (rMax K) (tCons te tNil)) σ H (.int m) := fun H1 e1 Q q =>
  h H1 e1 _ fun p2 H2 _ e2 h2 => ⟨p2, ms, rfl, sq_of h2, List.length_pos_of_mem hm, fun m2 hm2 hge2 => by
    have e : m2 = m := Int.le_antisymm (hge m2 hm2) (hge2 m hm)
    rw [e]
    exact q H2 e2⟩
theorem ev_minL {ms : List Int} {m : Int} (h : EvL te σ H (ms.map V.int)) (hm : m ∈ ms) (hge : ∀ y ∈ ms, m ≤ y) : Ev (tCB (rMin K) (tCons te tNil)) σ H (.int m) := fun H1 e1 Q q =>
  h H1 e1 _ fun p2 H2 _ e2 h2 => ⟨p2, ms, rfl, sq_of h2, List.length_pos_of_mem hm, fun m2 hm2 hge2 => by
    have e : m2 = m := Int.le_antisymm (hge2 m hm) (hge m2 hm2)
    rw [e]
    exact q H2 e2⟩
/-- max([0, *xs]) -/
theorem ev_max0 {p : Addr} {ms : List Int} (h : Ev te σ H (.ref p)) (hp : SqL K H p (ms.map V.int)) (hz : ms.length ≤ 50000) : Ev (tCB (rMax K) (tCons (tLst (tCons (tC (.int 0)) (StX.tStar K te tNil))) tNil)) σ H (.int (ms.foldr max 0)) :=
  ev_maxL (ms := 0 :: ms) (el_eq (el_lst (ea_cons ev_c (ea_star h hp ea_nil)) (by rw [List.length_cons, List.append_nil, List.length_map]; omega)) (by rw [List.append_nil]; rfl)) (foldr_max_mem ms) fun y hy => foldr_max_ge hy
/-- the first argument of a call is a new list -/
theorem ev_cal0L {t1 : TE} {tr : TA} {xs vs : List V} {E : XK} {RE : List V → Hp → Addr → Prop} {RV : List V → Hp → V → Prop} (h1 : EvL t1 σ H xs) (hr : EvA tr σ H vs) (hs : ∀ p H1, Ex H H1 → H1 p = some (.lst xs) → RV (.ref p :: vs) H1 z) : Ev (tCall (spVX RV RE) [] E (tCons t1 tr)) σ H z := fun H1 e1 Q q =>
  h1 H1 e1 _ fun p H2 _ e2 hp => hr H2 (e1.trans e2) _ fun H3 e3 => .inl ⟨z, by rw [List.append_nil]; exact hs p H3 ((e1.trans e2).trans e3) (e3 _ _ hp), fun H4 e4 => q H4 ((e2.trans e3).trans e4)⟩
/-- for x, y in zip(a, a new list) -/
theorem q_forZipN {a : Addr} {xs ys : List V} {i j : Nat} (ha : Ev ta σ H (.ref a)) (hx : SqL K H a xs) (hb : EvL tb σ H ys) (Pv : Addr → Nat → L2.St → Hp → Prop) (h0 : ∀ b H1, H b = none → Ex H H1 → H1 b = some (.lst ys) → Pv b 0 σ H1)
    (hl : ∀ b k σ' H', Pv b k σ' H' → SqL K H' a xs ∧ SqL K H' b ys)
    (hs : ∀ b k x y T σ' H', xs[k]? = some x → ys[k]? = some y → Pv b k σ' H' → H' T = none → tu { D with nx := Pv b (k + 1), ct := Pv b (k + 1), bk := tz D } ((σ'.set i (some x)).set j (some y)) (upd H' T (.tup [x, y]))) (hd : ∀ b σ' H', Pv b (min xs.length ys.length) σ' H' → tz D σ' H') :
    tSeq (tFor (iZip K (tCons ta (tCons tb tNil))) (gTup K 2 (gCons (gName i) (gCons (gName j) gNil))) tu) tz D σ H :=
  ha H (Ex.refl H) _ fun H1 e1 => hb H1 e1 _ fun b H2 nb e2 h2 => ⟨a, b, xs, ys, rfl, ex_l (e1.trans e2) hx, sq_of h2,
    for_zipM (D := { D with nx := tz D }) (Pv b) (h0 b H2 (fresh_back e1 nb) (e1.trans e2) h2) (fun k σ' H' p => hl b k σ' H' p) (fun k x y T σ' H' hx hy p hT => g_tup2 (st_of upd_same) (hs b k x y T σ' H' hx hy p hT)) (fun σ' H' p => hd b σ' H' p)⟩
theorem map_at {ns : List Int} {k : Nat} {x : V} (h : (ns.map V.int)[k]? = some x) : k < ns.length ∧ x = .int (cel ns (k : Int)) := by
  rw [List.getElem?_map] at h
  cases hq : ns[k]? with
  | none => rw [hq] at h; cases h
  | some y =>
    rw [hq] at h
    refine ⟨(List.getElem?_eq_some_iff.mp hq).1, ?_⟩
    unfold cel
    rw [List.getD_eq_getElem?_getD, Int.toNat_natCast, hq]
    exact (Option.some.inj h).symm
/-- all([whole(x) for x in xs]) of whole numbers -/
theorem ev_allWhole {l : Addr} {ns : List Int} {tl : TE} {E : XK} {j : Nat} {vs : List Nat} (h : Ev tl σ H (.ref l)) (hs : SqL K H l (ns.map V.int)) (hz : ns.length ≤ 40000) (hw : ∀ x, wipe ((wipe σ vs).set j (some x)) vs = wipe σ vs) (hj : ∀ x, ((wipe σ vs).set j (some x))[j]? = some (some x)) :
    Ev (tCB (rAll K) (tCons (tLc (iList K tl) (gName j) tYes (tCall (spV RWhole) [] E (tCons (tVar j) tNil)) vs) tNil)) σ H (.bl true) := by
  have hl : (ns.map V.int).length = ns.length := List.length_map ..
  have z : (List.replicate ns.length true).all id = true := List.all_eq_true.mpr fun b hb => (List.eq_of_mem_replicate hb)
  rw [← z]
  refine ev_all ?_
  have er : (List.replicate ns.length true).map V.bl = given (ns.map V.int).length (fun _ => true) (fun _ => .bl true) := by
    unfold given
    rw [hl, List.filter_eq_self.mpr (fun _ _ => rfl), List.map_replicate]
    exact (List.eq_replicate_iff.mpr ⟨by rw [List.length_map, List.length_range], fun b hb => by obtain ⟨_, _, e⟩ := List.mem_map.mp hb; exact e.symm⟩).symm
  rw [er]
  refine el_lcL (fun _ => true) (fun _ => .bl true) h hs (by omega) hw (fun _ _ _ _ _ => et_yes) fun i x H8 e8 hx _ => ?_
  rw [List.getElem?_map] at hx
  cases hq : ns[i]? with
  | none => rw [hq] at hx; cases hx
  | some y =>
    rw [hq] at hx
    have ex : V.int y = x := Option.some.inj hx
    subst ex
    exact ev_whole (ea_cons (ev_var (hj _)) ea_nil)
end
end Hx
/-! The ridge: a stack of places, the last on top. -/
namespace Hx
/-- what is left of the stack when the line from below its top to p no longer passes above the top -/
def popN (land : List Int) (p : Int) : List Int → List Int
  | t :: s :: r => if lowB land s p t then popN land p (s :: r) else t :: s :: r
  | st => st
def ridgeR (land : List Int) : Nat → List Int
  | 0 => []
  | i + 1 => (i : Int) :: popN land i (ridgeR land i)
def ridgeOf (land : List Int) : List Int := (ridgeR land land.length).reverse
/-- the stack is a ridge of what it has seen -/
def HullR (land : List Int) : List Int → Prop
  | [] => True
  | [t] => t = 0
  | t :: s :: r => s < t ∧ seesP land s t ∧ (∀ q r', r = q :: r' → ¬ lowB land q t s) ∧ HullR land (s :: r)
def TopR (land : List Int) (p : Int) : List Int → Prop
  | [] => p = 0
  | t :: _ => t < p ∧ seesP land t p
theorem low_glue {x y z a b c : Int} (ha : 0 < a) (hb : 0 < b) (hc : 0 < c) (h1 : x * (a + b + c) < (x + y + z) * a) (h2 : y * (b + c) < (y + z) * b) : (x + y) * (a + b + c) < (x + y + z) * (a + b) := by
  have e1 : y * c < z * b := by grind
  have e2 : x * (b + c) < (y + z) * a := by grind
  have e3 : x * (b + c) * c < (y + z) * a * c := Int.mul_lt_mul_of_pos_right e2 hc
  have e4 : y * c * a < z * b * a := Int.mul_lt_mul_of_pos_right e1 ha
  have e5 : x * c * (b + c) < z * a * (b + c) := by grind
  have e6 : x * c < z * a := Int.lt_of_mul_lt_mul_right e5 (by omega)
  grind
theorem low_mid {land : List Int} {s t p k : Int} (h1 : s < t) (h2 : t < p) (hl : lowB land s p t) (hs : seesP land s t) (ht : seesP land t p) (k1 : s < k) (k2 : k < p) : lowB land s p k := by
  by_cases e : k = t
  · rw [e]
    exact hl
  by_cases hk : k < t
  · have z := hs k k1 hk
    unfold lowB at z hl ⊢
    exact lt_of_best (n2 := t - s) (by omega) (by omega) (by omega) hl (Int.le_of_lt z)
  · have z := ht k (by omega) k2
    unfold lowB at z hl ⊢
    have y := low_glue (x := cel land t - cel land s) (y := cel land k - cel land t) (z := cel land p - cel land k) (a := t - s) (b := k - t) (c := p - k) (by omega) (by omega) (by omega) (by
      have e1 : t - s + (k - t) + (p - k) = p - s := by omega
      have e2 : cel land t - cel land s + (cel land k - cel land t) + (cel land p - cel land k) = cel land p - cel land s := by omega
      rw [e1, e2]
      exact hl) (by
      have e1 : (k - t) + (p - k) = p - t := by omega
      have e2 : (cel land k - cel land t) + (cel land p - cel land k) = cel land p - cel land t := by omega
      rw [e1, e2]
      exact z)
    have e1 : t - s + (k - t) + (p - k) = p - s := by omega
    have e2 : cel land t - cel land s + (cel land k - cel land t) + (cel land p - cel land k) = cel land p - cel land s := by omega
    have e3 : cel land t - cel land s + (cel land k - cel land t) = cel land k - cel land s := by omega
    have e4 : t - s + (k - t) = k - s := by omega
    rw [e1, e2, e3, e4] at y
    exact y
theorem popN_hull {land : List Int} {p : Int} : ∀ {st : List Int}, HullR land st → TopR land p st → HullR land (popN land p st) ∧ TopR land p (popN land p st) ∧ (∀ t s r, popN land p st = t :: s :: r → ¬ lowB land s p t) ∧ (st ≠ [] → popN land p st ≠ [])
  | [], _, ht => ⟨trivial, ht, fun t s r e => by simp [popN] at e, fun h => absurd rfl h⟩
  | [t], h, ht => ⟨h, ht, fun a s r e => by simp [popN] at e, fun _ z => by simp [popN] at z⟩
  | t :: s :: r, h, ht => by
    obtain ⟨h1, h2, h3, h4⟩ := h
    obtain ⟨t1, t2⟩ := ht
    unfold popN
    by_cases hl : lowB land s p t
    · rw [if_pos hl]
      obtain ⟨a, b, c, d⟩ := popN_hull (st := s :: r) h4 ⟨by omega, fun k k1 k2 => low_mid h1 t1 hl h2 t2 k1 k2⟩
      exact ⟨a, b, c, fun _ => d (by simp)⟩
    · rw [if_neg hl]
      refine ⟨⟨h1, h2, h3, h4⟩, ⟨t1, t2⟩, fun a b r' e => ?_, fun _ z => by cases z⟩
      injection e with e1 e2
      injection e2 with e2 e3
      subst e1 e2
      exact hl
theorem ridgeR_hull (land : List Int) : ∀ i : Nat, HullR land (ridgeR land i) ∧ TopR land i (ridgeR land i)
  | 0 => ⟨trivial, rfl⟩
  | i + 1 => by
    obtain ⟨h, ht⟩ := ridgeR_hull land i
    obtain ⟨h1, h2, h3, h4⟩ := popN_hull h ht
    refine ⟨?_, ?_⟩
    · show HullR land ((i : Int) :: popN land i (ridgeR land i))
      cases hp : popN land i (ridgeR land i) with
      | nil =>
        rw [hp] at h2
        exact h2
      | cons t r =>
        rw [hp] at h1 h2 h3
        refine ⟨h2.1, h2.2, fun q r' e => ?_, h1⟩
        subst e
        exact h3 t q r' rfl
    · exact ⟨by omega, fun k k1 k2 => by omega⟩
theorem popN_mem {land : List Int} {p x : Int} : ∀ {st : List Int}, x ∈ popN land p st → x ∈ st
  | [], h => h
  | [_], h => h
  | t :: s :: r, h => by
    unfold popN at h
    by_cases hl : lowB land s p t
    · rw [if_pos hl] at h
      exact List.mem_cons_of_mem _ (popN_mem h)
    · rw [if_neg hl] at h
      exact h
theorem ridgeR_mem {land : List Int} {x : Int} : ∀ {i : Nat}, x ∈ ridgeR land i → 0 ≤ x ∧ x < (i : Int)
  | 0, h => by cases h
  | i + 1, h => by
    rcases List.mem_cons.mp h with rfl | h
    · omega
    · have z := ridgeR_mem (popN_mem h)
      omega
theorem ridgeR_top (land : List Int) (i : Nat) : ∃ r, ridgeR land (i + 1) = (i : Int) :: r := ⟨_, rfl⟩
theorem ridgeR_len (land : List Int) : ∀ i : Nat, (ridgeR land i).length ≤ i
  | 0 => Nat.le_refl _
  | i + 1 => by
    have z := ridgeR_len land i
    have : ∀ st : List Int, (popN land (i : Int) st).length ≤ st.length := by
      intro st
      induction st with
      | nil => exact Nat.le_refl _
      | cons t r ih =>
        cases r with
        | nil => exact Nat.le_refl _
        | cons s r =>
          unfold popN
          by_cases hl : lowB land s i t
          · rw [if_pos hl]
            exact Nat.le_trans ih (Nat.le_succ _)
          · rw [if_neg hl]
            exact Nat.le_refl _
    show (popN land i (ridgeR land i)).length + 1 ≤ i + 1
    have y := this (ridgeR land i)
    omega
theorem hull_pair {land : List Int} : ∀ {st : List Int}, HullR land st → ∀ (j : Nat) (t s : Int), st[j]? = some t → st[j + 1]? = some s → s < t ∧ seesP land s t
  | [], _, j, t, s, h1, _ => by simp at h1
  | [a], _, j, t, s, h1, h2 => by simp at h2
  | a :: b :: r, h, 0, t, s, h1, h2 => by
    obtain ⟨x1, x2, _, _⟩ := h
    simp at h1 h2
    subst h1 h2
    exact ⟨x1, x2⟩
  | a :: b :: r, h, j + 1, t, s, h1, h2 => hull_pair (st := b :: r) h.2.2.2 j t s (by simpa using h1) (by simpa using h2)
theorem hull_triple {land : List Int} : ∀ {st : List Int}, HullR land st → ∀ (j : Nat) (t s q : Int), st[j]? = some t → st[j + 1]? = some s → st[j + 2]? = some q → ¬ lowB land q t s
  | [], _, j, t, s, q, h1, _, _ => by simp at h1
  | [a], _, j, t, s, q, h1, h2, _ => by simp at h2
  | a :: b :: r, h, 0, t, s, q, h1, h2, h3 => by
    obtain ⟨_, _, x3, _⟩ := h
    simp at h1 h2 h3
    subst h1 h2
    cases r with
    | nil => simp at h3
    | cons c r =>
      simp at h3
      subst h3
      exact x3 c r rfl
  | a :: b :: r, h, j + 1, t, s, q, h1, h2, h3 => hull_triple (st := b :: r) h.2.2.2 j t s q (by simpa using h1) (by simpa using h2) (by simpa using h3)
theorem hull_last {land : List Int} : ∀ {st : List Int}, HullR land st → st ≠ [] → st[st.length - 1]? = some 0
  | [], _, h => absurd rfl h
  | [a], h, _ => by
    have z : a = 0 := h
    rw [z]
    rfl
  | a :: b :: r, h, _ => by
    have z := hull_last (st := b :: r) h.2.2.2 (by simp)
    simpa using z
theorem get_cel {ns : List Int} {j : Int} (h0 : 0 ≤ j) (h : j < (ns.length : Int)) : ns[j.toNat]? = some (cel ns j) := by
  unfold cel
  rw [List.getD_eq_getElem?_getD, List.getElem?_eq_getElem (by omega)]
  rfl
theorem ridge_at {land : List Int} {j : Int} (h0 : 0 ≤ j) (h : j < ((ridgeOf land).length : Int)) : (ridgeR land land.length)[(ridgeR land land.length).length - 1 - j.toNat]? = some (cel (ridgeOf land) j) := by
  have e := get_cel h0 h
  unfold ridgeOf at e h
  rw [List.length_reverse] at h
  rw [List.getElem?_reverse (by omega)] at e
  exact e
theorem ridge_pair {land : List Int} {j : Int} (h0 : 0 ≤ j) (h : j + 1 < ((ridgeOf land).length : Int)) : cel (ridgeOf land) j < cel (ridgeOf land) (j + 1) ∧ seesP land (cel (ridgeOf land) j) (cel (ridgeOf land) (j + 1)) := by
  have e1 := ridge_at (land := land) (j := j) h0 (by omega)
  have e2 := ridge_at (land := land) (j := j + 1) (by omega) h
  have hl : (ridgeOf land).length = (ridgeR land land.length).length := List.length_reverse ..
  have en : (ridgeR land land.length).length - 1 - j.toNat = (ridgeR land land.length).length - 1 - (j + 1).toNat + 1 := by omega
  rw [en] at e1
  exact hull_pair (ridgeR_hull land land.length).1 _ _ _ e2 e1
theorem ridge_triple {land : List Int} {j : Int} (h0 : 1 ≤ j) (h : j + 1 < ((ridgeOf land).length : Int)) : ¬ lowB land (cel (ridgeOf land) (j - 1)) (cel (ridgeOf land) (j + 1)) (cel (ridgeOf land) j) := by
  have e0 := ridge_at (land := land) (j := j - 1) (by omega) (by omega)
  have e1 := ridge_at (land := land) (j := j) (by omega) (by omega)
  have e2 := ridge_at (land := land) (j := j + 1) (by omega) h
  have hl : (ridgeOf land).length = (ridgeR land land.length).length := List.length_reverse ..
  have en : (ridgeR land land.length).length - 1 - j.toNat = (ridgeR land land.length).length - 1 - (j + 1).toNat + 1 := by omega
  have em : (ridgeR land land.length).length - 1 - (j - 1).toNat = (ridgeR land land.length).length - 1 - (j + 1).toNat + 2 := by omega
  rw [en] at e1
  rw [em] at e0
  exact hull_triple (ridgeR_hull land land.length).1 _ _ _ _ e2 e1 e0
theorem ridge_in {land : List Int} {j : Int} (h0 : 0 ≤ j) (h : j < ((ridgeOf land).length : Int)) : 0 ≤ cel (ridgeOf land) j ∧ cel (ridgeOf land) j < (land.length : Int) :=
  ridgeR_mem (List.mem_of_getElem? (ridge_at h0 h))
theorem ridge_ends {land : List Int} (h : 1 ≤ land.length) : 1 ≤ (ridgeOf land).length ∧ cel (ridgeOf land) 0 = 0 ∧ cel (ridgeOf land) (((ridgeOf land).length : Int) + -1) = (land.length : Int) - 1 := by
  have hl : (ridgeOf land).length = (ridgeR land land.length).length := List.length_reverse ..
  obtain ⟨n, hn⟩ : ∃ n, land.length = n + 1 := ⟨land.length - 1, by omega⟩
  obtain ⟨r, hr⟩ := ridgeR_top land n
  have h1 : 1 ≤ (ridgeR land land.length).length := by
    rw [hn, hr, List.length_cons]
    omega
  refine ⟨by omega, ?_, ?_⟩
  · have e0 := ridge_at (land := land) (j := 0) (by omega) (by omega)
    have e1 := hull_last (ridgeR_hull land land.length).1 (fun z => by rw [z] at h1; simp at h1)
    rw [show (ridgeR land land.length).length - 1 - (0 : Int).toNat = (ridgeR land land.length).length - 1 from by omega, e1] at e0
    exact (Option.some.inj e0).symm
  · have e0 := ridge_at (land := land) (j := ((ridgeOf land).length : Int) + -1) (by omega) (by omega)
    rw [show (ridgeR land land.length).length - 1 - (((ridgeOf land).length : Int) + -1).toNat = 0 from by omega, hn, hr] at e0
    have e1 : (n : Int) = cel (ridgeOf land) (((ridgeOf land).length : Int) + -1) := Option.some.inj e0
    omega
theorem cel_rev1 (t : Int) (r : List Int) : cel (t :: r).reverse (((t :: r).reverse.length : Int) + -1) = t := by
  have hl : (t :: r).reverse.length = r.length + 1 := by simp
  have e := get_cel (ns := (t :: r).reverse) (j := ((t :: r).reverse.length : Int) + -1) (by omega) (by omega)
  rw [List.getElem?_reverse (by rw [List.length_cons]; omega), show (t :: r).length - 1 - (((t :: r).reverse.length : Int) + -1).toNat = 0 from by rw [List.length_cons]; omega] at e
  exact (Option.some.inj e).symm
theorem cel_rev2 (t s : Int) (r : List Int) : cel (t :: s :: r).reverse (((t :: s :: r).reverse.length : Int) + -2) = s := by
  have hl : (t :: s :: r).reverse.length = r.length + 2 := by simp
  have e := get_cel (ns := (t :: s :: r).reverse) (j := ((t :: s :: r).reverse.length : Int) + -2) (by omega) (by omega)
  rw [List.getElem?_reverse (by rw [List.length_cons, List.length_cons]; omega), show (t :: s :: r).length - 1 - (((t :: s :: r).reverse.length : Int) + -2).toNat = 1 from by rw [List.length_cons, List.length_cons]; omega] at e
  exact (Option.some.inj e).symm
end Hx
namespace Hx
open PySem PySem.Spec PyProof.Rows L2 Evl
def RPasses (K : PySem.W.Frag) (vs : List V) (H : Hp) (v : V) : Prop := ∃ (l : Addr) (land : List Int) (a k b : Int), vs = [.ref l, .int a, .int k, .int b] ∧ 0 ≤ a ∧ a < (land.length : Int) ∧ 0 ≤ k ∧ k < (land.length : Int) ∧ 0 ≤ b ∧ b < (land.length : Int) ∧ land.length ≤ 1000 ∧ SqL K H l (land.map V.int) ∧
  v = .bl (decide (lowB land a b k))
def RRidge (K : PySem.W.Frag) (vs : List V) (H : Hp) (xs : List V) : Prop := ∃ (l : Addr) (land : List Int), vs = [.ref l] ∧ land.length ≤ 1000 ∧ SqL K H l (land.map V.int) ∧ xs = (ridgeOf land).map V.int
section
variable {K : PySem.W.Frag} {σ : L2.St} {H : Hp} {ta : TA} {E : XK}
theorem ev_passes {l : Addr} {land : List Int} {a k b : Int} (h : EvA ta σ H [.ref l, .int a, .int k, .int b]) (hs : SqL K H l (land.map V.int)) (a0 : 0 ≤ a) (a1 : a < (land.length : Int)) (k0 : 0 ≤ k) (k1 : k < (land.length : Int)) (b0 : 0 ≤ b) (b1 : b < (land.length : Int)) (h3 : land.length ≤ 1000) :
    Ev (tCall (spV (RPasses K)) [] E ta) σ H (.bl (decide (lowB land a b k))) := ev_cal h fun _ e => ⟨l, land, a, k, b, rfl, a0, a1, k0, k1, b0, b1, h3, ex_l e hs, rfl⟩
theorem el_ridge {l : Addr} {land : List Int} (h : EvA ta σ H [.ref l]) (hs : SqL K H l (land.map V.int)) (h3 : land.length ≤ 1000) : EvL (tCall (spL (RRidge K)) [] E ta) σ H ((ridgeOf land).map V.int) :=
  el_cal h fun _ e => ⟨l, land, rfl, h3, ex_l e hs, rfl⟩
end
end Hx
/-! Signals: how many steps from hill to hill. -/
namespace Hx
theorem mem_viewOf {land : List Int} {a y : Int} (h0 : 0 ≤ a) (h1 : a < (land.length : Int)) : y ∈ viewOf land a ↔ 0 ≤ y ∧ y < (land.length : Int) ∧ y ≠ a ∧ seesP land (min a y) (max a y) := by
  rw [view_due land h0 h1]
  unfold dueN
  rw [List.mem_filter, List.mem_map, Bool.and_eq_true, decide_eq_true_eq, seesB_iff]
  constructor
  · rintro ⟨⟨j, hj, rfl⟩, h2, h3⟩
    have hj := List.mem_range.mp hj
    exact ⟨by omega, by omega, h2, h3⟩
  · rintro ⟨h2, h3, h4, h5⟩
    exact ⟨⟨y.toNat, List.mem_range.mpr (by omega), by omega⟩, h4, h5⟩
def nearP (land : List Int) (x y : Int) : Prop := 0 ≤ x ∧ x < (land.length : Int) ∧ y ∈ viewOf land x
theorem nearP_comm {land : List Int} {x y : Int} (h : nearP land x y) : nearP land y x := by
  obtain ⟨h0, h1, h2⟩ := h
  obtain ⟨a, b, c, d⟩ := (mem_viewOf h0 h1).mp h2
  refine ⟨a, b, (mem_viewOf a b).mpr ⟨h0, h1, fun z => c z.symm, ?_⟩⟩
  rw [Int.min_comm, Int.max_comm]
  exact d
theorem nearP_next {land : List Int} {x y : Int} (h0 : 0 ≤ x) (h1 : x < (land.length : Int)) (h2 : 0 ≤ y) (h3 : y < (land.length : Int)) (h : y = x + 1 ∨ x = y + 1) : nearP land x y :=
  ⟨h0, h1, (mem_viewOf h0 h1).mpr ⟨h2, h3, by omega, fun k k1 k2 => by omega⟩⟩
def reachB (land : List Int) (a : Int) : Nat → Int → Bool
  | 0, b => decide (b = a)
  | k + 1, b => reachB land a k b || (viewOf land b).any (reachB land a k)
theorem reach_le {land : List Int} {a b : Int} {j k : Nat} (h : j ≤ k) (hj : reachB land a j b = true) : reachB land a k b = true := by
  induction k with
  | zero =>
    have e : j = 0 := by omega
    rw [← e]
    exact hj
  | succ k ih =>
    by_cases e : j = k + 1
    · rw [← e]
      exact hj
    · show (reachB land a k b || _) = true
      rw [ih (by omega), Bool.true_or]
theorem reach_near {land : List Int} {a x y : Int} {k : Nat} (h : nearP land x y) (hy : reachB land a k y = true) : reachB land a (k + 1) x = true := by
  show (reachB land a k x || _) = true
  rw [Bool.or_eq_true]
  exact .inr (List.any_eq_true.mpr ⟨y, h.2.2, hy⟩)
theorem reach_far {land : List Int} {a : Int} (a0 : 0 ≤ a) (a1 : a < (land.length : Int)) : ∀ (k : Nat) (b : Int), 0 ≤ b → b < (land.length : Int) → (b - a).natAbs = k → reachB land a k b = true
  | 0, b, b0, b1, h => decide_eq_true (by omega)
  | k + 1, b, b0, b1, h => by
    by_cases hb : a < b
    · exact reach_near (nearP_next (y := b - 1) b0 b1 (by omega) (by omega) (by omega)) (reach_far a0 a1 k (b - 1) (by omega) (by omega) (by omega))
    · exact reach_near (nearP_next (y := b + 1) b0 b1 (by omega) (by omega) (by omega)) (reach_far a0 a1 k (b + 1) (by omega) (by omega) (by omega))
def leastK (f : Nat → Bool) : Nat → Nat → Nat
  | k, 0 => k
  | k, n + 1 => if f k = true then k else leastK f (k + 1) n
theorem leastK_spec {f : Nat → Bool} : ∀ (n k : Nat), f (k + n) = true → f (leastK f k n) = true ∧ (∀ i, k ≤ i → i < leastK f k n → f i = false) ∧ k ≤ leastK f k n ∧ leastK f k n ≤ k + n
  | 0, k, h => ⟨h, fun i h1 h2 => by have h2 : i < k := h2; omega, Nat.le_refl _, Nat.le_refl _⟩
  | n + 1, k, h => by
    unfold leastK
    by_cases hk : f k = true
    · rw [if_pos hk]
      exact ⟨hk, fun i h1 h2 => by omega, Nat.le_refl _, by omega⟩
    · rw [if_neg hk]
      obtain ⟨a, b, c, d⟩ := leastK_spec n (k + 1) (by rw [show k + 1 + n = k + (n + 1) from by omega]; exact h)
      refine ⟨a, fun i h1 h2 => ?_, by omega, by omega⟩
      by_cases e : i = k
      · rw [e]
        exact Bool.eq_false_iff.mpr hk
      · exact b i (by omega) h2
def dist (land : List Int) (a b : Int) : Nat := leastK (fun k => reachB land a k b) 0 (b - a).natAbs
section
variable {land : List Int} {a b x y : Int}
theorem dist_spec (a0 : 0 ≤ a) (a1 : a < (land.length : Int)) (b0 : 0 ≤ b) (b1 : b < (land.length : Int)) : reachB land a (dist land a b) b = true ∧ (∀ i, i < dist land a b → reachB land a i b = false) ∧ dist land a b ≤ (b - a).natAbs := by
  obtain ⟨h1, h2, _, h4⟩ := leastK_spec (f := fun k => reachB land a k b) (b - a).natAbs 0 (by rw [Nat.zero_add]; exact reach_far a0 a1 _ b b0 b1 rfl)
  exact ⟨h1, fun i hi => h2 i (Nat.zero_le _) hi, by rw [Nat.zero_add] at h4; exact h4⟩
theorem dist_le {k : Nat} (a0 : 0 ≤ a) (a1 : a < (land.length : Int)) (b0 : 0 ≤ b) (b1 : b < (land.length : Int)) (h : reachB land a k b = true) : dist land a b ≤ k := by
  by_cases hk : k < dist land a b
  · have z := (dist_spec a0 a1 b0 b1).2.1 k hk
    rw [h] at z
    cases z
  · omega
theorem dist_self (a0 : 0 ≤ a) (a1 : a < (land.length : Int)) : dist land a a = 0 := by
  have z := dist_le a0 a1 a0 a1 (k := 0) (land := land) (decide_eq_true rfl)
  omega
theorem dist_pos (a0 : 0 ≤ a) (a1 : a < (land.length : Int)) (b0 : 0 ≤ b) (b1 : b < (land.length : Int)) (h : b ≠ a) : 0 < dist land a b := by
  by_cases e : dist land a b = 0
  · have z := (dist_spec a0 a1 b0 b1).1
    rw [e] at z
    exact absurd (of_decide_eq_true z) h
  · omega
theorem near_in (h : nearP land x y) : 0 ≤ x ∧ x < (land.length : Int) ∧ 0 ≤ y ∧ y < (land.length : Int) := by
  obtain ⟨h0, h1, h2⟩ := h
  obtain ⟨p, q, _⟩ := (mem_viewOf h0 h1).mp h2
  exact ⟨h0, h1, p, q⟩
theorem dist_near (a0 : 0 ≤ a) (a1 : a < (land.length : Int)) (h : nearP land x y) : dist land a x ≤ dist land a y + 1 := by
  obtain ⟨x0, x1, y0, y1⟩ := near_in h
  exact dist_le a0 a1 x0 x1 (reach_near h (dist_spec a0 a1 y0 y1).1)
theorem dist_pred (a0 : 0 ≤ a) (a1 : a < (land.length : Int)) (b0 : 0 ≤ b) (b1 : b < (land.length : Int)) (h : b ≠ a) : ∃ y, nearP land b y ∧ dist land a y + 1 = dist land a b := by
  have hp := dist_pos a0 a1 b0 b1 h
  obtain ⟨h1, h2, _⟩ := dist_spec a0 a1 b0 b1
  obtain ⟨k, hk⟩ : ∃ k, dist land a b = k + 1 := ⟨dist land a b - 1, by omega⟩
  have h3 := h2 k (by omega)
  rw [hk] at h1
  have h1 : (reachB land a k b || (viewOf land b).any (reachB land a k)) = true := h1
  rw [h3, Bool.false_or] at h1
  obtain ⟨y, hy, hr⟩ := List.any_eq_true.mp h1
  have hn : nearP land b y := ⟨b0, b1, hy⟩
  obtain ⟨_, _, y0, y1⟩ := near_in hn
  have z := dist_le a0 a1 y0 y1 hr
  have w := dist_near a0 a1 hn
  exact ⟨y, hn, by omega⟩
theorem dist_down (a0 : 0 ≤ a) (a1 : a < (land.length : Int)) {m : Nat} : ∀ (j : Nat) (b : Int), 0 ≤ b → b < (land.length : Int) → dist land a b = m + j → ∃ y, 0 ≤ y ∧ y < (land.length : Int) ∧ dist land a y = m
  | 0, b, b0, b1, h => ⟨b, b0, b1, h⟩
  | j + 1, b, b0, b1, h => by
    have hne : b ≠ a := fun z => by
      rw [z, dist_self a0 a1] at h
      omega
    obtain ⟨y, hn, e⟩ := dist_pred a0 a1 b0 b1 hne
    obtain ⟨_, _, y0, y1⟩ := near_in hn
    exact dist_down a0 a1 j y y0 y1 (by omega)
theorem dist_lt (a0 : 0 ≤ a) (a1 : a < (land.length : Int)) (b0 : 0 ≤ b) (b1 : b < (land.length : Int)) : dist land a b < land.length := by
  have z := (dist_spec a0 a1 b0 b1).2.2
  omega
end
def hopsOf (land : List Int) (a : Int) : List Int := (List.range land.length).map fun (k : Nat) => (dist land a (k : Int) : Int)
theorem hopsOf_len (land : List Int) (a : Int) : (hopsOf land a).length = land.length := by
  unfold hopsOf
  rw [List.length_map, List.length_range]
theorem cel_hops {land : List Int} {a b : Int} (b0 : 0 ≤ b) (b1 : b < (land.length : Int)) : cel (hopsOf land a) b = (dist land a b : Int) := by
  unfold hopsOf cel
  rw [List.getD_eq_getElem?_getD, List.getElem?_map, List.getElem?_range (by omega)]
  have e : ((b.toNat : Nat) : Int) = b := by omega
  show (dist land a ((b.toNat : Nat) : Int) : Int) = _
  rw [e]
/-! ### hills on a straight line -/
theorem line_sees {land : List Int} {t u : Int} (hl : ∀ j : Int, 0 ≤ j → j < (land.length : Int) → cel land j = t * j + u) {x y : Int} (x0 : 0 ≤ x) (h : x + 1 < y) (y1 : y < (land.length : Int)) : ¬ seesP land x y := fun hs => by
  have z := hs (x + 1) (by omega) h
  unfold lowB at z
  rw [hl x x0 (by omega), hl y (by omega) y1, hl (x + 1) (by omega) (by omega)] at z
  grind
theorem line_dist {land : List Int} {t u a : Int} (hl : ∀ j : Int, 0 ≤ j → j < (land.length : Int) → cel land j = t * j + u) : ∀ (k : Nat) (b : Int), 0 ≤ b → b < (land.length : Int) → reachB land a k b = true → (b - a).natAbs ≤ k
  | 0, b, _, _, h => by
    have z : b = a := of_decide_eq_true h
    omega
  | k + 1, b, b0, b1, h => by
    have h : (reachB land a k b || (viewOf land b).any (reachB land a k)) = true := h
    rcases Bool.or_eq_true .. |>.mp h with h | h
    · have z := line_dist hl k b b0 b1 h
      omega
    · obtain ⟨y, hy, hr⟩ := List.any_eq_true.mp h
      obtain ⟨y0, y1, yn, hs⟩ := (mem_viewOf b0 b1).mp hy
      have z := line_dist hl k y y0 y1 hr
      by_cases hf : min b y + 1 < max b y
      · exact absurd hs (line_sees hl (by omega) hf (by omega))
      · omega
theorem line_hops {land : List Int} {t u a : Int} (hl : ∀ j : Int, 0 ≤ j → j < (land.length : Int) → cel land j = t * j + u) (a0 : 0 ≤ a) (a1 : a < (land.length : Int)) {b : Int} (b0 : 0 ≤ b) (b1 : b < (land.length : Int)) : dist land a b = (b - a).natAbs := by
  obtain ⟨h1, _, h3⟩ := dist_spec a0 a1 b0 b1
  have z := line_dist hl _ b b0 b1 h1
  omega
/-! ### a list of different places is no longer than the land -/
theorem nodup_len : ∀ (n : Nat) (xs : List Int), xs.Nodup → (∀ x ∈ xs, 0 ≤ x ∧ x < (n : Int)) → xs.length ≤ n
  | 0, [], _, _ => Nat.le_refl _
  | 0, x :: r, _, h => by
    have z := h x (List.mem_cons_self ..)
    omega
  | n + 1, xs, hn, h => by
    by_cases hm : (n : Int) ∈ xs
    · have z := nodup_len n (xs.erase (n : Int)) (hn.erase _) fun x hx => by
        obtain ⟨h1, h2⟩ := (hn.mem_erase_iff).mp hx
        have := h x h2
        omega
      rw [List.length_erase_of_mem hm] at z
      omega
    · have z := nodup_len n xs hn fun x hx => by
        have := h x hx
        have hne : x ≠ (n : Int) := fun z => hm (z ▸ hx)
        omega
      omega
end Hx
namespace Hx
open PySem PySem.Spec PyProof.Rows L2 Evl
/-- the steps as they are written down: those of the places that T tells -/
def stepsV (land : List Int) (a : Int) (T : Int → Bool) : List V := (List.range land.length).map fun (k : Nat) => if T (k : Int) = true then .int (dist land a (k : Int) : Int) else .non
theorem stepsV_len (land : List Int) (a : Int) (T : Int → Bool) : (stepsV land a T).length = land.length := by
  unfold stepsV
  rw [List.length_map, List.length_range]
theorem stepsV_at {land : List Int} {a : Int} {T : Int → Bool} {j : Nat} (h : j < land.length) : (stepsV land a T)[j]? = some (if T (j : Int) = true then .int (dist land a (j : Int) : Int) else .non) := by
  unfold stepsV
  rw [List.getElem?_map, List.getElem?_range h]
  rfl
theorem stepsV_congr {land : List Int} {a : Int} {T T' : Int → Bool} (h : ∀ b : Int, 0 ≤ b → b < (land.length : Int) → T b = T' b) : stepsV land a T = stepsV land a T' := by
  unfold stepsV
  refine List.map_congr_left fun k hk => ?_
  have hk := List.mem_range.mp hk
  rw [h (k : Int) (by omega) (by omega)]
theorem stepsV_set {land : List Int} {a : Int} {T : Int → Bool} {j : Nat} (h : j < land.length) : (stepsV land a T).set j (.int (dist land a (j : Int) : Int)) = stepsV land a fun b => T b || decide (b = (j : Int)) := by
  refine List.ext_getElem? fun i => ?_
  by_cases hi : i < land.length
  · rw [stepsV_at hi]
    by_cases e : i = j
    · subst e
      rw [List.getElem?_set_self (by rw [stepsV_len]; exact hi), decide_eq_true rfl, Bool.or_true, if_pos rfl]
    · rw [List.getElem?_set_ne (fun z => e z.symm), stepsV_at hi, decide_eq_false (by omega), Bool.or_false]
  · rw [List.getElem?_eq_none (by rw [List.length_set, stepsV_len]; omega), List.getElem?_eq_none (by rw [stepsV_len]; omega)]
theorem stepsV_all (land : List Int) (a : Int) : stepsV land a (fun _ => true) = (hopsOf land a).map V.int := by
  unfold stepsV hopsOf
  rw [List.map_map]
  rfl
theorem stepsV_none (land : List Int) (a : Int) : stepsV land a (fun _ => false) = List.replicate land.length .non := by
  unfold stepsV
  exact List.eq_replicate_iff.mpr ⟨by rw [List.length_map, List.length_range], fun b hb => by obtain ⟨_, _, e⟩ := List.mem_map.mp hb; exact e.symm⟩
/-- the places of one distance -/
def LevP (land : List Int) (a : Int) (m : Nat) (xs : List Int) : Prop := xs.Nodup ∧ ∀ b, b ∈ xs ↔ 0 ≤ b ∧ b < (land.length : Int) ∧ dist land a b = m
theorem LevP.len {land : List Int} {a : Int} {m : Nat} {xs : List Int} (h : LevP land a m xs) : xs.length ≤ land.length := nodup_len _ xs h.1 fun x hx => by
  obtain ⟨h1, h2, _⟩ := (h.2 x).mp hx
  exact ⟨h1, h2⟩
def RHops (K : PySem.W.Frag) (vs : List V) (H : Hp) (xs : List V) : Prop := ∃ (l : Addr) (land : List Int) (a : Int), vs = [.ref l, .int a] ∧ 0 ≤ a ∧ a < (land.length : Int) ∧ land.length ≤ 1000 ∧ SqL K H l (land.map V.int) ∧ xs = (hopsOf land a).map V.int
def spCarry (K : PySem.W.Frag) : Sp := fun vs H Q _ => ∃ (Hb : Hp) (l s nw : Addr) (land : List Int) (a : Int) (m : Nat) (new : List Int), vs = [.ref l, .ref s, .ref nw] ∧ Ex Hb H ∧ Hb s = none ∧ SqL K Hb l (land.map V.int) ∧ SqL K Hb nw (new.map V.int) ∧
  H s = some (.lst (stepsV land a fun b => decide (dist land a b ≤ m))) ∧ 0 ≤ a ∧ a < (land.length : Int) ∧ land.length ≤ 1000 ∧ LevP land a m new ∧
  ∀ p H' reached, H p = none → Ex Hb H' → H' s = some (.lst (stepsV land a fun b => decide (dist land a b ≤ m + 1))) → H' p = some (.lst (reached.map V.int)) → p ≠ s → LevP land a (m + 1) reached → Q (.ref p) H'
section
variable {K : PySem.W.Frag} {σ : L2.St} {H : Hp} {ta : TA} {te tb : TE} {E : XK} {D : Ends} {tu tz : TS} {x : V}
theorem el_hops {N l : Addr} {land : List Int} {a : Int} (h : EvA ta σ H [.ref l, .int a]) (hs : SqL K H l (land.map V.int)) (h1 : 0 ≤ a) (h2 : a < (land.length : Int)) (h3 : land.length ≤ 1000) : EvL (tCall (spLX (RHops K) (RNoPlace K N)) [] E ta) σ H ((hopsOf land a).map V.int) :=
  el_cal0 h fun _ e => ⟨l, land, a, rfl, h1, h2, h3, ex_l e hs, rfl⟩
theorem el_rep {k : Int} (h : EvL te σ H [x]) (hk : Ev tb σ H (.int k)) (h0 : 0 ≤ k) (h1 : k ≤ 100000) : EvL (tOp rRep te tb) σ H (List.replicate k.toNat x) := fun H1 e1 Q q =>
  h H1 e1 _ fun p H2 np e2 hp => hk H2 (e1.trans e2) _ fun H3 e3 => ⟨p, k, [x], rfl, rfl, e3 _ _ hp, by omega, by omega, sz_of (by rw [List.length_singleton]; omega), fun r hr => by
    have z : (List.replicate k.toNat [x]).flatten = List.replicate k.toNat x := by
      rw [List.flatten_replicate_singleton]
    rw [z]
    exact q r _ (fresh_back (e2.trans e3) hr) ((e2.trans e3).trans (Ex.new hr)) upd_same⟩
/-- the truth of a list -/
theorem et_truL {p : Addr} {xs : List V} (h : Ev te σ H (.ref p)) (hp : SqL K H p xs) : EvT (fun σ H Q => te σ H fun x H' => ∃ k, TruV K x H' k ∧ Q k H') σ H (!xs.isEmpty) := fun H1 e1 Q q =>
  h H1 e1 _ fun H2 e2 => ⟨!xs.isEmpty, .inl ⟨xs, ex_l (e1.trans e2) hp, rfl⟩, q H2 e2⟩
theorem s_forNLn {xs : List V} {tl : TE} {j : Nat} (h : EvL tl σ H xs) (Pv : Addr → Nat → L2.St → Hp → Prop) (h0 : ∀ p H1, H p = none → Ex H H1 → H1 p = some (.lst xs) → Pv p 0 σ H1) (hl : ∀ p i σ' H', i ≤ xs.length → Pv p i σ' H' → SqL K H' p xs)
    (hs : ∀ p i x σ' H', xs[i]? = some x → Pv p i σ' H' → tu { D with nx := Pv p (i + 1), ct := Pv p (i + 1), bk := D.nx } (σ'.set j (some x)) H') (hd : ∀ p σ' H', Pv p xs.length σ' H' → D.nx σ' H') : tFor (iList K tl) (gName j) tu D σ H :=
  s_forNL h Pv h0 hl hs hd
theorem s_asgCall {sp : Sp} {vs : List V} {i : Nat} (h : EvA ta σ H vs) (k : ∀ H1, Ex H H1 → sp vs H1 (fun v H2 => D.nx (σ.set i (some v)) H2) E) : tAsg (tCall sp [] E ta) (gName i) D σ H := h H (Ex.refl H) _ fun H1 e1 => by
  have z := k H1 e1
  rw [← List.append_nil vs] at z
  exact z
theorem q_asgCall {sp : Sp} {vs : List V} {i : Nat} (h : EvA ta σ H vs) (k : ∀ H1, Ex H H1 → sp vs H1 (fun v H2 => tz D (σ.set i (some v)) H2) E) : tSeq (tAsg (tCall sp [] E ta) (gName i)) tz D σ H := s_asgCall (D := { D with nx := tz D }) h k
theorem ex_add {H H' : Hp} {p : Addr} {o : HO} (e : Ex H H') (h : H' p = some o) : Ex (upd H p o) H' := fun b u hb => by
  by_cases z : b = p
  · subst z
    rw [upd_same] at hb
    rw [h]
    exact hb
  · rw [upd_ne z] at hb
    exact e b u hb
/-- the first argument of a call that hands back a list is a new list -/
theorem el_cal0L {t1 : TE} {tr : TA} {xs vs ys : List V} {RE : List V → Hp → Addr → Prop} {RL : List V → Hp → List V → Prop} (h1 : EvL t1 σ H xs) (hr : EvA tr σ H vs) (hs : ∀ p H1, Ex H H1 → H1 p = some (.lst xs) → RL (.ref p :: vs) H1 ys) : EvL (tCall (spLX RL RE) [] E (tCons t1 tr)) σ H ys := fun H1 e1 Q q =>
  h1 H1 e1 _ fun p H2 _ e2 hp => hr H2 (e1.trans e2) _ fun H3 e3 => .inl ⟨ys, by rw [List.append_nil]; exact hs p H3 ((e1.trans e2).trans e3) (e3 _ _ hp), fun r H4 hr e4 h4 => q r H4 (fresh_back (e2.trans e3) hr) ((e2.trans e3).trans e4) h4⟩
theorem ev_any {bs : List Bool} (h : EvL te σ H (bs.map V.bl)) : Ev (tCB (rAny K) (tCons te tNil)) σ H (.bl (bs.any id)) := fun H1 e1 Q q =>
  h H1 e1 _ fun p H2 _ e2 hp => ⟨p, bs, rfl, sq_of hp, q H2 e2⟩
theorem given_allB {n : Nat} {v : Nat → V} {g : Nat → Bool} (h : ∀ i, v i = .bl (g i)) : given n (fun _ => true) v = ((List.range n).map g).map V.bl := by
  unfold given
  rw [List.filter_eq_self.mpr (fun _ _ => rfl), List.map_map]
  exact List.map_congr_left fun i _ => h i
theorem any_range {n : Nat} {g : Nat → Bool} : ((List.range n).map g).any id = (List.range n).any g := by
  rw [List.any_map]
  rfl
theorem ev_minV {p : Addr} {ms : List Int} {m : Int} (h : Ev te σ H (.ref p)) (hp : SqL K H p (ms.map V.int)) (hm : m ∈ ms) (hge : ∀ y ∈ ms, m ≤ y) : Ev (tCB (rMin K) (tCons te tNil)) σ H (.int m) := fun H1 e1 Q q =>
  h H1 e1 _ fun H2 e2 => ⟨p, ms, rfl, ex_l (e1.trans e2) hp, List.length_pos_of_mem hm, fun m2 hm2 hge2 => by
    have e : m2 = m := Int.le_antisymm (hge2 m hm) (hge m2 hm2)
    rw [e]
    exact q H2 e2⟩
def RNear (K : PySem.W.Frag) (vs : List V) (H : Hp) (xs : List V) : Prop := ∃ (l : Addr) (land : List Int) (a : Int), vs = [.ref l, .int a] ∧ 0 ≤ a ∧ a < (land.length : Int) ∧ land.length ≤ 1000 ∧ SqL K H l (land.map V.int) ∧ xs = (viewOf land a).map V.int
theorem el_near {l : Addr} {land : List Int} {a : Int} (h : EvA ta σ H [.ref l, .int a]) (hs : SqL K H l (land.map V.int)) (h1 : 0 ≤ a) (h2 : a < (land.length : Int)) (h3 : land.length ≤ 1000) : EvL (tCall (spL (RNear K)) [] E ta) σ H ((viewOf land a).map V.int) :=
  el_cal h fun _ e => ⟨l, land, a, rfl, h1, h2, h3, ex_l e hs, rfl⟩
end
end Hx
/-! Ways: step by step to the least place that is one step nearer. -/
namespace Hx
def minL : List Int → Int
  | [] => 0
  | [x] => x
  | x :: y :: r => min x (minL (y :: r))
theorem minL_mem : ∀ {xs : List Int}, xs ≠ [] → minL xs ∈ xs
  | [], h => absurd rfl h
  | [x], _ => List.mem_singleton.mpr rfl
  | x :: y :: r, _ => by
    have z := minL_mem (xs := y :: r) (by simp)
    show min x (minL (y :: r)) ∈ _
    by_cases h : x ≤ minL (y :: r)
    · rw [Int.min_eq_left h]
      exact List.mem_cons_self ..
    · rw [Int.min_eq_right (by omega)]
      exact List.mem_cons_of_mem _ z
theorem minL_le : ∀ {xs : List Int} {y : Int}, y ∈ xs → minL xs ≤ y
  | [], y, h => absurd h (List.not_mem_nil)
  | [x], y, h => by
    rw [List.mem_singleton.mp h]
    exact Int.le_refl _
  | x :: z :: r, y, h => by
    show min x (minL (z :: r)) ≤ y
    rcases List.mem_cons.mp h with rfl | h
    · omega
    · have := minL_le (xs := z :: r) h
      omega
def lowsOf (land : List Int) (b h : Int) : List Int := (viewOf land h).filter fun p => decide ((dist land b p : Int) < (dist land b h : Int))
def nextOf (land : List Int) (b h : Int) : Int := minL (lowsOf land b h)
def stepN (land : List Int) (b a : Int) : Nat → Int
  | 0 => a
  | i + 1 => nextOf land b (stepN land b a i)
def wayOf (land : List Int) (a b : Int) : List Int := (List.range (dist land b a + 1)).map (stepN land b a)
section
variable {land : List Int} {a b h x : Int}
theorem lows_ne (b0 : 0 ≤ b) (b1 : b < (land.length : Int)) (h0 : 0 ≤ h) (h1 : h < (land.length : Int)) (hn : h ≠ b) : lowsOf land b h ≠ [] := by
  obtain ⟨y, hy, hd⟩ := dist_pred b0 b1 h0 h1 hn
  intro z
  have hm : y ∈ lowsOf land b h := List.mem_filter.mpr ⟨hy.2.2, decide_eq_true (by omega)⟩
  rw [z] at hm
  exact absurd hm (List.not_mem_nil)
theorem next_spec (b0 : 0 ≤ b) (b1 : b < (land.length : Int)) (h0 : 0 ≤ h) (h1 : h < (land.length : Int)) (hn : h ≠ b) : nearP land h (nextOf land b h) ∧ dist land b (nextOf land b h) + 1 = dist land b h := by
  obtain ⟨hm, hd⟩ := List.mem_filter.mp (minL_mem (lows_ne b0 b1 h0 h1 hn))
  have hd := of_decide_eq_true hd
  have hnear : nearP land h (nextOf land b h) := ⟨h0, h1, hm⟩
  have z := dist_near b0 b1 hnear
  refine ⟨hnear, ?_⟩
  have hd : (dist land b (nextOf land b h) : Int) < (dist land b h : Int) := hd
  omega
theorem lows_eq (b0 : 0 ≤ b) (b1 : b < (land.length : Int)) (h0 : 0 ≤ h) (h1 : h < (land.length : Int)) : lowsOf land b h = (viewOf land h).filter fun p => decide ((dist land b p : Int) = (dist land b h : Int) - 1) := by
  unfold lowsOf
  refine List.filter_congr fun p hp => ?_
  have z := dist_near b0 b1 (x := h) (y := p) ⟨h0, h1, hp⟩
  rw [Bool.eq_iff_iff, decide_eq_true_eq, decide_eq_true_eq]
  omega
theorem step_spec (a0 : 0 ≤ a) (a1 : a < (land.length : Int)) (b0 : 0 ≤ b) (b1 : b < (land.length : Int)) : ∀ i : Nat, i ≤ dist land b a → 0 ≤ stepN land b a i ∧ stepN land b a i < (land.length : Int) ∧ dist land b (stepN land b a i) + i = dist land b a
  | 0, _ => ⟨a0, a1, rfl⟩
  | i + 1, hi => by
    obtain ⟨s0, s1, sd⟩ := step_spec a0 a1 b0 b1 i (by omega)
    have hne : stepN land b a i ≠ b := fun z => by
      rw [z, dist_self b0 b1] at sd
      omega
    obtain ⟨hn, hd⟩ := next_spec b0 b1 s0 s1 hne
    obtain ⟨_, _, n0, n1⟩ := near_in hn
    refine ⟨n0, n1, ?_⟩
    show dist land b (nextOf land b (stepN land b a i)) + (i + 1) = _
    omega
theorem wayOf_len : (wayOf land a b).length = dist land b a + 1 := by
  unfold wayOf
  rw [List.length_map, List.length_range]
end
def pathN (land : List Int) (b a : Int) (i : Nat) : List Int := (List.range (i + 1)).map (stepN land b a)
theorem pathN_zero (land : List Int) (b a : Int) : pathN land b a 0 = [a] := rfl
theorem pathN_succ (land : List Int) (b a : Int) (i : Nat) : pathN land b a (i + 1) = pathN land b a i ++ [nextOf land b (stepN land b a i)] := by
  unfold pathN
  rw [List.range_succ, List.map_append]
  rfl
theorem pathN_len (land : List Int) (b a : Int) (i : Nat) : (pathN land b a i).length = i + 1 := by
  unfold pathN
  rw [List.length_map, List.length_range]
theorem pathN_last (land : List Int) (b a : Int) (i : Nat) : cel (pathN land b a i) (((pathN land b a i).length : Int) + -1) = stepN land b a i := by
  have hl := pathN_len land b a i
  unfold cel
  rw [hl, show (((i + 1 : Nat) : Int) + -1).toNat = i from by omega]
  unfold pathN
  rw [List.getD_eq_getElem?_getD, List.getElem?_map, List.getElem?_range (by omega)]
  rfl
theorem wayOf_path (land : List Int) (a b : Int) : wayOf land a b = pathN land b a (dist land b a) := rfl
/-! ### on a straight line -/
theorem line_next {land : List Int} {t u b h : Int} (hl : ∀ j : Int, 0 ≤ j → j < (land.length : Int) → cel land j = t * j + u) (b0 : 0 ≤ b) (b1 : b < (land.length : Int)) (h0 : 0 ≤ h) (h1 : h < (land.length : Int)) (hn : h ≠ b) :
    nextOf land b h = if h < b then h + 1 else h - 1 := by
  obtain ⟨hnear, hd⟩ := next_spec b0 b1 h0 h1 hn
  obtain ⟨_, _, n0, n1⟩ := near_in hnear
  obtain ⟨_, _, y2, hs⟩ := (mem_viewOf h0 h1).mp hnear.2.2
  rw [line_hops hl b0 b1 n0 n1, line_hops hl b0 b1 h0 h1] at hd
  by_cases hf : min h (nextOf land b h) + 1 < max h (nextOf land b h)
  · exact absurd hs (line_sees hl (by omega) hf (by omega))
  · by_cases hb : h < b
    · rw [if_pos hb]
      omega
    · rw [if_neg hb]
      omega
theorem line_step {land : List Int} {t u a b : Int} (hl : ∀ j : Int, 0 ≤ j → j < (land.length : Int) → cel land j = t * j + u) (a0 : 0 ≤ a) (a1 : a < (land.length : Int)) (b0 : 0 ≤ b) (b1 : b < (land.length : Int)) : ∀ i : Nat, i ≤ dist land b a → stepN land b a i = if a < b then a + (i : Int) else a - (i : Int)
  | 0, _ => by
    show a = _
    split <;> omega
  | i + 1, hi => by
    have ih := line_step hl a0 a1 b0 b1 i (by omega)
    obtain ⟨s0, s1, sd⟩ := step_spec a0 a1 b0 b1 i (by omega)
    have hne : stepN land b a i ≠ b := fun z => by
      rw [z, dist_self b0 b1] at sd
      omega
    show nextOf land b (stepN land b a i) = _
    rw [line_next hl b0 b1 s0 s1 hne]
    rw [line_hops hl b0 b1 s0 s1, line_hops hl b0 b1 a0 a1] at sd
    rw [line_hops hl b0 b1 a0 a1] at hi
    rw [ih] at sd ⊢
    by_cases hab : a < b
    · rw [if_pos hab] at sd ⊢
      rw [if_pos (show a + (i : Int) < b by omega), if_pos hab]
      omega
    · rw [if_neg hab] at sd ⊢
      rw [if_neg (show ¬ a - (i : Int) < b by omega), if_neg hab]
      omega
/-! ### the law's own going out -/
def leftV (land : List Int) (b : Int) (T : Int → Bool) : List Int := (List.range land.length).map fun (k : Nat) => if T (k : Int) = true then (dist land b (k : Int) : Int) else (land.length : Int)
theorem leftV_len (land : List Int) (b : Int) (T : Int → Bool) : (leftV land b T).length = land.length := by
  unfold leftV
  rw [List.length_map, List.length_range]
theorem leftV_at {land : List Int} {b : Int} {T : Int → Bool} {j : Int} (h0 : 0 ≤ j) (h : j < (land.length : Int)) : cel (leftV land b T) j = if T j = true then (dist land b j : Int) else (land.length : Int) := by
  unfold leftV cel
  rw [List.getD_eq_getElem?_getD, List.getElem?_map, List.getElem?_range (by omega)]
  have e : ((j.toNat : Nat) : Int) = j := by omega
  show (if T ((j.toNat : Nat) : Int) = true then (dist land b ((j.toNat : Nat) : Int) : Int) else _) = _
  rw [e]
theorem leftV_congr {land : List Int} {b : Int} {T T' : Int → Bool} (h : ∀ x : Int, 0 ≤ x → x < (land.length : Int) → T x = T' x) : leftV land b T = leftV land b T' := by
  unfold leftV
  refine List.map_congr_left fun k hk => ?_
  have hk := List.mem_range.mp hk
  rw [h (k : Int) (by omega) (by omega)]
theorem leftV_set {land : List Int} {b : Int} {T : Int → Bool} {j : Nat} (h : j < land.length) : (leftV land b T).set j (dist land b (j : Int) : Int) = leftV land b fun x => T x || decide (x = (j : Int)) := by
  unfold leftV
  refine List.ext_getElem? fun i => ?_
  by_cases hi : i < land.length
  · rw [List.getElem?_map, List.getElem?_range hi]
    by_cases e : i = j
    · subst e
      rw [List.getElem?_set_self (by rw [List.length_map, List.length_range]; exact hi)]
      simp
    · rw [List.getElem?_set_ne (fun z => e z.symm), List.getElem?_map, List.getElem?_range hi]
      have e2 : ((i : Int) = (j : Int)) = False := by
        rw [eq_iff_iff, iff_false]
        omega
      simp [e2]
  · rw [List.getElem?_eq_none (by rw [List.length_set, List.length_map, List.length_range]; omega), List.getElem?_eq_none (by rw [List.length_map, List.length_range]; omega)]
theorem leftV_all (land : List Int) (b : Int) : leftV land b (fun _ => true) = hopsOf land b := by
  unfold leftV hopsOf
  rfl
theorem leftV_none (land : List Int) (b : Int) : leftV land b (fun _ => false) = List.replicate land.length (land.length : Int) := by
  unfold leftV
  exact List.eq_replicate_iff.mpr ⟨by rw [List.length_map, List.length_range], fun x hx => by obtain ⟨_, _, e⟩ := List.mem_map.mp hx; exact e.symm⟩
end Hx
namespace Hx
open PySem PySem.Spec PyProof.Rows L2 Evl
theorem range_cel (ns : List Int) : (List.range ns.length).map (fun (k : Nat) => cel ns (k : Int)) = ns := by
  refine List.ext_getElem (by simp) fun i h1 h2 => ?_
  rw [List.getElem_map, List.getElem_range]
  unfold cel
  rw [List.getD_eq_getElem?_getD, Int.toNat_natCast, List.getElem?_eq_getElem h2]
  rfl
theorem given_filter (ns : List Int) (p : Int → Bool) : given ns.length (fun k => p (cel ns (k : Int))) (fun k => .int (cel ns (k : Int))) = (ns.filter p).map V.int := by
  have z : ((List.range ns.length).map (fun (k : Nat) => cel ns (k : Int))).filter p = ((List.range ns.length).filter (fun (k : Nat) => p (cel ns (k : Int)))).map fun (k : Nat) => cel ns (k : Int) := List.filter_map ..
  rw [range_cel] at z
  unfold given
  rw [z, List.map_map]
  rfl
/-- a list of lists of whole numbers -/
def Rows (H : Hp) (p : Addr) (rs : List (List Int)) : Prop := ∃ as : List Addr, H p = some (.lst (as.map V.ref)) ∧ as.length = rs.length ∧ ∀ (i : Nat) a r, as[i]? = some a → rs[i]? = some r → H a = some (.lst (r.map V.int))
theorem Rows.ex {H H' : Hp} {p : Addr} {rs : List (List Int)} (e : Ex H H') (h : Rows H p rs) : Rows H' p rs := by
  obtain ⟨as, h1, h2, h3⟩ := h
  exact ⟨as, e _ _ h1, h2, fun i a r ha hr => e _ _ (h3 i a r ha hr)⟩
theorem Rows.at {K : PySem.W.Frag} {H : Hp} {p : Addr} {rs : List (List Int)} {i : Nat} {r : List Int} (h : Rows H p rs) (hr : rs[i]? = some r) : ∃ (as : List Addr) (a : Addr), SqL K H p (as.map V.ref) ∧ atI (as.map V.ref) (i : Int) = some (.ref a) ∧ SqL K H a (r.map V.int) := by
  obtain ⟨as, h1, h2, h3⟩ := h
  have hi : i < as.length := by
    rw [h2]
    exact (List.getElem?_eq_some_iff.mp hr).1
  refine ⟨as, as[i], sq_of h1, atI_nat ?_, sq_of (h3 i _ r (List.getElem?_eq_getElem hi) hr)⟩
  rw [List.getElem?_map, List.getElem?_eq_getElem hi]
  rfl
def EvR (te : TE) (σ : L2.St) (H : Hp) (rs : List (List Int)) : Prop := ∀ H1, Ex H H1 → ∀ Q : VK, (∀ p H2, H1 p = none → Ex H1 H2 → Rows H2 p rs → Q (.ref p) H2) → te σ H1 Q
section
variable {K : PySem.W.Frag} {σ : L2.St} {H : Hp} {ta : TA} {te tb : TE} {E : XK} {D : Ends} {tu tz : TS} {x : V}
theorem q_asgR {i : Nat} {rs : List (List Int)} (h : EvR te σ H rs) (k : ∀ p H1, H p = none → Ex H H1 → Rows H1 p rs → tz D (σ.set i (some (.ref p))) H1) : tSeq (tAsg te (gName i)) tz D σ H := h H (Ex.refl H) _ fun p H1 np e hp => k p H1 np e hp
/-- [a new list for k in range(n)] -/
theorem er_lcR1 {j : Nat} {vs : List Nat} {n : Int} {g : Nat → List Int} (h : EvA ta σ H [.int n]) (hn : 0 ≤ n ∧ n ≤ 40000) (hw : ∀ x, wipe ((wipe σ vs).set j (some x)) vs = wipe σ vs)
    (he : ∀ (k : Nat) H1, Ex H H1 → (k : Int) < n → EvL te ((wipe σ vs).set j (some (.int (k : Int)))) H1 ((g k).map V.int)) : EvR (tLc (iRng1 ta) (gName j) tYes te vs) σ H ((List.range n.toNat).map g) := fun H0 e0 Q q => h H0 e0 _ fun H1 e1 =>
  ⟨n, rfl, by omega, by omega, fun Dl hD => by
  refine lc_range (lo := 0) (n := n.toNat) (fun m H' => Ex H1 H' ∧ ∃ as : List Addr, H' Dl = some (.lst (as.map V.ref)) ∧ as.length = m ∧ (∀ a ∈ as, a ≠ Dl) ∧ ∀ (i : Nat) a, as[i]? = some a → H' a = some (.lst ((g i).map V.int))) ⟨Ex.new hD, [], upd_same, rfl, fun a ha => absurd ha (List.not_mem_nil), fun i a ha => by simp at ha⟩ ?_ ?_
  · rintro m H' hm ⟨e2, as, hb, hl, hne, hat⟩
    have e00 : (0 : Int) + (m : Int) = (m : Int) := Int.zero_add _
    rw [e00]
    refine ⟨hw _, t_yes ?_⟩
    refine he m H' ((e0.trans e1).trans e2) (by omega) H' (Ex.refl _) _ fun p H3 np e3 hp => ?_
    have hpD : p ≠ Dl := fun z => by rw [z, hb] at np; cases np
    refine ⟨_, e3 _ _ hb, by rw [List.length_map, sizeLine_eq]; omega, Ex.mut (e2.trans e3) hD, as ++ [p], ?_, by rw [List.length_append, hl]; rfl, fun a ha => ?_, fun i a ha => ?_⟩
    · rw [upd_same, List.map_append]
      rfl
    · rcases List.mem_append.mp ha with ha | ha
      · exact hne a ha
      · rw [List.mem_singleton.mp ha]
        exact hpD
    · by_cases hi : i < as.length
      · rw [List.getElem?_append_left hi] at ha
        rw [upd_ne (hne a (List.mem_of_getElem? ha))]
        exact e3 _ _ (hat i a ha)
      · rw [List.getElem?_append_right (by omega)] at ha
        have hi2 : i - as.length = 0 := by
          by_cases z : i - as.length = 0
          · exact z
          · rw [List.getElem?_eq_none (by rw [List.length_singleton]; omega)] at ha
            cases ha
        rw [hi2] at ha
        have ea : p = a := Option.some.inj ha
        have ei : i = m := by omega
        rw [← ea, upd_ne hpD, ei]
        exact hp
  · rintro H' ⟨e2, as, hb, hl, hne, hat⟩
    refine q Dl H' (fresh_back e1 hD) (e1.trans e2) ⟨as, hb, by rw [List.length_map, List.length_range, hl], fun i a r ha hr => ?_⟩
    rw [List.getElem?_map] at hr
    by_cases hi : i < n.toNat
    · rw [List.getElem?_range hi] at hr
      rw [← Option.some.inj hr]
      exact hat i a ha
    · rw [List.getElem?_eq_none (by rw [List.length_range]; omega)] at hr
      cases hr⟩
/-- why a way is refused: the first, the second is no place -/
inductive NoWay (H : Hp) (n : Nat) : V → V → Prop where
  | first (x y : V) (h : BadPl H n x) : NoWay H n x y
  | second (i : Int) (y : V) (h0 : 0 ≤ i) (h1 : i < (n : Int)) (h : BadPl H n y) : NoWay H n (.int i) y
theorem NoWay.ex {H H' : Hp} {n : Nat} {x y : V} (e : Ex H H') (h : NoWay H n x y) : NoWay H' n x y := by
  cases h with
  | first x y h => exact .first x y (h.ex e)
  | second i y h0 h1 h => exact .second i y h0 h1 (h.ex e)
end
def RNext (K : PySem.W.Frag) (vs : List V) (H : Hp) (v : V) : Prop := ∃ (l f : Addr) (land : List Int) (b h : Int), vs = [.ref l, .ref f, .int h] ∧ 0 ≤ b ∧ b < (land.length : Int) ∧ 0 ≤ h ∧ h < (land.length : Int) ∧ h ≠ b ∧ land.length ≤ 1000 ∧ SqL K H l (land.map V.int) ∧ SqL K H f ((hopsOf land b).map V.int) ∧ v = .int (nextOf land b h)
def RWay (K : PySem.W.Frag) (vs : List V) (H : Hp) (xs : List V) : Prop := ∃ (l : Addr) (land : List Int) (a b : Int), vs = [.ref l, .int a, .int b] ∧ 0 ≤ a ∧ a < (land.length : Int) ∧ 0 ≤ b ∧ b < (land.length : Int) ∧ land.length ≤ 1000 ∧ SqL K H l (land.map V.int) ∧ xs = (wayOf land a b).map V.int
def RNoWay (K : PySem.W.Frag) (N : Addr) (vs : List V) (H : Hp) (C : Addr) : Prop := ∃ (l : Addr) (land : List Int) (x y : V), vs = [.ref l, x, y] ∧ SqL K H l (land.map V.int) ∧ land.length ≤ 1000 ∧ NoWay H land.length x y ∧ C = N
def RLeft (K : PySem.W.Frag) (vs : List V) (H : Hp) (xs : List V) : Prop := ∃ (p : Addr) (land : List Int) (b : Int), vs = [.ref p, .int b] ∧ 0 ≤ b ∧ b < (land.length : Int) ∧ land.length ≤ 1000 ∧ Rows H p ((List.range land.length).map fun (k : Nat) => viewOf land (k : Int)) ∧ xs = (hopsOf land b).map V.int
def RRef9 (K : PySem.W.Frag) (vs : List V) (H : Hp) (v : V) : Prop := ∃ (l : Addr) (land : List Int) (x y : V), vs = [.ref l, x, y] ∧ SqL K H l (land.map V.int) ∧ land.length ≤ 1000 ∧ NoWay H land.length x y ∧ v = .bl true
section
variable {K : PySem.W.Frag} {σ : L2.St} {H : Hp} {ta : TA} {E : XK}
theorem ev_next {l f : Addr} {land : List Int} {b h : Int} (ha : EvA ta σ H [.ref l, .ref f, .int h]) (b0 : 0 ≤ b) (b1 : b < (land.length : Int)) (h0 : 0 ≤ h) (h1 : h < (land.length : Int)) (hn : h ≠ b) (h3 : land.length ≤ 1000) (hs : SqL K H l (land.map V.int)) (hf : SqL K H f ((hopsOf land b).map V.int)) :
    Ev (tCall (spV (RNext K)) [] E ta) σ H (.int (nextOf land b h)) := ev_cal ha fun _ e => ⟨l, f, land, b, h, rfl, b0, b1, h0, h1, hn, h3, ex_l e hs, ex_l e hf, rfl⟩
theorem el_way {N l : Addr} {land : List Int} {a b : Int} (h : EvA ta σ H [.ref l, .int a, .int b]) (hs : SqL K H l (land.map V.int)) (a0 : 0 ≤ a) (a1 : a < (land.length : Int)) (b0 : 0 ≤ b) (b1 : b < (land.length : Int)) (h3 : land.length ≤ 1000) : EvL (tCall (spLX (RWay K) (RNoWay K N)) [] E ta) σ H ((wayOf land a b).map V.int) :=
  el_cal0 h fun _ e => ⟨l, land, a, b, rfl, a0, a1, b0, b1, h3, ex_l e hs, rfl⟩
theorem el_left {p : Addr} {land : List Int} {b : Int} (h : EvA ta σ H [.ref p, .int b]) (hs : Rows H p ((List.range land.length).map fun (k : Nat) => viewOf land (k : Int))) (b0 : 0 ≤ b) (b1 : b < (land.length : Int)) (h3 : land.length ≤ 1000) : EvL (tCall (spL (RLeft K)) [] E ta) σ H ((hopsOf land b).map V.int) :=
  el_cal h fun _ e => ⟨p, land, b, rfl, b0, b1, h3, hs.ex e, rfl⟩
end
end Hx
namespace Hx
open PySem PySem.Spec PyProof.Rows L2 Evl
theorem line_way {land : List Int} {t u a b : Int} (hl : ∀ j : Int, 0 ≤ j → j < (land.length : Int) → cel land j = t * j + u) (a0 : 0 ≤ a) (a1 : a < (land.length : Int)) (b0 : 0 ≤ b) (b1 : b < (land.length : Int)) :
    wayOf land a b = (List.range ((a - b).natAbs + 1)).map fun (i : Nat) => if a < b then a + (i : Int) else a - (i : Int) := by
  have hd := line_hops hl b0 b1 a0 a1
  unfold wayOf
  rw [hd]
  refine List.map_congr_left fun i hi => ?_
  have hi := List.mem_range.mp hi
  exact line_step hl a0 a1 b0 b1 i (by omega)
end Hx
local macro_rules | `(tactic| walk_at "as") => `(tactic| with_reducible assumption)
local macro_rules | `(tactic| walk_at "sq") => `(tactic| first
  | (with_reducible assumption)
  | ((with_reducible apply Evl.sq_of); with_reducible assumption)
  | ((with_reducible apply Evl.st_of); with_reducible assumption)
  | ((with_reducible apply Evl.ex_l); (with_reducible assumption); (walk_at "sq"))
  | ((with_reducible apply Evl.ex_t); (with_reducible assumption); (walk_at "sq")))
local macro_rules | `(tactic| walk_at "hp") => `(tactic| first
  | (with_reducible assumption)
  | (with_reducible exact L2.upd_same)
  | ((with_reducible apply Hx.ex_at); (with_reducible assumption); (walk_at "hp")))
local macro_rules | `(tactic| walk_at "ex") => `(tactic| first
  | (with_reducible assumption)
  | (with_reducible exact Evl.Ex.refl _)
  | ((with_reducible apply Hx.ex_step); (with_reducible assumption); (walk_at "ex")))
local macro_rules | `(tactic| walk_at "sd") => `(tactic| first
  | (with_reducible assumption)
  | omega
  | (dsimp only; omega)
  | (refine Or.inr ⟨?_, ?_⟩ <;> omega)
  | (refine Or.inl ⟨?_, ?_⟩ <;> omega)
  | (refine ⟨?_, ?_⟩ <;> omega)
  | (refine ⟨?_, ?_, ?_⟩ <;> decide))
local macro_rules | `(tactic| walk_at "ix") => `(tactic| first
  | (with_reducible assumption)
  | ((with_reducible refine Hx.getD_ix ?_ ?_) <;> omega)
  | rfl)
local macro_rules | `(tactic| walk_at "rv") => `(tactic| first
  | (with_reducible exact Evl.rv_I0)
  | ((with_reducible apply Evl.rv_I); walk_at "sd")
  | ((with_reducible refine Evl.rv_eq ?_); rfl)
  | ((with_reducible refine Evl.rv_ne ?_); rfl)
  | (with_reducible exact Hx.rv_isN)
  | (with_reducible exact Hx.rv_notN)
  | ((with_reducible apply Evl.rv_ixL); (walk_at "sq"); (walk_at "ix"))
  | ((with_reducible apply Evl.rv_ixT); (walk_at "sq"); (walk_at "ix"))
  | ((with_reducible apply Hx.rv_eqI); (walk_at "sq"); (walk_at "sq"))
  | ((with_reducible apply Hx.rv_neI); (walk_at "sq"); (walk_at "sq")))
local macro_rules | `(tactic| walk_at "rc") => `(tactic| first
  | (with_reducible exact Hx.rc_min)
  | (with_reducible exact Hx.rc_max)
  | (with_reducible exact Hx.rc_intb)
  | ((with_reducible apply Hx.rc_len); walk_at "sq")
  | ((with_reducible apply Hx.rc_lenT); walk_at "sq")
  | with_reducible exact Hx.rc_isi_int Hx.kb_int_int
  | with_reducible exact Hx.rc_isi_int Hx.kb_int_bool
  | with_reducible exact Hx.rc_isi_bl Hx.kb_bool_int
  | with_reducible exact Hx.rc_isi_bl Hx.kb_bool_bool
  | with_reducible exact Hx.rc_isi_non Hx.kb_NoneType_int
  | with_reducible exact Hx.rc_isi_non Hx.kb_NoneType_bool
  | with_reducible exact Hx.rc_isi_str Hx.kb_str_int
  | with_reducible exact Hx.rc_isi_str Hx.kb_str_bool
  | ((with_reducible apply Hx.rc_isi_lst (e := Hx.kb_list_list)); walk_at "hp")
  | ((with_reducible apply Hx.rc_isi_tup (e := Hx.kb_tuple_tuple)); walk_at "hp")
  | ((with_reducible apply Hx.rc_isi_lst (e := Hx.kb_list_int)); walk_at "hp")
  | ((with_reducible apply Hx.rc_isi_tup (e := Hx.kb_tuple_int)); walk_at "hp")
  | ((with_reducible apply Hx.rc_isi_lst (e := Hx.kb_list_bool)); walk_at "hp")
  | ((with_reducible apply Hx.rc_isi_tup (e := Hx.kb_tuple_bool)); walk_at "hp")
  | ((with_reducible apply Hx.rc_isi_lst (e := Hx.kb_list_tuple)); walk_at "hp")
  | ((with_reducible apply Hx.rc_isi_tup (e := Hx.kb_tuple_list)); walk_at "hp")
  | with_reducible exact Hx.rc_isi_int Hx.kb_int_list
  | with_reducible exact Hx.rc_isi_int Hx.kb_int_tuple)
local macro_rules | `(tactic| walk_at "ea") => `(tactic| first
  | (with_reducible exact Evl.ea_nil)
  | ((with_reducible apply Evl.ea_cons); (walk_at "ev"); (walk_at "ea")))
local macro_rules | `(tactic| walk_at "ev") => `(tactic| first
  | ((with_reducible apply Evl.ev_var); rfl)
  | (with_reducible exact Evl.ev_c)
  | (with_reducible exact Hx.ev_pow18)
  | (with_reducible exact Hx.ev_pow14)
  | (with_reducible exact Hx.ev_pow9)
  | ((with_reducible apply Evl.ev_op); (walk_at "ev"); (walk_at "ev"); (walk_at "rv"))
  | ((with_reducible apply Evl.ev_un); (walk_at "ev"); (with_reducible exact Evl.ru_neg))
  | ((with_reducible apply Evl.ev_cb); (walk_at "ea"); (walk_at "rc"))
  | ((with_reducible apply Evl.ev_notV); walk_at "ev")
  | ((with_reducible apply Evl.ev_andV); (walk_at "ev"); (intro _; walk_at "ev"))
  | ((with_reducible apply Evl.ev_orV); (walk_at "ev"); (intro _; walk_at "ev"))
  | walk_at "cal")
local macro_rules | `(tactic| walk_at "et") => `(tactic| first
  | ((with_reducible apply Evl.et_test); walk_at "ev")
  | ((with_reducible apply Evl.et_B); walk_at "ev")
  | ((with_reducible apply Evl.et_not); walk_at "et")
  | ((with_reducible apply Evl.et_and); (walk_at "et"); (intro _; walk_at "et"))
  | ((with_reducible apply Evl.et_or); (walk_at "et"); (intro _; walk_at "et")))
local macro_rules | `(tactic| walk_at "eu") => `(tactic| first
  | ((with_reducible apply Evl.eu_tup); (walk_at "ea"); (exact Nat.le_of_ble_eq_true rfl))
  | ((with_reducible apply Evl.el_lst); (walk_at "ea"); (exact Nat.le_of_ble_eq_true rfl))
  | ((with_reducible apply Evl.el_cb); (walk_at "ea"); ((with_reducible apply Hx.rcl_list); walk_at "sq"))
  | walk_at "calu")
local macro_rules | `(tactic| walk_at "st") => `(tactic| (try dsimp only [List.set]))
local macro_rules | `(tactic| walk_at "wi") => `(tactic| (try dsimp only [List.map, L2.wipe, List.set]))
local macro_rules | `(tactic| walk_at "om") => `(tactic| first | decide | omega)
local macro_rules | `(tactic| walk_at "cal") => `(tactic| first
  | ((with_reducible apply Hx.ev_cel); (walk_at "ea"); (walk_at "sq"); (walk_at "om"))
  | ((with_reducible apply Hx.ev_whole); (walk_at "ea"))
  | ((with_reducible apply Hx.ev_height); (walk_at "ea"); (walk_at "om"); (walk_at "om"); (walk_at "om"); (walk_at "om"))
  | ((with_reducible apply Hx.ev_steeper); (walk_at "ea"); (walk_at "sq"); (walk_at "sq"); (omega); (omega); (omega); (omega)))
local macro_rules | `(tactic| walk_at "calu") => `(tactic| first
  | ((with_reducible apply Hx.eu_slope); (walk_at "ea"); (walk_at "sq"); (omega); (omega); (omega); (omega))
  | ((with_reducible apply Hx.el_land); (walk_at "ea"); (walk_at "sq"); (walk_at "om"); (walk_at "om"))
  | ((with_reducible apply Hx.el_longer); (walk_at "ea"); (walk_at "sq"); (walk_at "sq"); (walk_at "om"); (walk_at "om"); (walk_at "om"); (walk_at "om")))
local macro_rules | `(tactic| walk_at "ix") => `(tactic| ((with_reducible refine Hx.getD_neg ?_ ?_) <;> omega))
local macro_rules | `(tactic| walk_at "rv") => `(tactic| first
  | (with_reducible exact Hx.rv_isB)
  | (with_reducible exact Hx.rv_notB))
local macro_rules | `(tactic| walk_at "rc") => `(tactic| (with_reducible exact Hx.rc_abs))

namespace Hx
open PySem PySem.Spec PyProof.Rows L2 Evl
def topS (i : Nat) : Stmt := PySem.Challenge.pw_hillsight_k09_whole_ways.main.body.getD i (.Pass ⟨0, 0, 0, 0⟩)

section
variable {P : Program} {w : World} {K : PySem.W.Frag} {mg : Str → Option Value} {base : Heap}
abbrev s_law_cell_at : Stmt := topS 20
theorem sc_law_cell_at : FnScope ["_law_script", "_law_k"] ["_law_script", "_law_k"] (defScope s_law_cell_at) := ⟨rfl, rfl, rfl, by decide +kernel, rfl, by decide +kernel, by decide +kernel⟩

theorem ok_cel {f : Addr} {fd : FuncData} (F : Fun K "_law_cell_at" "_law_cell_at" s_law_cell_at f fd) (B : Blt mg) : FnOk P w K mg base CX0 1 f fd ["_law_script", "_law_k"] (spV (RCel K)) := by
  refine F.ok sc_law_cell_at (fun vs H Q E h => ?_) (fun cdv A outer s H vs Q E hr h => ?_)
  · obtain ⟨_, ⟨_, _, _, rfl, _⟩, _⟩ := h
    rfl
  · obtain ⟨v, ⟨l, ns, j, rfl, h0, hs, rfl⟩, q⟩ := h
    refine ⟨_, (pss_cons (ps_if (pt_cmpR op_lt (pv 1) (pe_callB call_len_seq (by rfl) B.m_len PySem.boot_len (pa_cons (pv 0) pa_nil)) (nomark _)) (pss_one (ps_ret (pe_ix ix_list (pv 0) (pv 1) (fun _ _ => rfl)))) pss_nil)
      (pss_one (ps_ret pe_int))), ?_⟩
    try dsimp only [cxOf, Cx.nox, Cx.wish]
    have hl : (ns.map V.int).length = ns.length := List.length_map ..
    apply q_when (b := decide (j < ((ns.map V.int).length : Int)))
    · walk_at "et"
    · intro hb H1 e1
      have hb := of_decide_eq_true hb
      rw [hl] at hb
      apply s_ret
      · walk_at "ev"
      · intro H2 e2
        exact q H2 (by walk_at "ex")
    · intro hb H1 e1
      have hb := of_decide_eq_false hb
      rw [hl] at hb
      apply s_ret
      · walk_at "ev"
      · intro H2 e2
        have e : cel ns j = 0 := by
          unfold cel
          rw [List.getD_eq_getElem?_getD, List.getElem?_eq_none (by omega)]
          rfl
        rw [e] at q
        exact q H2 (by walk_at "ex")
abbrev s_law_whole : Stmt := topS 19
theorem sc_law_whole : FnScope ["_law_found"] ["_law_found"] (defScope s_law_whole) := ⟨rfl, rfl, rfl, by decide +kernel, rfl, by decide +kernel, by decide +kernel⟩

theorem ok_whole {f : Addr} {fd : FuncData} (F : Fun K "_law_whole" "_law_whole" s_law_whole f fd) (B : Blt mg) : FnOk P w K mg base CX0 1 f fd ["_law_found"] (spV RWhole) := by
  refine F.ok sc_law_whole (fun vs H Q E h => ?_) (fun cdv A outer s H vs Q E hr h => ?_)
  · obtain ⟨_, ⟨_, rfl, _⟩, _⟩ := h
    rfl
  · obtain ⟨v, ⟨x, rfl, hx⟩, q⟩ := h
    refine ⟨_, (pss_one (ps_ret (pe_and (pe_callB call_isi (by rfl) B.m_isinstance (by decide +kernel) (pa_cons (pv 0) (pa_cons (pe_bltn (v := .ty "int") (by rfl) B.m_int (by decide +kernel) rfl) pa_nil))) (pe_one (pe_not (pe_callB call_isi (by rfl) B.m_isinstance (by decide +kernel) (pa_cons (pv 0) (pa_cons (pe_bltn (v := .ty "bool") (by rfl) B.m_bool (by decide +kernel) rfl) pa_nil)))))))), ?_⟩
    try dsimp only [cxOf, Cx.nox, Cx.wish]
    rcases hx with ⟨⟨i, rfl⟩, rfl⟩ | ⟨rfl, rfl⟩ | ⟨⟨b, rfl⟩, rfl⟩ | ⟨⟨b, rfl⟩, rfl⟩
    all_goals (
      apply s_ret
      · walk_at "ev"
      · intro H2 e2
        exact q H2 (by walk_at "ex"))
abbrev s_law_height_by : Stmt := topS 21
theorem sc_law_height_by : FnScope ["_law_cell", "_law_k", "_law_kind", "_law_tilt", "_law_far"] ["_law_cell", "_law_k", "_law_kind", "_law_tilt"] (defScope s_law_height_by) := ⟨rfl, rfl, rfl, by decide +kernel, rfl, by decide +kernel, by decide +kernel⟩

theorem ok_height {f : Addr} {fd : FuncData} (F : Fun K "_law_height_by" "_law_height_by" s_law_height_by f fd) : FnOk P w K mg base CX0 1 f fd ["_law_cell", "_law_k", "_law_kind", "_law_tilt"] (spV RHeight) := by
  refine F.ok sc_law_height_by (fun vs H Q E h => ?_) (fun cdv A outer s H vs Q E hr h => ?_)
  · obtain ⟨_, ⟨_, _, _, _, rfl, _⟩, _⟩ := h
    rfl
  · obtain ⟨v, ⟨c, k, kind, tilt, rfl, h1, h2, h3, h4, rfl⟩, q⟩ := h
    refine ⟨_, (pss_cons (ps_set (i := 4) sc_law_height_by.nd rfl (Or.inl rfl) (pe_op op_pow pe_int pe_int))
      (pss_cons (ps_if (pt_cmpR op_eq (pv 2) pe_int (nomark _)) (pss_one (ps_ret (pe_op op_sub (pe_op op_mod (pv 0) pe_int) pe_int))) pss_nil)
      (pss_cons (ps_if (pt_cmpR op_eq (pv 2) pe_int (nomark _)) (pss_one (ps_ret (pe_op op_add (pe_op op_mul (pv 3) (pv 1)) (pe_op op_mod (pv 0) pe_int)))) pss_nil)
      (pss_cons (ps_if (pt_cmpR op_eq (pv 2) pe_int (nomark _)) (pss_one (ps_ret (pe_op op_sub (pe_op op_mod (pe_op op_mul (pv 0) pe_int) (pe_op op_add (pe_op op_mul pe_int (pv 4)) pe_int)) (pv 4)))) pss_nil)
      (pss_cons (ps_if (pt_cmpR op_eq (pv 2) pe_int (nomark _)) (pss_one (ps_ret (pe_op op_add (pe_op op_mul (pe_op op_mul (pv 1) (pv 1)) (pe_op op_sub (pe_op op_mod (pv 3) pe_int) pe_int)) (pe_op op_mod (pv 0) pe_int)))) pss_nil)
      (pss_one (ps_ret (pe_op op_sub (pv 4) (pe_op op_mod (pv 0) pe_int))))))))), ?_⟩
    try dsimp only [cxOf, Cx.nox, Cx.wish]
    refine q_asg (v := .int 1000000000000000000) (by walk_at "ev") fun H1 e1 => ?_
    unfold heightOf at q
    apply q_when
    · walk_at "et"
    · intro hb H2 e2
      rw [if_pos (V.int.inj (of_decide_eq_true hb))] at q
      apply s_ret
      · walk_at "ev"
      · exact fun H3 e3 => q H3 (by walk_at "ex")
    intro hb H2 e2
    rw [if_neg (fun z => of_decide_eq_false hb (congrArg V.int z))] at q
    apply q_when
    · walk_at "et"
    · intro hb H3 e3
      rw [if_pos (V.int.inj (of_decide_eq_true hb))] at q
      apply s_ret
      · walk_at "ev"
      · exact fun H3 e3 => q H3 (by walk_at "ex")
    intro hb H3 e3
    rw [if_neg (fun z => of_decide_eq_false hb (congrArg V.int z))] at q
    apply q_when
    · walk_at "et"
    · intro hb H4 e4
      rw [if_pos (V.int.inj (of_decide_eq_true hb))] at q
      apply s_ret
      · walk_at "ev"
      · exact fun H3 e3 => q H3 (by walk_at "ex")
    intro hb H4 e4
    rw [if_neg (fun z => of_decide_eq_false hb (congrArg V.int z))] at q
    apply q_when
    · walk_at "et"
    · intro hb H5 e5
      rw [if_pos (V.int.inj (of_decide_eq_true hb))] at q
      apply s_ret
      · walk_at "ev"
      · exact fun H3 e3 => q H3 (by walk_at "ex")
    intro hb H5 e5
    rw [if_neg (fun z => of_decide_eq_false hb (congrArg V.int z))] at q
    apply s_ret
    · walk_at "ev"
    · exact fun H3 e3 => q H3 (by walk_at "ex")
abbrev s_law_land_by : Stmt := topS 23
theorem sc_law_land_by : FnScope ["_law_script", "_law_most", "_law_head", "_law_size", "_law_kind", "_law_tilt", "_law_k"] ["_law_script", "_law_most"] (defScope s_law_land_by) := ⟨rfl, rfl, rfl, by decide +kernel, rfl, by decide +kernel, by decide +kernel⟩

theorem ok_land_by {f : Addr} {fd : FuncData} (F : Fun K "_law_land_by" "_law_land_by" s_law_land_by f fd) (B : Blt mg) (C__law_cell_at : Cal P w K mg base "_law_cell_at" 1 ["_law_script", "_law_k"] (spV (RCel K))) (C__law_height_by : Cal P w K mg base "_law_height_by" 1 ["_law_cell", "_law_k", "_law_kind", "_law_tilt"] (spV RHeight)) :
    FnOk P w K mg base CX0 2 f fd ["_law_script", "_law_most"] (spL (RLand K)) := by
  refine F.ok sc_law_land_by (fun vs H Q E h => ?_) (fun cdv A outer s H vs Q E hr h => ?_)
  · obtain ⟨_, ⟨_, _, _, rfl, _⟩, _⟩ := h
    rfl
  · obtain ⟨v, ⟨l, ns, most, rfl, h1, h2, hs, rfl⟩, q⟩ := h
    refine ⟨_, (pss_cons (ps_set (i := 2) sc_law_land_by.nd rfl (Or.inl rfl) (pe_cal C__law_cell_at hr (pa_cons (pv 0) (pa_cons pe_int pa_nil))))
      (pss_cons (ps_set (i := 3) sc_law_land_by.nd rfl (Or.inl rfl) (pe_op op_add pe_int (pe_op op_mod (pv 2) (pv 1))))
      (pss_cons (ps_set (i := 4) sc_law_land_by.nd rfl (Or.inr rfl) (pe_op op_mod (pe_op op_fdiv (pv 2) (pv 1)) pe_int))
      (pss_cons (ps_set (i := 5) sc_law_land_by.nd rfl (Or.inr rfl) (pe_op op_sub (pe_op op_mod (pe_op op_fdiv (pe_op op_fdiv (pv 2) (pv 1)) pe_int) pe_int) pe_int))
      (pss_one (ps_ret (pe_lc (own := [("_law_k", 6)]) (g := gName 6) (tt := tYes) rfl sc_law_land_by.nd (pi_range1 (by rfl) B.m_range (pa_cons (pv 3) pa_nil)) (blkOk_by (N := ["_law_script", "_law_most", "_law_head", "_law_size", "_law_kind", "_law_tilt", "_law_k"]) (sc := defScope s_law_land_by) (by decide +kernel)) (fun _ _ _ _ _ => (pg_name (i := 6) sc_law_land_by.nd rfl (Or.inl rfl))) (fun _ _ _ _ _ => pts_nil) (fun _ _ _ _ _ => (pe_cal C__law_height_by hr (pa_cons (pe_cal C__law_cell_at hr (pa_cons (pv 0) (pa_cons (pe_op op_add pe_int (pv 6)) pa_nil))) (pa_cons (pv 6) (pa_cons (pv 4) (pa_cons (pv 5) pa_nil))))))))))))), ?_⟩
    try dsimp only [cxOf, Cx.nox, Cx.wish]
    apply q_asg
    · walk_at "ev"
    intro H1 e1
    obtain ⟨n, hn⟩ : ∃ n, 1 + cel ns 0 % most = n := ⟨_, rfl⟩
    refine q_asg (v := .int n) (ev_int (by walk_at "ev") hn) fun H2 e2 => ?_
    have n1 : 1 ≤ n := by have := Int.emod_nonneg (cel ns 0) (b := most) (by omega); omega
    have n2 : n ≤ 100 := by have := Int.emod_lt_of_pos (cel ns 0) (b := most) (by omega); omega
    refine q_asg (v := .int (kindOf ns most)) (ev_int (by walk_at "ev") (by rfl)) fun H3 e3 => ?_
    refine q_asg (v := .int (tiltOf ns most)) (ev_int (by walk_at "ev") (by rfl)) fun H4 e4 => ?_
    have t1 : -3 ≤ tiltOf ns most ∧ tiltOf ns most ≤ 3 := by unfold tiltOf; omega
    refine s_retL (xs := given n.toNat (fun _ => true) (fun i => .int (heightOf (cel ns (3 + (i : Int))) i (kindOf ns most) (tiltOf ns most)))) ?_ ?_
    · refine el_lcR1 (n := n) (fun _ => true) _ (by walk_at "ea") ⟨by omega, by omega⟩ (fun _ => rfl) (fun _ _ _ _ => et_yes) ?_
      intro i H5 e5 hi _
      walk_at "ev"
    · intro p H5 hp e5 h5
      refine q p H5 ?_ (by walk_at "ex") ?_
      · exact fresh_back (by walk_at "ex") hp
      · rw [h5, given_all (g := fun i => heightOf (cel ns (3 + (i : Int))) i (kindOf ns most) (tiltOf ns most)) (fun _ => rfl), ← hn]
        rfl
abbrev s_law_longer : Stmt := topS 22
theorem sc_law_longer : FnScope ["_law_script", "_law_land", "_law_most", "_law_many", "_law_head", "_law_tilt", "_law_found", "_law_k", "_law_cell"] ["_law_script", "_law_land", "_law_most", "_law_many"] (defScope s_law_longer) := ⟨rfl, rfl, rfl, by decide +kernel, rfl, by decide +kernel, by decide +kernel⟩

theorem ok_longer {f : Addr} {fd : FuncData} (F : Fun K "_law_longer" "_law_longer" s_law_longer f fd) (B : Blt mg) (C__law_cell_at : Cal P w K mg base "_law_cell_at" 1 ["_law_script", "_law_k"] (spV (RCel K))) (C__law_height_by : Cal P w K mg base "_law_height_by" 1 ["_law_cell", "_law_k", "_law_kind", "_law_tilt"] (spV RHeight)) :
    FnOk P w K mg base CX0 2 f fd ["_law_script", "_law_land", "_law_most", "_law_many"] (spL (RLonger K)) := by
  refine F.ok sc_law_longer (fun vs H Q E h => ?_) (fun cdv A outer s H vs Q E hr h => ?_)
  · obtain ⟨_, ⟨_, _, _, _, _, _, rfl, _⟩, _⟩ := h
    rfl
  · obtain ⟨v, ⟨l, b, ns, land, most, many, rfl, h1, h2, h3, h4, hs, hb, rfl⟩, q⟩ := h
    refine ⟨_, (pss_cons (ps_set (i := 4) sc_law_longer.nd rfl (Or.inl rfl) (pe_cal C__law_cell_at hr (pa_cons (pv 0) (pa_cons pe_int pa_nil))))
      (pss_cons (ps_set (i := 5) sc_law_longer.nd rfl (Or.inl rfl) (pe_op op_sub (pe_op op_mod (pe_op op_fdiv (pe_op op_fdiv (pv 4) (pv 2)) pe_int) pe_int) pe_int))
      (pss_cons (ps_set (i := 6) sc_law_longer.nd rfl (Or.inl rfl) (pe_callTy call_list_of (by rfl) B.m_list (by decide +kernel) (pa_cons (pv 1) pa_nil)))
      (pss_cons (ps_for PassesOwn.never rfl (pi_range1 (by rfl) B.m_range (pa_cons (pv 3) pa_nil)) (pg_name (i := 7) sc_law_longer.nd rfl (Or.inl rfl)) (pss_cons (ps_set (i := 8) sc_law_longer.nd rfl (Or.inl rfl) (pe_op op_mul (pe_cal C__law_cell_at hr (pa_cons (pv 0) (pa_cons (pe_op op_add pe_int (pe_op op_mod (pv 7) pe_int)) pa_nil))) (pe_op op_add (pv 7) pe_int)))
      (pss_one (ps_expr (pe_bm PySem.F.plainAttrs_list PySem.F.slot_list_append PySem.F.type_list_append mt_append (pv 6) (pa_cons (pe_cal C__law_height_by hr (pa_cons (pv 8) (pa_cons (pe_callB call_len_seq (by rfl) B.m_len PySem.boot_len (pa_cons (pv 6) pa_nil)) (pa_cons (pe_op op_mod (pe_op op_fdiv (pv 4) (pv 2)) pe_int) (pa_cons (pv 5) pa_nil))))) pa_nil))))))
      (pss_one (ps_ret (pv 6))))))), ?_⟩
    try dsimp only [cxOf, Cx.nox, Cx.wish]
    apply q_asg
    · walk_at "ev"
    intro H1 e1
    refine q_asg (v := .int (tiltOf ns most)) (ev_int (by walk_at "ev") (by rfl)) fun H4 e4 => ?_
    have t1 : -3 ≤ tiltOf ns most ∧ tiltOf ns most ≤ 3 := by unfold tiltOf; omega
    refine q_asgL (xs := land.map V.int) (by walk_at "eu") fun lp H5 nl e5 hl => ?_
    have nl' : H lp = none := fresh_back (by walk_at "ex") nl
    refine q_forR1 (n := many) (by walk_at "ea") (by omega) (fun i σ' H' => (Ex H H' ∧ H' lp = some (.lst ((land ++ (List.range i).map (moreOf ns most land.length)).map V.int))) ∧
      ∃ v7 v8, σ' = [some (.ref l), some (.ref b), some (.int most), some (.int many), some (.int (cel ns 0)), some (.int (tiltOf ns most)), some (.ref lp), v7, v8])
      (fun H6 e6 => ⟨⟨by walk_at "ex", by (have z := e6 _ _ hl); (show H6 lp = some (.lst ((land ++ []).map V.int))); (rw [List.append_nil]); exact z⟩, none, none, rfl⟩) ?_ ?_
    · rintro i σ' H6 hi ⟨⟨e6, hl⟩, v7, v8, rfl⟩
      apply q_asg
      · walk_at "ev"
      intro H7 e7
      have hl7 := e7 _ _ hl
      have len : ((land ++ (List.range i).map (moreOf ns most land.length)).map V.int).length = land.length + i := by
        rw [List.length_map, List.length_append, List.length_map, List.length_range]
      have lenI : ((((land ++ (List.range i).map (moreOf ns most land.length)).map V.int).length : Nat) : Int) = (land.length : Int) + (i : Int) := by rw [len]; omega
      refine s_app (v := .int (moreOf ns most land.length i)) hl7 (by walk_at "ev") (ev_int (i := heightOf (cel ns (3 + (i : Int) % 20) * ((i : Int) + 5)) (((land ++ (List.range i).map (moreOf ns most land.length)).map V.int).length : Nat) (cel ns 0 / most % 5) (tiltOf ns most)) (by walk_at "ev") ?_) (by omega) fun H8 e8 => ?_
      · rw [lenI]
        rfl
      · refine ⟨⟨Ex.mut (by walk_at "ex") nl', ?_⟩, _, _, rfl⟩
        have et : land ++ (List.range (i + 1)).map (moreOf ns most land.length) = (land ++ (List.range i).map (moreOf ns most land.length)) ++ [moreOf ns most land.length i] := by
          rw [List.range_succ, List.map_append, List.append_assoc]
          rfl
        rw [upd_same, et, List.map_append (l₁ := land ++ (List.range i).map (moreOf ns most land.length))]
        rfl
    · rintro σ' H6 ⟨⟨e6, hl⟩, v7, v8, rfl⟩
      apply s_ret
      · walk_at "ev"
      · intro H7 e7
        exact q lp H7 nl' (by walk_at "ex") (e7 _ _ hl)
abbrev sslope : Stmt := topS 7
theorem scslope : FnScope ["land", "a", "b"] ["land", "a", "b"] (defScope sslope) := ⟨rfl, rfl, rfl, by decide +kernel, rfl, by decide +kernel, by decide +kernel⟩

theorem ok_slope {f : Addr} {fd : FuncData} (F : Fun K "slope" "slope" sslope f fd) : FnOk P w K mg base CX0 1 f fd ["land", "a", "b"] (spU (RSlope K)) := by
  refine F.ok scslope (fun vs H Q E h => ?_) (fun cdv A outer s H vs Q E hr h => ?_)
  · obtain ⟨_, ⟨_, _, _, _, rfl, _⟩, _⟩ := h
    rfl
  · obtain ⟨v, ⟨l, ns, a, b, rfl, a0, a1, b0, b1, hs, rfl⟩, q⟩ := h
    refine ⟨_, (pss_one (ps_ret (pe_tup (pa_cons (pe_op op_sub (pe_ix ix_list (pv 0) (pv 2) (fun _ _ => rfl)) (pe_ix ix_list (pv 0) (pv 1) (fun _ _ => rfl))) (pa_cons (pe_op op_sub (pv 2) (pv 1)) pa_nil))))), ?_⟩
    try dsimp only [cxOf, Cx.nox, Cx.wish]
    apply s_retU
    · walk_at "eu"
    · intro p H1 hp e1 h1
      exact q p H1 hp e1 h1
abbrev ssteeper : Stmt := topS 8
theorem scsteeper : FnScope ["one", "other", "rise", "run", "lift", "length"] ["one", "other"] (defScope ssteeper) := ⟨rfl, rfl, rfl, by decide +kernel, rfl, by decide +kernel, by decide +kernel⟩

theorem ok_steeper {f : Addr} {fd : FuncData} (F : Fun K "steeper" "steeper" ssteeper f fd) : FnOk P w K mg base CX0 1 f fd ["one", "other"] (spV (RSteeper K)) := by
  refine F.ok scsteeper (fun vs H Q E h => ?_) (fun cdv A outer s H vs Q E hr h => ?_)
  · obtain ⟨_, ⟨_, _, _, _, _, _, rfl, _⟩, _⟩ := h
    rfl
  · obtain ⟨v, ⟨p1, p2, r1, n1, r2, n2, rfl, hp1, hp2, b1, b2, b3, b4, rfl⟩, q⟩ := h
    refine ⟨_, (pss_cons (ps_asg (pv 0) (pg_tup rfl (pgs_cons (pg_name (i := 2) scsteeper.nd rfl (Or.inl rfl)) (pgs_cons (pg_name (i := 3) scsteeper.nd rfl (Or.inl rfl)) pgs_nil))))
      (pss_cons (ps_asg (pv 1) (pg_tup rfl (pgs_cons (pg_name (i := 4) scsteeper.nd rfl (Or.inl rfl)) (pgs_cons (pg_name (i := 5) scsteeper.nd rfl (Or.inl rfl)) pgs_nil))))
      (pss_one (ps_ret (pe_cmpR op_gt (pe_op op_mul (pv 2) (pv 5)) (pe_op op_mul (pv 4) (pv 3)) (nomark _)))))), ?_⟩
    try dsimp only [cxOf, Cx.nox, Cx.wish]
    refine q_unpack (x := .int r1) (y := .int n1) (by walk_at "ev") (by walk_at "sq") fun H1 e1 => ?_
    refine q_unpack (x := .int r2) (y := .int n2) (by walk_at "ev") (by walk_at "sq") fun H2 e2 => ?_
    apply s_ret
    · walk_at "ev"
    · intro H3 e3
      exact q H3 (by walk_at "ex")
abbrev sis_whole : Stmt := topS 4
theorem scis_whole : FnScope ["number"] ["number"] (defScope sis_whole) := ⟨rfl, rfl, rfl, by decide +kernel, rfl, by decide +kernel, by decide +kernel⟩

theorem ok_is_whole {f : Addr} {fd : FuncData} (F : Fun K "is_whole" "is_whole" sis_whole f fd) (B : Blt mg) : FnOk P w K mg base CX0 1 f fd ["number"] (spV RWholeV) := by
  refine F.ok scis_whole (fun vs H Q E h => ?_) (fun cdv A outer s H vs Q E hr h => ?_)
  · obtain ⟨_, ⟨_, rfl, _⟩, _⟩ := h
    rfl
  · obtain ⟨v, ⟨x, rfl, hx⟩, q⟩ := h
    refine ⟨_, (pss_one (ps_ret (pe_and (pe_callB call_isi (by rfl) B.m_isinstance (by decide +kernel) (pa_cons (pv 0) (pa_cons (pe_bltn (v := .ty "int") (by rfl) B.m_int (by decide +kernel) rfl) pa_nil))) (pe_one (pe_not (pe_callB call_isi (by rfl) B.m_isinstance (by decide +kernel) (pa_cons (pv 0) (pa_cons (pe_bltn (v := .ty "bool") (by rfl) B.m_bool (by decide +kernel) rfl) pa_nil)))))))), ?_⟩
    try dsimp only [cxOf, Cx.nox, Cx.wish]
    rcases hx with ⟨i, rfl, rfl⟩ | ⟨hx, rfl⟩
    · apply s_ret
      · walk_at "ev"
      · intro H2 e2
        exact q H2 (by walk_at "ex")
    cases hx
    all_goals (
      apply s_ret
      · walk_at "ev"
      · intro H2 e2
        exact q H2 (by walk_at "ex"))
abbrev scheck_hill : Stmt := topS 5
theorem sccheck_hill : FnScope ["land", "place"] ["land", "place"] (defScope scheck_hill) := ⟨rfl, rfl, rfl, by decide +kernel, rfl, by decide +kernel, by decide +kernel⟩

theorem ok_check {f : Addr} {fd : FuncData} {N : Addr} (F : Fun K "check_hill" "check_hill" scheck_hill f fd) (B : Blt mg) (C_is_whole : Cal P w K mg base "is_whole" 1 ["number"] (spV RWholeV)) (X_NoHill : ExK K mg "NoHill" N) : FnOk P w K mg base (L2.CX P w) 2 f fd ["land", "place"] (spVX (RPlace K) (RNoPlace K N)) := by
  refine F.okX sccheck_hill (fun vs H Q E h => ?_) (fun cdv A outer s H vs Q E hr h => ?_)
  · rcases h with ⟨_, ⟨_, _, _, rfl, _⟩, _⟩ | ⟨_, ⟨_, _, _, rfl, _⟩, _⟩ <;> rfl
  · rcases h with ⟨v, ⟨l, land, i, rfl, hs, h0, h1, rfl⟩, q⟩ | ⟨C, ⟨l, land, x, rfl, hs, hb, rfl⟩, q⟩
    · refine ⟨_, (pss_cons (ps_if (pt_not (pt_val (pe_cal C_is_whole hr (pa_cons (pv 1) pa_nil)))) (pss_one (ps_raise rfl (takes_of rfl rfl rfl rfl) (pmk_own PySem.F.excBase_ValueError X_NoHill.x X_NoHill.g X_NoHill.k (raises_own X_NoHill.b X_NoHill.t) (by rfl)))) pss_nil)
      (pss_one (ps_if (PW.pt (pw_or (pt_cmpR op_lt (pv 1) pe_int (nomark _)) (pw_or1 (pt_cmpR op_ge (pv 1) (pe_callB call_len_seq (by rfl) B.m_len PySem.boot_len (pa_cons (pv 0) pa_nil)) (nomark _))))) (pss_one (ps_raise rfl (takes_of rfl rfl rfl rfl) (pmk_own PySem.F.excBase_ValueError X_NoHill.x X_NoHill.g X_NoHill.k (raises_own X_NoHill.b X_NoHill.t) (by rfl)))) pss_nil))), ?_⟩
      try dsimp only [cxOf, Cx.nox, Cx.wish]
      rw [show L2.start ["land", "place"] [.ref l, .int i] = [some (.ref l), some (.int i)] from rfl]
      have hll : (land.map V.int).length = land.length := List.length_map ..
      apply q_when (b := false)
      · exact et_not (a := true) (et_B (ev_isW (by walk_at "ea")))
      · intro z
        cases z
      intro _ H1 e1
      apply s_when (b := false)
      · refine et_is (by walk_at "et") ?_
        rw [hll, decide_eq_false (by omega), decide_eq_false (by omega)]
        rfl
      · intro z
        cases z
      intro _ H2 e2
      exact q H2 (by walk_at "ex")
    · refine ⟨_, (pss_cons (ps_if (pt_not (pt_val (pe_cal C_is_whole hr (pa_cons (pv 1) pa_nil)))) (pss_one (ps_raise rfl (takes_of rfl rfl rfl rfl) (pmk_own PySem.F.excBase_ValueError X_NoHill.x X_NoHill.g X_NoHill.k (raises_own X_NoHill.b X_NoHill.t) (by rfl)))) pss_nil)
      (pss_one (ps_if (PW.pt (pw_or (pt_cmpR op_lt (pv 1) pe_int (nomark _)) (pw_or1 (pt_cmpR op_ge (pv 1) (pe_callB call_len_seq (by rfl) B.m_len PySem.boot_len (pa_cons (pv 0) pa_nil)) (nomark _))))) (pss_one (ps_raise rfl (takes_of rfl rfl rfl rfl) (pmk_own PySem.F.excBase_ValueError X_NoHill.x X_NoHill.g X_NoHill.k (raises_own X_NoHill.b X_NoHill.t) (by rfl)))) pss_nil))), ?_⟩
      try dsimp only [cxOf, Cx.nox, Cx.wish]
      rw [show L2.start ["land", "place"] [.ref l, x] = [some (.ref l), some (x)] from rfl]
      have hll : (land.map V.int).length = land.length := List.length_map ..
      rcases hb.int_or with ⟨i, rfl, h⟩ | hn
      · apply q_when (b := false)
        · exact et_not (a := true) (et_B (ev_isW (by walk_at "ea")))
        · intro z
          cases z
        intro _ H1 e1
        apply s_when (b := true)
        · refine et_is (by walk_at "et") ?_
          rw [hll]
          rcases h with h | h
          · rw [decide_eq_true h, Bool.true_or]
          · rw [decide_eq_true (p := (land.length : Int) ≤ i) h, Bool.or_true]
        · intro _ H2 e2
          exact q H2 (by walk_at "ex")
        intro z
        cases z
      · apply q_when (b := true)
        · exact et_not (a := false) (et_B (ev_isN (by walk_at "ea") hn))
        · intro _ H1 e1
          exact q H1 (by walk_at "ex")
        intro z
        cases z
abbrev s_seen_ahead : Stmt := topS 11
theorem sc_seen_ahead : FnScope ["land", "a", "found", "steepest", "place", "climb"] ["land", "a"] (defScope s_seen_ahead) := ⟨rfl, rfl, rfl, by decide +kernel, rfl, by decide +kernel, by decide +kernel⟩

theorem ok_ahead {f : Addr} {fd : FuncData} (F : Fun K "_seen_ahead" "_seen_ahead" s_seen_ahead f fd) (B : Blt mg) (C_slope : Cal P w K mg base "slope" 1 ["land", "a", "b"] (spU (RSlope K))) (C_steeper : Cal P w K mg base "steeper" 1 ["one", "other"] (spV (RSteeper K))) :
    FnOk P w K mg base CX0 2 f fd ["land", "a"] (spL (RAhead K)) := by
  refine F.ok sc_seen_ahead (fun vs H Q E h => ?_) (fun cdv A outer s H vs Q E hr h => ?_)
  · obtain ⟨_, ⟨_, _, _, rfl, _⟩, _⟩ := h
    rfl
  · obtain ⟨v, ⟨l, land, a, rfl, h1, h2, h3, hs, rfl⟩, q⟩ := h
    refine ⟨_, (pss_cons (ps_set (i := 2) sc_seen_ahead.nd rfl (Or.inl rfl) (pe_lst pa_nil))
      (pss_cons (ps_set (i := 3) sc_seen_ahead.nd rfl (Or.inl rfl) pe_non)
      (pss_cons (ps_for PassesOwn.never rfl (pi_range2 (by rfl) B.m_range (pa_cons (pe_op op_add (pv 1) pe_int) (pa_cons (pe_callB call_len_seq (by rfl) B.m_len PySem.boot_len (pa_cons (pv 0) pa_nil)) pa_nil))) (pg_name (i := 4) sc_seen_ahead.nd rfl (Or.inl rfl)) (pss_cons (ps_set (i := 5) sc_seen_ahead.nd rfl (Or.inl rfl) (pe_cal C_slope hr (pa_cons (pv 0) (pa_cons (pv 1) (pa_cons (pv 4) pa_nil)))))
      (pss_one (ps_if (PW.pt (pw_or (pt_cmpR op_isN (pv 3) pe_non (nomark _)) (pw_or1 (pt_val (pe_cal C_steeper hr (pa_cons (pv 5) (pa_cons (pv 3) pa_nil))))))) (pss_cons (ps_set (i := 3) sc_seen_ahead.nd rfl (Or.inl rfl) (pv 5))
      (pss_one (ps_expr (pe_bm PySem.F.plainAttrs_list PySem.F.slot_list_append PySem.F.type_list_append mt_append (pv 2) (pa_cons (pv 4) pa_nil))))) pss_nil))))
      (pss_one (ps_ret (pv 2)))))), ?_⟩
    try dsimp only [cxOf, Cx.nox, Cx.wish]
    have hll : (land.map V.int).length = land.length := List.length_map ..
    refine q_asgL (xs := []) (by walk_at "eu") fun lp H1 nl e1 hl => ?_
    refine q_asg (v := .non) (by walk_at "ev") fun H2 e2 => ?_
    refine q_forR2 (lo := a + 1) (n := ((land.map V.int).length : Nat)) (by walk_at "ea") (by omega) (fun i σ' H' => (Ex H H' ∧ H' lp = some (.lst ((aheadN land a i).map V.int))) ∧
      ∃ v3 v4 v5, σ' = [some (.ref l), some (.int a), some (.ref lp), some v3, v4, v5] ∧ ((i = 0 ∧ v3 = .non) ∨ ∃ t best, v3 = .ref t ∧ H' t = some (.tup [.int (cel land best - cel land a), .int (best - a)]) ∧ Best land a i best))
      (fun H3 e3 => ⟨⟨by walk_at "ex", by (have z := e3 _ _ (e2 _ _ hl)); exact z⟩, .non, none, none, rfl, .inl ⟨rfl, rfl⟩⟩) ?_ ?_
    · rintro i σ' H3 hi ⟨⟨e3, hl3⟩, v3, v4, v5, rfl, hv⟩
      rw [hll] at hi
      have hsl : SqL K H3 l (land.map V.int) := by walk_at "sq"
      refine q_asgU (xs := [.int (cel land (a + 1 + i) - cel land a), .int (a + 1 + i - a)]) (by walk_at "eu") fun t4 H4 n4 e4 h4 => ?_
      have hl4 := e4 _ _ hl3
      rcases hv with ⟨rfl, rfl⟩ | ⟨t, best, rfl, ht, hb⟩
      · apply s_when (b := true)
        · refine et_is (b := true) ?_ rfl
          refine et_or (a := true) (b := true) (et_is (by walk_at "et") (by rfl)) (fun z => by cases z)
        · intro _ H5 e5
          have hl5 := e5 _ _ hl4
          refine q_asg (v := .ref t4) (by walk_at "ev") fun H6 e6 => ?_
          refine s_app (e6 _ _ hl5) (by walk_at "ev") (by walk_at "ev") (by rw [List.length_map]; exact Nat.lt_of_le_of_lt (aheadN_len land a 0) (by decide)) fun H7 e7 => ?_
          have hy : seesB land a (a + 1 + ((0 : Nat) : Int)) = true := by
            have z := sees_next land a
            simpa using z
          have hne : t4 ≠ lp := ne_of h4 hl4 (by intro z; cases z)
          refine ⟨⟨Ex.mut (by walk_at "ex") nl, ?_⟩, _, _, _, rfl, .inr ⟨t4, a + 1 + ((0 : Nat) : Int), rfl, ?_, ?_⟩⟩
          · rw [upd_same, aheadN_yes hy, List.map_append]
            rfl
          · rw [upd_ne hne]
            exact e7 _ _ (e6 _ _ (e5 _ _ h4))
          · have z := best_one land a
            simpa using z
        · intro z
          cases z
      · have ht4 := e4 _ _ ht
        obtain ⟨hb1, hb2, _⟩ := id hb
        apply s_when (b := decide ((cel land best - cel land a) * (a + 1 + i - a) < (cel land (a + 1 + i) - cel land a) * (best - a)))
        · refine et_is (b := false || decide ((cel land best - cel land a) * (a + 1 + i - a) < (cel land (a + 1 + i) - cel land a) * (best - a))) ?_ (Bool.false_or _)
          refine et_or (et_is (by walk_at "et") (by rfl)) (fun _ => ?_)
          refine et_B ?_
          exact ev_steeper (by walk_at "ea") (by walk_at "sq") (by walk_at "sq") (by omega) (by omega) (by omega) (by omega)
        · intro hyes H5 e5
          obtain ⟨hB, hy⟩ := best_yes hb (of_decide_eq_true hyes)
          have hl5 := e5 _ _ hl4
          refine q_asg (v := .ref t4) (by walk_at "ev") fun H6 e6 => ?_
          refine s_app (e6 _ _ hl5) (by walk_at "ev") (by walk_at "ev") (by rw [List.length_map]; exact Nat.lt_of_le_of_lt (aheadN_len land a i) (by omega)) fun H7 e7 => ?_
          have hne : t4 ≠ lp := ne_of h4 hl4 (by intro z; cases z)
          refine ⟨⟨Ex.mut (by walk_at "ex") nl, ?_⟩, _, _, _, rfl, .inr ⟨t4, a + 1 + (i : Int), rfl, ?_, hB⟩⟩
          · rw [upd_same, aheadN_yes hy, List.map_append]
            rfl
          · rw [upd_ne hne]
            exact e7 _ _ (e6 _ _ (e5 _ _ h4))
        · intro hno H5 e5
          obtain ⟨hB, hy⟩ := best_no hb (of_decide_eq_false hno)
          refine ⟨⟨by walk_at "ex", ?_⟩, _, _, _, rfl, .inr ⟨t, best, rfl, e5 _ _ ht4, hB⟩⟩
          rw [aheadN_no hy]
          exact e5 _ _ hl4
    · rintro σ' H3 ⟨⟨e3, hl3⟩, v3, v4, v5, rfl, _⟩
      apply s_ret
      · walk_at "ev"
      · intro H4 e4
        refine q lp H4 nl (by walk_at "ex") ?_
        have z := e4 _ _ hl3
        rw [hll] at z
        exact z
abbrev s_seen_behind : Stmt := topS 12
theorem sc_seen_behind : FnScope ["land", "a", "found", "flattest", "place", "climb"] ["land", "a"] (defScope s_seen_behind) := ⟨rfl, rfl, rfl, by decide +kernel, rfl, by decide +kernel, by decide +kernel⟩

theorem ok_behind {f : Addr} {fd : FuncData} (F : Fun K "_seen_behind" "_seen_behind" s_seen_behind f fd) (B : Blt mg) (C_slope : Cal P w K mg base "slope" 1 ["land", "a", "b"] (spU (RSlope K))) (C_steeper : Cal P w K mg base "steeper" 1 ["one", "other"] (spV (RSteeper K))) :
    FnOk P w K mg base CX0 2 f fd ["land", "a"] (spL (RBehind K)) := by
  refine F.ok sc_seen_behind (fun vs H Q E h => ?_) (fun cdv A outer s H vs Q E hr h => ?_)
  · obtain ⟨_, ⟨_, _, _, rfl, _⟩, _⟩ := h
    rfl
  · obtain ⟨v, ⟨l, land, a, rfl, h1, h2, h3, hs, rfl⟩, q⟩ := h
    refine ⟨_, (pss_cons (ps_set (i := 2) sc_seen_behind.nd rfl (Or.inl rfl) (pe_lst pa_nil))
      (pss_cons (ps_set (i := 3) sc_seen_behind.nd rfl (Or.inl rfl) pe_non)
      (pss_cons (ps_for PassesOwn.never rfl (pi_range3 (by rfl) B.m_range (pa_cons (pe_op op_sub (pv 1) pe_int) (pa_cons (pe_un un_neg pe_int) (pa_cons (pe_un un_neg pe_int) pa_nil)))) (pg_name (i := 4) sc_seen_behind.nd rfl (Or.inl rfl)) (pss_cons (ps_set (i := 5) sc_seen_behind.nd rfl (Or.inl rfl) (pe_cal C_slope hr (pa_cons (pv 0) (pa_cons (pv 4) (pa_cons (pv 1) pa_nil)))))
      (pss_one (ps_if (PW.pt (pw_or (pt_cmpR op_isN (pv 3) pe_non (nomark _)) (pw_or1 (pt_val (pe_cal C_steeper hr (pa_cons (pv 3) (pa_cons (pv 5) pa_nil))))))) (pss_cons (ps_set (i := 3) sc_seen_behind.nd rfl (Or.inl rfl) (pv 5))
      (pss_one (ps_expr (pe_bm PySem.F.plainAttrs_list PySem.F.slot_list_append PySem.F.type_list_append mt_append (pv 2) (pa_cons (pv 4) pa_nil))))) pss_nil))))
      (pss_one (ps_ret (pe_back (pv 2))))))), ?_⟩
    try dsimp only [cxOf, Cx.nox, Cx.wish]
    rw [show L2.start ["land", "a", "found", "flattest", "place", "climb"] [.ref l, .int a] = [some (.ref l), some (.int a), none, none, none, none] from rfl]
    refine q_asgL (xs := []) (by walk_at "eu") fun lp H1 nl e1 hl => ?_
    walk_at "st"
    refine q_asg (v := .non) (by walk_at "ev") fun H2 e2 => ?_
    walk_at "st"
    refine q_forDown (lo := a - 1) (by walk_at "ea") (by omega) (fun i σ' H' => (Ex H H' ∧ H' lp = some (.lst ((behindN land a i).map V.int))) ∧
      ∃ v3 v4 v5, σ' = [some (.ref l), some (.int a), some (.ref lp), some v3, v4, v5] ∧ ((i = 0 ∧ v3 = .non) ∨ ∃ t best, v3 = .ref t ∧ H' t = some (.tup [.int (cel land a - cel land best), .int (a - best)]) ∧ Flat land a i best))
      (fun H3 e3 => ⟨⟨by walk_at "ex", by (have z := e3 _ _ (e2 _ _ hl)); exact z⟩, .non, none, none, rfl, .inl ⟨rfl, rfl⟩⟩) ?_ ?_
    · rintro i σ' H3 hi ⟨⟨e3, hl3⟩, v3, v4, v5, rfl, hv⟩
      have hsl : SqL K H3 l (land.map V.int) := by walk_at "sq"
      walk_at "st"
      refine q_asgU (xs := [.int (cel land a - cel land (a - 1 - i)), .int (a - (a - 1 - i))]) (by walk_at "eu") fun t4 H4 n4 e4 h4 => ?_
      walk_at "st"
      have hl4 := e4 _ _ hl3
      rcases hv with ⟨rfl, rfl⟩ | ⟨t, best, rfl, ht, hb⟩
      · apply s_when (b := true)
        · refine et_is (b := true) ?_ rfl
          refine et_or (a := true) (b := true) (et_is (by walk_at "et") (by rfl)) (fun z => by cases z)
        · intro _ H5 e5
          have hl5 := e5 _ _ hl4
          refine q_asg (v := .ref t4) (by walk_at "ev") fun H6 e6 => ?_
          walk_at "st"
          refine s_app (e6 _ _ hl5) (by walk_at "ev") (by walk_at "ev") (by rw [List.length_map]; exact Nat.lt_of_le_of_lt (behindN_len land a 0) (by decide)) fun H7 e7 => ?_
          have hy : seesB land (a - 1 - ((0 : Nat) : Int)) a = true := by
            have z := sees_prev land a
            simpa using z
          have hne : t4 ≠ lp := ne_of h4 hl4 (by intro z; cases z)
          refine ⟨⟨Ex.mut (by walk_at "ex") nl, ?_⟩, _, _, _, rfl, .inr ⟨t4, a - 1 - ((0 : Nat) : Int), rfl, ?_, ?_⟩⟩
          · rw [upd_same, behindN_yes hy, List.map_append]
            rfl
          · rw [upd_ne hne]
            exact e7 _ _ (e6 _ _ (e5 _ _ h4))
          · have z := flat_one land a
            simpa using z
        · intro z
          cases z
      · have ht4 := e4 _ _ ht
        obtain ⟨hb1, hb2, _⟩ := id hb
        apply s_when (b := decide ((cel land a - cel land (a - 1 - i)) * (a - best) < (cel land a - cel land best) * (a - (a - 1 - i))))
        · refine et_is (a := false || decide ((cel land a - cel land (a - 1 - i)) * (a - best) < (cel land a - cel land best) * (a - (a - 1 - i)))) ?_ (Bool.false_or _)
          refine et_or (et_is (by walk_at "et") (by rfl)) (fun _ => ?_)
          refine et_B ?_
          exact ev_steeper (by walk_at "ea") (by walk_at "sq") (by walk_at "sq") (by omega) (by omega) (by omega) (by omega)
        · intro hyes H5 e5
          obtain ⟨hB, hy⟩ := flat_yes rfl hb (of_decide_eq_true hyes)
          have hl5 := e5 _ _ hl4
          refine q_asg (v := .ref t4) (by walk_at "ev") fun H6 e6 => ?_
          walk_at "st"
          refine s_app (e6 _ _ hl5) (by walk_at "ev") (by walk_at "ev") (by rw [List.length_map]; exact Nat.lt_of_le_of_lt (behindN_len land a i) (by omega)) fun H7 e7 => ?_
          have hne : t4 ≠ lp := ne_of h4 hl4 (by intro z; cases z)
          refine ⟨⟨Ex.mut (by walk_at "ex") nl, ?_⟩, _, _, _, rfl, .inr ⟨t4, a - 1 - (i : Int), rfl, ?_, hB⟩⟩
          · rw [upd_same, behindN_yes hy, List.map_append]
            rfl
          · rw [upd_ne hne]
            exact e7 _ _ (e6 _ _ (e5 _ _ h4))
        · intro hno H5 e5
          obtain ⟨hB, hy⟩ := flat_no rfl hb (of_decide_eq_false hno)
          refine ⟨⟨by walk_at "ex", ?_⟩, _, _, _, rfl, .inr ⟨t, best, rfl, e5 _ _ ht4, hB⟩⟩
          rw [behindN_no hy]
          exact e5 _ _ hl4
    · rintro σ' H3 ⟨⟨e3, hl3⟩, v3, v4, v5, rfl, _⟩
      refine s_retL (xs := ((behindN land a (a - 1 + 1).toNat).map V.int).reverse) (el_back (by walk_at "ev") (by walk_at "sq")) fun p H4 np e4 hp => ?_
      refine q p H4 (fresh_back (by walk_at "ex") np) (by walk_at "ex") ?_
      have ea : (a - 1 + 1).toNat = a.toNat := by omega
      rw [ea, ← List.map_reverse, behind_rev land h1] at hp
      exact hp
abbrev sview : Stmt := topS 10
theorem scview : FnScope ["land", "a"] ["land", "a"] (defScope sview) := ⟨rfl, rfl, rfl, by decide +kernel, rfl, by decide +kernel, by decide +kernel⟩

theorem ok_view {f : Addr} {fd : FuncData} {N : Addr} (F : Fun K "view" "view" sview f fd) (C_check_hill : CalX P w K mg base "check_hill" 2 ["land", "place"] (spVX (RPlace K) (RNoPlace K N))) (C__seen_behind : Cal P w K mg base "_seen_behind" 2 ["land", "a"] (spL (RBehind K)))
    (C__seen_ahead : Cal P w K mg base "_seen_ahead" 2 ["land", "a"] (spL (RAhead K))) : FnOk P w K mg base (L2.CX P w) 3 f fd ["land", "a"] (spLX (RView K) (RNoPlace K N)) := by
  refine F.okX scview (fun vs H Q E h => ?_) (fun cdv A outer s H vs Q E hr h => ?_)
  · rcases h with ⟨_, ⟨_, _, _, rfl, _⟩, _⟩ | ⟨_, ⟨_, _, _, rfl, _⟩, _⟩ <;> rfl
  · rcases h with ⟨v, ⟨l, land, a, rfl, h1, h2, h3, hs, rfl⟩, q⟩ | ⟨C, ⟨l, land, x, rfl, hs, hb, rfl⟩, q⟩
    · refine ⟨_, (pss_cons (ps_expr (pe_calX C_check_hill hr (takes_of rfl rfl rfl rfl) (pa_cons (pv 0) (pa_cons (pv 1) pa_nil))))
      (pss_one (ps_ret (pe_op op_cat (pe_cal C__seen_behind hr (pa_cons (pv 0) (pa_cons (pv 1) pa_nil))) (pe_cal C__seen_ahead hr (pa_cons (pv 0) (pa_cons (pv 1) pa_nil))))))), ?_⟩
      try dsimp only [cxOf, Cx.nox, Cx.wish]
      rw [show L2.start ["land", "a"] [.ref l, .int a] = [some (.ref l), some (.int a)] from rfl]
      refine q_drop (v := .non) (ev_calX (vs := [.ref l, .int a]) (by walk_at "ea") fun H1 e1 => ⟨l, land, a, rfl, ex_l e1 hs, h1, h2, rfl⟩) fun H1 e1 => ?_
      refine s_retL (xs := (viewOf land a).map V.int) (el_catN (el_behind (by walk_at "ea") (by walk_at "sq") h1 h2 h3) (el_ahead (by walk_at "ea") (by walk_at "sq") h1 h2 h3) ?_ ?_) fun p H2 np e2 hp => ?_
      · unfold viewOf
        rw [List.map_append]
      · have z1 := List.length_filter_le (fun p => seesB land p a) ((List.range a.toNat).map fun (j : Nat) => (j : Int))
        have z2 := aheadN_len land a ((land.length : Int) - (a + 1)).toNat
        unfold behindOf aheadOf
        rw [List.length_map, List.length_range] at z1
        rw [List.length_map, List.length_map]
        omega
      · exact q p H2 (fresh_back e1 np) (by walk_at "ex") hp
    · refine ⟨_, (pss_cons (ps_expr (pe_calX C_check_hill hr (takes_of rfl rfl rfl rfl) (pa_cons (pv 0) (pa_cons (pv 1) pa_nil))))
      (pss_one (ps_ret (pe_op op_cat (pe_cal C__seen_behind hr (pa_cons (pv 0) (pa_cons (pv 1) pa_nil))) (pe_cal C__seen_ahead hr (pa_cons (pv 0) (pa_cons (pv 1) pa_nil))))))), ?_⟩
      try dsimp only [cxOf, Cx.nox, Cx.wish]
      rw [show L2.start ["land", "a"] [.ref l, x] = [some (.ref l), some (x)] from rfl]
      exact rx_calV (vs := [.ref l, x]) (by walk_at "ea") (fun H1 e1 => ⟨l, land, x, rfl, ex_l e1 hs, hb.ex e1, rfl⟩) fun H1 e1 => q H1 e1
abbrev s_law_seen_by : Stmt := topS 24
theorem sc_law_seen_by : FnScope ["_law_land", "_law_low", "_law_high", "_law_rise", "_law_k"] ["_law_land", "_law_low", "_law_high"] (defScope s_law_seen_by) := ⟨rfl, rfl, rfl, by decide +kernel, rfl, by decide +kernel, by decide +kernel⟩

theorem ok_seen_by {f : Addr} {fd : FuncData} (F : Fun K "_law_seen_by" "_law_seen_by" s_law_seen_by f fd) (B : Blt mg) : FnOk P w K mg base CX0 1 f fd ["_law_land", "_law_low", "_law_high"] (spV (RSeenBy K)) := by
  refine F.ok sc_law_seen_by (fun vs H Q E h => ?_) (fun cdv A outer s H vs Q E hr h => ?_)
  · obtain ⟨_, ⟨_, _, _, _, rfl, _⟩, _⟩ := h
    rfl
  · obtain ⟨v, ⟨l, land, a, b, rfl, h0, h1, h2, h3, hs, rfl⟩, q⟩ := h
    refine ⟨_, (pss_cons (ps_set (i := 3) sc_law_seen_by.nd rfl (Or.inl rfl) (pe_op op_sub (pe_ix ix_list (pv 0) (pv 2) (fun _ _ => rfl)) (pe_ix ix_list (pv 0) (pv 1) (fun _ _ => rfl))))
      (pss_cons (ps_for PassesOwn.never rfl (pi_range2 (by rfl) B.m_range (pa_cons (pe_op op_add (pv 1) pe_int) (pa_cons (pv 2) pa_nil))) (pg_name (i := 4) sc_law_seen_by.nd rfl (Or.inl rfl)) (pss_one (ps_if (pt_cmpR op_ge (pe_op op_mul (pe_op op_sub (pe_ix ix_list (pv 0) (pv 4) (fun _ _ => rfl)) (pe_ix ix_list (pv 0) (pv 1) (fun _ _ => rfl))) (pe_op op_sub (pv 2) (pv 1))) (pe_op op_mul (pv 3) (pe_op op_sub (pv 4) (pv 1))) (nomark _)) (pss_one (ps_ret pe_bl)) pss_nil)))
      (pss_one (ps_ret pe_bl)))), ?_⟩
    try dsimp only [cxOf, Cx.nox, Cx.wish]
    rw [show L2.start ["_law_land", "_law_low", "_law_high", "_law_rise", "_law_k"] [.ref l, .int a, .int b] = [some (.ref l), some (.int a), some (.int b), none, none] from rfl]
    apply q_asg
    · walk_at "ev"
    intro H1 e1
    walk_at "st"
    refine q_forR2 (lo := a + 1) (n := b) (by walk_at "ea") (by omega) (fun i σ' H' => (Ex H H' ∧ ∀ j : Nat, j < i → lowB land a b (a + 1 + (j : Int))) ∧ ∃ v4, σ' = [some (.ref l), some (.int a), some (.int b), some (.int (cel land b - cel land a)), v4])
      (fun H2 e2 => ⟨⟨by walk_at "ex", fun j hj => absurd hj (Nat.not_lt_zero j)⟩, none, rfl⟩) ?_ ?_
    · rintro i σ' H2 hi ⟨⟨e2, hj⟩, v4, rfl⟩
      walk_at "st"
      apply s_when
      · walk_at "et"
      · intro hb H3 e3
        have hb := of_decide_eq_true hb
        have hf : seesB land a b = false := seesB_false (k := a + 1 + (i : Int)) (by omega) (by omega) (by unfold lowB; omega)
        rw [hf] at q
        exact s_ret (v := .bl false) (by walk_at "ev") fun H4 e4 => q H4 (by walk_at "ex")
      · intro hb H3 e3
        have hb := of_decide_eq_false hb
        refine ⟨⟨by walk_at "ex", fun j hj2 => ?_⟩, _, rfl⟩
        by_cases ej : j = i
        · subst ej
          unfold lowB
          omega
        · exact hj j (by omega)
    · rintro σ' H2 ⟨⟨e2, hj⟩, v4, rfl⟩
      have ht : seesB land a b = true := seesB_iff.mpr fun k k1 k2 => by
        have z := hj (k - a - 1).toNat (by omega)
        have e : a + 1 + (((k - a - 1).toNat : Nat) : Int) = k := by omega
        rw [e] at z
        exact z
      rw [ht] at q
      exact s_ret (v := .bl true) (by walk_at "ev") fun H4 e4 => q H4 (by walk_at "ex")
abbrev s_carried_on : Stmt := topS 16
theorem sc_carried_on : FnScope ["land", "steps", "newest", "reached", "hill", "place"] ["land", "steps", "newest"] (defScope s_carried_on) := ⟨rfl, rfl, rfl, by decide +kernel, rfl, by decide +kernel, by decide +kernel⟩

theorem ok_carried {f N : Addr} {fd : FuncData} (F : Fun K "_carried_on" "_carried_on" s_carried_on f fd) (B : Blt mg) (C_view : CalX P w K mg base "view" 3 ["land", "a"] (spLX (RView K) (RNoPlace K N))) : FnOk P w K mg base CX0 4 f fd ["land", "steps", "newest"] (spCarry K) := by
  refine F.ok sc_carried_on (fun vs H Q E h => ?_) (fun cdv A outer s0 H vs Q E hr h => ?_)
  · obtain ⟨_, _, _, _, _, _, _, _, rfl, _⟩ := h
    rfl
  · obtain ⟨Hb, l, s, nw, land, a, m, new, rfl, eb, hbs, hs, hn, hst, a0, a1, h3, lev, q⟩ := h
    refine ⟨_, (pss_cons (ps_set (i := 3) sc_carried_on.nd rfl (Or.inl rfl) (pe_lst pa_nil))
      (pss_cons (ps_for PassesOwn.never rfl (pi_list (pv 2)) (pg_name (i := 4) sc_carried_on.nd rfl (Or.inl rfl)) (pss_one (ps_for PassesOwn.never rfl (pi_list (pe_cal0 C_view hr (pa_cons (pv 0) (pa_cons (pv 4) pa_nil)))) (pg_name (i := 5) sc_carried_on.nd rfl (Or.inl rfl)) (pss_one (ps_if (pt_cmpR op_isN (pe_ix ix_list (pv 1) (pv 5) (fun _ _ => rfl)) pe_non (nomark _)) (pss_cons (ps_asg (pe_op op_add (pe_ix ix_list (pv 1) (pv 4) (fun _ _ => rfl)) pe_int) (pg_sub (pv 1) (pv 5) set_list))
      (pss_one (ps_expr (pe_bm PySem.F.plainAttrs_list PySem.F.slot_list_append PySem.F.type_list_append mt_append (pv 3) (pa_cons (pv 5) pa_nil))))) pss_nil)))))
      (pss_one (ps_ret (pv 3))))), ?_⟩
    try dsimp only [cxOf, Cx.nox, Cx.wish]
    rw [show L2.start ["land", "steps", "newest", "reached", "hill", "place"] [.ref l, .ref s, .ref nw] = [some (.ref l), some (.ref s), some (.ref nw), none, none, none] from rfl]
    have hln := lev.len
    refine q_asgL (xs := []) (by walk_at "eu") fun rp H1 nr e1 hrp => ?_
    walk_at "st"
    have nrb : Hb rp = none := fresh_back eb nr
    have hrs : rp ≠ s := fun z => by rw [z, hst] at nr; cases nr
    have eb1 : Ex Hb H1 := by walk_at "ex"
    -- what is so behind each place: the places reached, and that nothing seen from those ahead is left out
    obtain ⟨Good, hGood⟩ : ∃ Good : List Int → Hp → Prop, Good = fun reached H' => Ex Hb H' ∧ H' s = some (.lst (stepsV land a fun b => decide (dist land a b ≤ m) || decide (b ∈ reached))) ∧ H' rp = some (.lst (reached.map V.int)) ∧ reached.Nodup ∧ ∀ y ∈ reached, 0 ≤ y ∧ y < (land.length : Int) ∧ dist land a y = m + 1 := ⟨_, rfl⟩
    have gmono : ∀ {r : List Int} {H2 H3 : Hp}, Ex H2 H3 → Good r H2 → Good r H3 := by
      rw [hGood]
      rintro r H2 H3 e ⟨g1, g2, g3, g4, g5⟩
      exact ⟨g1.trans e, e _ _ g2, e _ _ g3, g4, g5⟩
    refine q_forLn (a := nw) (xs := new.map V.int) (by walk_at "ev") (by walk_at "sq") (fun i σ' H' => ∃ reached, Good reached H' ∧ (∀ j y, j < i → new[j]? = some y → ∀ z ∈ viewOf land y, dist land a z = m + 1 → z ∈ reached) ∧ ∃ v4 v5, σ' = [some (.ref l), some (.ref s), some (.ref nw), some (.ref rp), v4, v5])
      (fun H2 e2 => ⟨[], by
        rw [hGood]
        refine ⟨by walk_at "ex", ?_, e2 _ _ hrp, List.nodup_nil, fun y hy => absurd hy (List.not_mem_nil)⟩
        rw [e2 _ _ (e1 _ _ hst)]
        congr 2
        refine stepsV_congr fun b _ _ => ?_
        rw [decide_eq_false (p := b ∈ []) (List.not_mem_nil), Bool.or_false], fun j y hj => absurd hj (Nat.not_lt_zero j), none, none, rfl⟩)
      (fun i σ' H' _ w => by
        obtain ⟨_, g, _⟩ := w
        rw [hGood] at g
        exact ex_l g.1 hn) ?_ ?_
    · rintro i x σ' H2 hx ⟨reached, g, cov, v4, v5, rfl⟩
      obtain ⟨hi, rfl⟩ := map_at hx
      have hnew : new[i]? = some (cel new (i : Int)) := by
        have z := get_cel (ns := new) (j := (i : Int)) (by omega) (by omega)
        rw [Int.toNat_natCast] at z
        exact z
      obtain ⟨y0, y1, yd⟩ := (lev.2 _).mp (List.mem_of_getElem? hnew)
      generalize cel new (i : Int) = y at hnew y0 y1 yd
      walk_at "st"
      have hsl : SqL K H2 l (land.map V.int) := by
        rw [hGood] at g
        exact ex_l g.1 hs
      refine s_forNLn (xs := (viewOf land y).map V.int) (el_view (N := N) (by walk_at "ea") hsl y0 y1 h3) (fun p j σ' H' => ∃ reached, Good reached H' ∧ H' p = some (.lst ((viewOf land y).map V.int)) ∧ p ≠ s ∧ p ≠ rp ∧ (∀ j y, j < i → new[j]? = some y → ∀ z ∈ viewOf land y, dist land a z = m + 1 → z ∈ reached) ∧
          (∀ k z, k < j → (viewOf land y)[k]? = some z → dist land a z = m + 1 → z ∈ reached) ∧ ∃ v5, σ' = [some (.ref l), some (.ref s), some (.ref nw), some (.ref rp), some (.int y), v5])
        (fun p H3 np e3 hp => ⟨reached, gmono e3 g, hp, fun z => (by
          rw [hGood] at g
          rw [z, g.2.1] at np
          cases np), fun z => (by
          rw [hGood] at g
          rw [z, g.2.2.1] at np
          cases np), cov, fun k z hk => absurd hk (Nat.not_lt_zero k), v5, rfl⟩)
        (fun p j σ' H' _ w => by
          obtain ⟨_, _, hp, _⟩ := w
          exact sq_of hp) ?_ ?_
      · rintro p j x σ' H3 hx ⟨reached, g, hp, ps, pr, cov, cov2, v5, rfl⟩
        obtain ⟨hj, rfl⟩ := map_at hx
        have hvw : (viewOf land y)[j]? = some (cel (viewOf land y) (j : Int)) := by
          have z := get_cel (ns := viewOf land y) (j := (j : Int)) (by omega) (by omega)
          rw [Int.toNat_natCast] at z
          exact z
        have hnear : nearP land y (cel (viewOf land y) (j : Int)) := ⟨y0, y1, List.mem_of_getElem? hvw⟩
        generalize cel (viewOf land y) (j : Int) = z at hvw hnear
        obtain ⟨_, _, z0, z1⟩ := near_in hnear
        have hd := dist_near a0 a1 (nearP_comm hnear)
        rw [yd] at hd
        obtain ⟨zn, rfl⟩ : ∃ n : Nat, z = (n : Int) := ⟨z.toNat, by omega⟩
        obtain ⟨yn, rfl⟩ : ∃ n : Nat, y = (n : Int) := ⟨y.toNat, by omega⟩
        have g' := g
        rw [hGood] at g'
        obtain ⟨g1, g2, g3, g4, g5⟩ := g'
        walk_at "st"
        have hix : atI (stepsV land a fun b => decide (dist land a b ≤ m) || decide (b ∈ reached)) (zn : Int) = some (if (decide (dist land a (zn : Int) ≤ m) || decide ((zn : Int) ∈ reached)) = true then .int (dist land a (zn : Int) : Int) else .non) := atI_nat (stepsV_at (by omega))
        have hiy : atI (stepsV land a fun b => decide (dist land a b ≤ m) || decide (b ∈ reached)) (yn : Int) = some (.int (m : Int)) := by
          have z := atI_nat (stepsV_at (land := land) (a := a) (T := fun b => decide (dist land a b ≤ m) || decide (b ∈ reached)) (j := yn) (by omega))
          rw [yd, decide_eq_true (Nat.le_refl m), Bool.true_or, if_pos rfl] at z
          exact z
        by_cases hk : (decide (dist land a (zn : Int) ≤ m) || decide ((zn : Int) ∈ reached)) = true
        · -- known already
          rw [if_pos hk] at hix
          apply s_when (b := false)
          · exact et_is (by walk_at "et") (by simp)
          · intro z
            cases z
          intro _ H4 e4
          refine ⟨reached, gmono e4 g, e4 _ _ hp, ps, pr, cov, fun k z hk2 hz hdz => ?_, _, rfl⟩
          by_cases e : k = j
          · subst e
            rw [hvw] at hz
            cases hz
            rcases Bool.or_eq_true .. |>.mp hk with h | h
            · have := of_decide_eq_true h
              omega
            · exact of_decide_eq_true h
          · exact cov2 k z (by omega) hz hdz
        · rw [if_neg hk] at hix
          have hk' : ¬ dist land a (zn : Int) ≤ m ∧ (zn : Int) ∉ reached := by
            rw [Bool.or_eq_true, decide_eq_true_eq, decide_eq_true_eq, not_or] at hk
            exact hk
          have hdz : dist land a (zn : Int) = m + 1 := by omega
          apply s_when (b := true)
          · exact et_is (by walk_at "et") (by simp)
          · intro _ H4 e4
            have hix4 := e4 _ _ g2
            refine q_setL (j := zn) (v := .int (dist land a (zn : Int) : Int)) hix4 (ev_int (i := (m : Int) + 1) (by walk_at "ev") (by omega)) (by walk_at "ev") (by walk_at "ev") (by rw [stepsV_len]; omega) fun H5 e5 => ?_
            rw [stepsV_set (by omega)]
            have eb5 : Ex Hb (upd H5 s (.lst (stepsV land a fun b => (decide (dist land a b ≤ m) || decide (b ∈ reached)) || decide (b = (zn : Int))))) := Ex.mut (by walk_at "ex") hbs
            have es5 : upd H5 s (.lst (stepsV land a fun b => (decide (dist land a b ≤ m) || decide (b ∈ reached)) || decide (b = (zn : Int)))) s = some (.lst (stepsV land a fun b => (decide (dist land a b ≤ m) || decide (b ∈ reached)) || decide (b = (zn : Int)))) := upd_same
            have er5 : upd H5 s (.lst (stepsV land a fun b => (decide (dist land a b ≤ m) || decide (b ∈ reached)) || decide (b = (zn : Int)))) rp = some (.lst (reached.map V.int)) := by
              rw [upd_ne hrs]
              exact e5 _ _ (e4 _ _ g3)
            have ep5 : upd H5 s (.lst (stepsV land a fun b => (decide (dist land a b ≤ m) || decide (b ∈ reached)) || decide (b = (zn : Int)))) p = some (.lst ((viewOf land (yn : Int)).map V.int)) := by
              rw [upd_ne ps]
              exact e5 _ _ (e4 _ _ hp)
            revert eb5 es5 er5 ep5
            generalize upd H5 s (.lst (stepsV land a fun b => (decide (dist land a b ≤ m) || decide (b ∈ reached)) || decide (b = (zn : Int)))) = H6
            intro eb5 es5 er5 ep5
            have hlr := nodup_len land.length reached g4 fun y hy => ⟨(g5 y hy).1, (g5 y hy).2.1⟩
            refine s_app er5 (by walk_at "ev") (by walk_at "ev") (by rw [List.length_map]; omega) fun H7 e7 => ?_
            have nd : (reached ++ [(zn : Int)]).Nodup := by
              rw [List.nodup_append]
              refine ⟨g4, by simp, fun x hx y hy => ?_⟩
              rw [List.mem_singleton.mp hy]
              exact fun z => hk'.2 (z ▸ hx)
            refine ⟨reached ++ [(zn : Int)], ?_, ?_, ps, pr, fun k y hk hy z hz hd => List.mem_append_left _ (cov k y hk hy z hz hd), fun k z hk2 hz hd => ?_, _, rfl⟩
            · rw [hGood]
              refine ⟨Ex.mut (by walk_at "ex") nrb, ?_, ?_, nd, fun y hy => ?_⟩
              · rw [upd_ne (fun z => hrs z.symm), e7 _ _ es5]
                congr 2
                refine stepsV_congr fun b _ _ => ?_
                simp [List.mem_append, Bool.or_assoc]
              · rw [upd_same, List.map_append]
                rfl
              · rcases List.mem_append.mp hy with hy | hy
                · exact g5 y hy
                · rw [List.mem_singleton.mp hy]
                  exact ⟨z0, z1, hdz⟩
            · rw [upd_ne pr]
              exact e7 _ _ ep5
            · by_cases e : k = j
              · subst e
                rw [hvw] at hz
                cases hz
                exact List.mem_append_right _ (List.mem_singleton.mpr rfl)
              · exact List.mem_append_left _ (cov2 k z (by omega) hz hd)
          · intro z
            cases z
      · rintro p σ' H3 ⟨reached, g, hp, ps, pr, cov, cov2, v5, rfl⟩
        refine ⟨reached, g, fun j y' hj hy z hz hd => ?_, _, _, rfl⟩
        by_cases e : j = i
        · subst e
          rw [hnew] at hy
          cases hy
          obtain ⟨k, hk⟩ := List.getElem?_of_mem hz
          exact cov2 k z (by rw [List.length_map]; exact (List.getElem?_eq_some_iff.mp hk).1) hk hd
        · exact cov j y' (by omega) hy z hz hd
    · rintro σ' H2 ⟨reached, g, cov, v4, v5, rfl⟩
      rw [hGood] at g
      obtain ⟨g1, g2, g3, g4, g5⟩ := g
      have hall : ∀ b, b ∈ reached ↔ 0 ≤ b ∧ b < (land.length : Int) ∧ dist land a b = m + 1 := fun b => ⟨g5 b, fun ⟨b0, b1, hb⟩ => by
        have hne : b ≠ a := fun z => by
          rw [z, dist_self a0 a1] at hb
          omega
        obtain ⟨y, hy, hd⟩ := dist_pred a0 a1 b0 b1 hne
        obtain ⟨_, _, y0, y1⟩ := near_in hy
        obtain ⟨j, hj⟩ := List.getElem?_of_mem ((lev.2 y).mpr ⟨y0, y1, by omega⟩)
        exact cov j y (by rw [List.length_map]; exact (List.getElem?_eq_some_iff.mp hj).1) hj b (nearP_comm hy).2.2 hb⟩
      apply s_ret
      · walk_at "ev"
      · intro H3 e3
        refine q rp H3 reached nr (by walk_at "ex") ?_ (e3 _ _ g3) hrs ⟨g4, hall⟩
        rw [e3 _ _ g2]
        congr 2
        refine stepsV_congr fun b b0 b1 => ?_
        rw [Bool.eq_iff_iff, Bool.or_eq_true, decide_eq_true_eq, decide_eq_true_eq, decide_eq_true_eq, hall b]
        constructor
        · rintro (h | ⟨_, _, h⟩) <;> omega
        · intro h
          by_cases e : dist land a b = m + 1
          · exact .inr ⟨b0, b1, e⟩
          · exact .inl (by omega)
abbrev shops : Stmt := topS 14
theorem schops : FnScope ["land", "a", "steps", "newest"] ["land", "a"] (defScope shops) := ⟨rfl, rfl, rfl, by decide +kernel, rfl, by decide +kernel, by decide +kernel⟩

theorem ok_hops {f N : Addr} {fd : FuncData} (F : Fun K "hops" "hops" shops f fd) (B : Blt mg) (C_check_hill : CalX P w K mg base "check_hill" 2 ["land", "place"] (spVX (RPlace K) (RNoPlace K N))) (C__carried_on : Cal P w K mg base "_carried_on" 4 ["land", "steps", "newest"] (spCarry K)) :
    FnOk P w K mg base (L2.CX P w) 5 f fd ["land", "a"] (spLX (RHops K) (RNoPlace K N)) := by
  refine F.okX schops (fun vs H Q E h => ?_) (fun cdv A outer s0 H vs Q E hr h => ?_)
  · rcases h with ⟨_, ⟨_, _, _, rfl, _⟩, _⟩ | ⟨_, ⟨_, _, _, rfl, _⟩, _⟩ <;> rfl
  · rcases h with ⟨v, ⟨l, land, a, rfl, a0, a1, h3, hs, rfl⟩, q⟩ | ⟨C, ⟨l, land, x, rfl, hs, hb, rfl⟩, q⟩
    · refine ⟨_, (pss_cons (ps_expr (pe_calX C_check_hill hr (takes_of rfl rfl rfl rfl) (pa_cons (pv 0) (pa_cons (pv 1) pa_nil))))
      (pss_cons (ps_set (i := 2) schops.nd rfl (Or.inl rfl) (pe_op op_rep (pe_lst (pa_cons pe_non pa_nil)) (pe_callB call_len_seq (by rfl) B.m_len PySem.boot_len (pa_cons (pv 0) pa_nil))))
      (pss_cons (ps_asg pe_int (pg_sub (pv 2) (pv 1) set_list))
      (pss_cons (ps_set (i := 3) schops.nd rfl (Or.inl rfl) (pe_lst (pa_cons (pv 1) pa_nil)))
      (pss_cons (ps_while (passes_of rfl) (pt_truth (pv 3) (fun _ => rfl)) (pss_one (ps_set (i := 3) schops.nd rfl (Or.inl rfl) (pe_cal C__carried_on hr (pa_cons (pv 0) (pa_cons (pv 2) (pa_cons (pv 3) pa_nil)))))))
      (pss_one (ps_ret (pv 2)))))))), ?_⟩
      try dsimp only [cxOf, Cx.nox, Cx.wish]
      rw [show L2.start ["land", "a", "steps", "newest"] [.ref l, .int a] = [some (.ref l), some (.int a), none, none] from rfl]
      have hll : (land.map V.int).length = land.length := List.length_map ..
      refine q_drop (v := .non) (ev_calX (vs := [.ref l, .int a]) (by walk_at "ea") fun H1 e1 => ⟨l, land, a, rfl, ex_l e1 hs, a0, a1, rfl⟩) fun H1 e1 => ?_
      refine q_asgL (xs := stepsV land a fun _ => false) (el_eq (el_rep (x := .non) (k := ((land.map V.int).length : Nat)) (by walk_at "eu") (by walk_at "ev") (by omega) (by omega)) (by rw [Int.toNat_natCast, hll, stepsV_none])) fun s H2 ns e2 hs2 => ?_
      walk_at "st"
      have nsH : H s = none := fresh_back e1 ns
      obtain ⟨an, rfl⟩ : ∃ n : Nat, a = (n : Int) := ⟨a.toNat, by omega⟩
      have da := dist_self a0 a1
      refine q_setL (j := an) (v := .int (dist land (an : Int) (an : Int) : Int)) hs2 (ev_int (i := 0) (by walk_at "ev") (by rw [da]; rfl)) (by walk_at "ev") (by walk_at "ev") (by rw [stepsV_len]; omega) fun H3 e3 => ?_
      rw [stepsV_set (by omega)]
      have e4 : Ex H (upd H3 s (.lst (stepsV land (an : Int) fun b => false || decide (b = (an : Int))))) := Ex.mut (by walk_at "ex") nsH
      have hs4 : upd H3 s (.lst (stepsV land (an : Int) fun b => false || decide (b = (an : Int)))) s = some (.lst (stepsV land (an : Int) fun b => decide (dist land (an : Int) b ≤ 0))) := by
        rw [upd_same]
        congr 2
        refine stepsV_congr fun b b0 b1 => ?_
        rw [Bool.false_or, Bool.eq_iff_iff, decide_eq_true_eq, decide_eq_true_eq]
        constructor
        · intro z
          rw [z]
          omega
        · intro z
          by_cases hne : b = (an : Int)
          · exact hne
          · have := dist_pos a0 a1 b0 b1 hne
            omega
      revert e4 hs4
      generalize upd H3 s (.lst (stepsV land (an : Int) fun b => false || decide (b = (an : Int)))) = H4
      intro e4 hs4
      refine q_asgL (xs := [V.int (an : Int)]) (by walk_at "eu") fun p H5 np e5 hp => ?_
      walk_at "st"
      have hps : p ≠ s := fun z => by rw [z, hs4] at np; cases np
      refine q_while (fun mm σ' H' => ∃ (m : Nat) (new : List Int) (p : Addr) (Hb : Hp), mm = land.length + 1 - m ∧ m ≤ land.length ∧ Ex H Hb ∧ Ex Hb H' ∧ Hb s = none ∧ Hb p = some (.lst (new.map V.int)) ∧ H' s = some (.lst (stepsV land (an : Int) fun b => decide (dist land (an : Int) b ≤ m))) ∧ LevP land (an : Int) m new ∧
        σ' = [some (.ref l), some (.int (an : Int)), some (.ref s), some (.ref p)]) (land.length + 1) ⟨0, [(an : Int)], p, upd H p (.lst [V.int (an : Int)]), by omega, by omega, Ex.new (fresh_back e4 np), ex_add (by walk_at "ex") hp, by rw [upd_ne (fun z => hps z.symm)]; exact nsH, upd_same, e5 _ _ hs4, ⟨by simp, fun b => ?_⟩, rfl⟩ ?_
      · rw [List.mem_singleton]
        constructor
        · rintro rfl
          exact ⟨a0, a1, da⟩
        · rintro ⟨b0, b1, z⟩
          by_cases hne : b = (an : Int)
          · exact hne
          · have := dist_pos a0 a1 b0 b1 hne
            omega
      rintro mm σ' H6 ⟨m, new, p, Hb, rfl, hm, eHb, e6, nsb, hpb, hs6, lev, rfl⟩
      have hp6 : SqL K H6 p (new.map V.int) := sq_of (e6 _ _ hpb)
      refine ⟨!(new.map V.int).isEmpty, et_truL (by walk_at "ev") hp6, fun hb H7 e7 => ?_, fun hb H7 e7 => ?_⟩
      · have hlt : m < land.length := by
          cases new with
          | nil => simp at hb
          | cons b r =>
            obtain ⟨b0, b1, z⟩ := (lev.2 b).mp (List.mem_cons_self ..)
            have := dist_lt a0 a1 b0 b1
            omega
        refine ⟨fun σ2 H8 => ∃ (m2 : Nat) (new : List Int) (p : Addr) (Hb : Hp), land.length + 1 - (m + 1) = land.length + 1 - m2 ∧ m2 ≤ land.length ∧ Ex H Hb ∧ Ex Hb H8 ∧ Hb s = none ∧ Hb p = some (.lst (new.map V.int)) ∧ H8 s = some (.lst (stepsV land (an : Int) fun b => decide (dist land (an : Int) b ≤ m2))) ∧ LevP land (an : Int) m2 new ∧
          σ2 = [some (.ref l), some (.int (an : Int)), some (.ref s), some (.ref p)], fun σ2 H8 h => ⟨_, by omega, h⟩, ?_⟩
        refine s_asgCall (vs := [.ref l, .ref s, .ref p]) (by walk_at "ea") fun H8 e8 => ⟨Hb, l, s, p, land, (an : Int), m, new, rfl, by walk_at "ex", nsb, ex_l eHb hs, sq_of hpb, e8 _ _ (e7 _ _ hs6), a0, a1, h3, lev, fun r H9 reached nr e9 hs9 hr rs lev9 => ?_⟩
        refine ⟨m + 1, reached, r, upd Hb r (.lst (reached.map V.int)), rfl, by omega, ?_, ex_add e9 hr, ?_, upd_same, hs9, lev9, rfl⟩
        · have nrb : Hb r = none := fresh_back (by walk_at "ex") nr
          exact eHb.trans (Ex.new nrb)
        · rw [upd_ne (fun z => rs z.symm)]
          exact nsb
      · have hnew : new = [] := by
          cases new with
          | nil => rfl
          | cons b r => simp at hb
        subst hnew
        apply s_ret
        · walk_at "ev"
        · intro H8 e8
          refine q s H8 nsH (by walk_at "ex") ?_
          rw [e8 _ _ (e7 _ _ hs6), ← stepsV_all]
          congr 2
          refine stepsV_congr fun b b0 b1 => ?_
          rw [decide_eq_true_eq]
          by_cases hle : dist land (an : Int) b ≤ m
          · exact hle
          · obtain ⟨y, y0, y1, yd⟩ := dist_down a0 a1 (m := m) (dist land (an : Int) b - m) b b0 b1 (by omega)
            exact absurd ((lev.2 y).mpr ⟨y0, y1, yd⟩) (List.not_mem_nil)
    · refine ⟨_, (pss_cons (ps_expr (pe_calX C_check_hill hr (takes_of rfl rfl rfl rfl) (pa_cons (pv 0) (pa_cons (pv 1) pa_nil))))
      (pss_cons (ps_set (i := 2) schops.nd rfl (Or.inl rfl) (pe_op op_rep (pe_lst (pa_cons pe_non pa_nil)) (pe_callB call_len_seq (by rfl) B.m_len PySem.boot_len (pa_cons (pv 0) pa_nil))))
      (pss_cons (ps_asg pe_int (pg_sub (pv 2) (pv 1) set_list))
      (pss_cons (ps_set (i := 3) schops.nd rfl (Or.inl rfl) (pe_lst (pa_cons (pv 1) pa_nil)))
      (pss_cons (ps_while (passes_of rfl) (pt_truth (pv 3) (fun _ => rfl)) (pss_one (ps_set (i := 3) schops.nd rfl (Or.inl rfl) (pe_cal C__carried_on hr (pa_cons (pv 0) (pa_cons (pv 2) (pa_cons (pv 3) pa_nil)))))))
      (pss_one (ps_ret (pv 2)))))))), ?_⟩
      try dsimp only [cxOf, Cx.nox, Cx.wish]
      rw [show L2.start ["land", "a", "steps", "newest"] [.ref l, x] = [some (.ref l), some (x), none, none] from rfl]
      exact rx_calV (vs := [.ref l, x]) (by walk_at "ea") (fun H1 e1 => ⟨l, land, x, rfl, ex_l e1 hs, hb.ex e1, rfl⟩) fun H1 e1 => q H1 e1
abbrev s_law_near : Stmt := topS 25
theorem sc_law_near : FnScope ["_law_land", "_law_b", "_law_found", "_law_k"] ["_law_land", "_law_b"] (defScope s_law_near) := ⟨rfl, rfl, rfl, by decide +kernel, rfl, by decide +kernel, by decide +kernel⟩

theorem ok_near {f : Addr} {fd : FuncData} (F : Fun K "_law_near" "_law_near" s_law_near f fd) (B : Blt mg) (C__law_seen_by : Cal P w K mg base "_law_seen_by" 1 ["_law_land", "_law_low", "_law_high"] (spV (RSeenBy K))) :
    FnOk P w K mg base CX0 2 f fd ["_law_land", "_law_b"] (spL (RNear K)) := by
  refine F.ok sc_law_near (fun vs H Q E h => ?_) (fun cdv A outer s H vs Q E hr h => ?_)
  · obtain ⟨_, ⟨_, _, _, rfl, _⟩, _⟩ := h
    rfl
  · obtain ⟨v, ⟨l, land, a, rfl, a0, a1, h3, hs, rfl⟩, q⟩ := h
    refine ⟨_, (pss_cons (ps_set (i := 2) sc_law_near.nd rfl (Or.inl rfl) (pe_lst pa_nil))
      (pss_cons (ps_for PassesOwn.never rfl (pi_range1 (by rfl) B.m_range (pa_cons (pe_callB call_len_seq (by rfl) B.m_len PySem.boot_len (pa_cons (pv 0) pa_nil)) pa_nil)) (pg_name (i := 3) sc_law_near.nd rfl (Or.inl rfl)) (pss_one (ps_if (PW.pt (pw_and (pt_cmpR op_ne (pv 3) (pv 1) (nomark _)) (pw_and1 (pt_val (pe_cal C__law_seen_by hr (pa_cons (pv 0) (pa_cons (pe_callB (call_min2 rfl) (by rfl) B.m_min (by decide +kernel) (pa_cons (pv 3) (pa_cons (pv 1) pa_nil))) (pa_cons (pe_callB (call_max2 rfl) (by rfl) B.m_max (by decide +kernel) (pa_cons (pv 3) (pa_cons (pv 1) pa_nil))) pa_nil)))))))) (pss_one (ps_expr (pe_bm PySem.F.plainAttrs_list PySem.F.slot_list_append PySem.F.type_list_append mt_append (pv 2) (pa_cons (pv 3) pa_nil)))) pss_nil)))
      (pss_one (ps_ret (pv 2))))), ?_⟩
    try dsimp only [cxOf, Cx.nox, Cx.wish]
    rw [show L2.start ["_law_land", "_law_b", "_law_found", "_law_k"] [.ref l, .int a] = [some (.ref l), some (.int a), none, none] from rfl]
    have hll : (land.map V.int).length = land.length := List.length_map ..
    refine q_asgL (xs := []) (by walk_at "eu") fun dp H5 nd e5 hd => ?_
    walk_at "st"
    refine q_forR1 (n := ((land.map V.int).length : Nat)) (by walk_at "ea") (by omega) (fun i σ' H' => (Ex H H' ∧ H' dp = some (.lst ((dueN land a i).map V.int))) ∧ ∃ v3, σ' = [some (.ref l), some (.int a), some (.ref dp), v3])
      (fun H6 e6 => ⟨⟨by walk_at "ex", e6 _ _ hd⟩, none, rfl⟩) ?_ ?_
    · rintro i σ' H6 hi ⟨⟨e6, hd6⟩, v3, rfl⟩
      rw [hll] at hi
      walk_at "st"
      have hland : SqL K H6 l (land.map V.int) := by walk_at "sq"
      apply s_when (b := decide ((i : Int) ≠ a) && seesB land (min a (i : Int)) (max a (i : Int)))
      · refine et_and (et_is (b := decide ((i : Int) ≠ a)) (by walk_at "et") ?_) fun hne => ?_
        · by_cases e : (i : Int) = a
          · rw [decide_eq_true (congrArg V.int e), decide_eq_false (fun z => z e)]
            rfl
          · rw [decide_eq_false (fun z => e (V.int.inj z)), decide_eq_true e]
            rfl
        · have hne := of_decide_eq_true hne
          rw [Int.min_comm, Int.max_comm]
          exact et_B (ev_seen_by (by walk_at "ea") hland (by omega) (by omega) (by omega) (by omega))
      · intro hb H7 e7
        refine s_app (e7 _ _ hd6) (by walk_at "ev") (by walk_at "ev") (by rw [List.length_map]; exact Nat.lt_of_le_of_lt (dueN_len land a i) (by omega)) fun H8 e8 => ?_
        refine ⟨⟨Ex.mut (by walk_at "ex") nd, ?_⟩, _, rfl⟩
        rw [upd_same, dueN_yes hb, List.map_append]
        rfl
      · intro hb H7 e7
        refine ⟨⟨by walk_at "ex", ?_⟩, _, rfl⟩
        rw [dueN_no hb]
        exact e7 _ _ hd6
    rintro σ' H6 ⟨⟨e6, hd6⟩, v3, rfl⟩
    have en : (((land.map V.int).length : Nat) : Int).toNat = land.length := by rw [hll]; omega
    rw [en, ← view_due land a0 a1] at hd6
    apply s_ret
    · walk_at "ev"
    · intro H7 e7
      exact q dp H7 nd (by walk_at "ex") (e7 _ _ hd6)
abbrev s_next_place : Stmt := topS 17
theorem sc_next_place : FnScope ["land", "left", "hill", "place"] ["land", "left", "hill"] (defScope s_next_place) := ⟨rfl, rfl, rfl, by decide +kernel, rfl, by decide +kernel, by decide +kernel⟩

theorem ok_next {f N : Addr} {fd : FuncData} (F : Fun K "_next_place" "_next_place" s_next_place f fd) (B : Blt mg) (C_view : CalX P w K mg base "view" 3 ["land", "a"] (spLX (RView K) (RNoPlace K N))) : FnOk P w K mg base CX0 4 f fd ["land", "left", "hill"] (spV (RNext K)) := by
  refine F.ok sc_next_place (fun vs H Q E h => ?_) (fun cdv A outer s0 H vs Q E hr h => ?_)
  · obtain ⟨_, ⟨_, _, _, _, _, rfl, _⟩, _⟩ := h
    rfl
  · obtain ⟨v, ⟨l, lf, land, b, h, rfl, b0, b1, h0, h1, hn, h3, hs, hf, rfl⟩, q⟩ := h
    refine ⟨_, (pss_one (ps_ret (pe_callB (cr_min rfl) (by rfl) B.m_min (by decide +kernel) (pa_cons (pe_lc (own := [("place", 3)]) (g := gName 3) (tt := tTest (tOp (rI0 fun i j => .bl (decide (i < j))) (tOp (rIxL K) (tVar 1) (tVar 3)) (tOp (rIxL K) (tVar 1) (tVar 2)))) rfl sc_next_place.nd (pi_list (pe_cal0 C_view hr (pa_cons (pv 0) (pa_cons (pv 2) pa_nil)))) (blkOk_by (N := ["land", "left", "hill", "place"]) (sc := defScope s_next_place) (by decide +kernel)) (fun _ _ _ _ _ => (pg_name (i := 3) sc_next_place.nd rfl (Or.inl rfl))) (fun _ _ _ _ _ => (pts_one (pt_cmpR op_lt (pe_ix ix_list (pv 1) (pv 3) (fun _ _ => rfl)) (pe_ix ix_list (pv 1) (pv 2) (fun _ _ => rfl)) (nomark _)))) (fun _ _ _ _ _ => (pv 3))) pa_nil)))), ?_⟩
    try dsimp only [cxOf, Cx.nox, Cx.wish]
    rw [show L2.start ["land", "left", "hill", "place"] [.ref l, .ref lf, .int h] = [some (.ref l), some (.ref lf), some (.int h), none] from rfl]
    have vlen : (viewOf land h).length ≤ 1000 := by
      rw [view_due land h0 h1]
      exact Nat.le_trans (dueN_len land h land.length) (by omega)
    have hlv : ((viewOf land h).map V.int).length = (viewOf land h).length := List.length_map ..
    have hlh := hopsOf_len land b
    have hat : ∀ k : Nat, k < (viewOf land h).length → nearP land h (cel (viewOf land h) (k : Int)) := fun k hk => by
      have z := get_cel (ns := viewOf land h) (j := (k : Int)) (by omega) (by omega)
      exact ⟨h0, h1, List.mem_of_getElem? z⟩
    refine s_ret (v := .int (nextOf land b h)) (ev_minL (ms := lowsOf land b h) (el_eq (el_lcNL (xs := (viewOf land h).map V.int) (fun k => decide ((dist land b (cel (viewOf land h) (k : Int)) : Int) < (dist land b h : Int))) (fun k => .int (cel (viewOf land h) (k : Int))) (el_view (N := N) (by walk_at "ea") hs h0 h1 h3) (by omega) (fun _ => rfl)
      (fun k x H2 e2 hx => ?_) fun k x H2 e2 hx _ => ?_) ?_) (minL_mem (lows_ne b0 b1 h0 h1 hn)) fun y hy => minL_le hy) fun H2 e2 => q H2 e2
    · obtain ⟨hk, rfl⟩ := map_at hx
      obtain ⟨_, _, z0, z1⟩ := near_in (hat k hk)
      have hf2 := ex_l e2 hf
      generalize cel (viewOf land h) (k : Int) = z at z0 z1
      walk_at "wi"
      refine et_is (a := decide (cel (hopsOf land b) z < cel (hopsOf land b) h)) (by walk_at "et") ?_
      rw [cel_hops z0 z1, cel_hops h0 h1]
    · obtain ⟨hk, rfl⟩ := map_at hx
      walk_at "wi"
      walk_at "ev"
    · rw [hlv]
      exact given_filter (viewOf land h) fun p => decide ((dist land b p : Int) < (dist land b h : Int))
abbrev sway : Stmt := topS 15
theorem scway : FnScope ["land", "a", "b", "left", "path"] ["land", "a", "b"] (defScope sway) := ⟨rfl, rfl, rfl, by decide +kernel, rfl, by decide +kernel, by decide +kernel⟩

theorem ok_way {f N : Addr} {fd : FuncData} (F : Fun K "way" "way" sway f fd) (B : Blt mg) (C_check_hill : CalX P w K mg base "check_hill" 2 ["land", "place"] (spVX (RPlace K) (RNoPlace K N))) (C_hops : CalX P w K mg base "hops" 5 ["land", "a"] (spLX (RHops K) (RNoPlace K N)))
    (C__next_place : Cal P w K mg base "_next_place" 4 ["land", "left", "hill"] (spV (RNext K))) : FnOk P w K mg base (L2.CX P w) 6 f fd ["land", "a", "b"] (spLX (RWay K) (RNoWay K N)) := by
  refine F.okX scway (fun vs H Q E h => ?_) (fun cdv A outer s0 H vs Q E hr h => ?_)
  · rcases h with ⟨_, ⟨_, _, _, _, rfl, _⟩, _⟩ | ⟨_, ⟨_, _, _, _, rfl, _⟩, _⟩ <;> rfl
  · rcases h with ⟨v, ⟨l, land, a, b, rfl, a0, a1, b0, b1, h3, hs, rfl⟩, q⟩ | ⟨C, ⟨l, land, x, y, rfl, hs, h3, hb, rfl⟩, q⟩
    · refine ⟨_, (pss_cons (ps_expr (pe_calX C_check_hill hr (takes_of rfl rfl rfl rfl) (pa_cons (pv 0) (pa_cons (pv 1) pa_nil))))
      (pss_cons (ps_set (i := 3) scway.nd rfl (Or.inl rfl) (pe_calX C_hops hr (takes_of rfl rfl rfl rfl) (pa_cons (pv 0) (pa_cons (pv 2) pa_nil))))
      (pss_cons (ps_set (i := 4) scway.nd rfl (Or.inl rfl) (pe_lst (pa_cons (pv 1) pa_nil)))
      (pss_cons (ps_while (passes_of rfl) (pt_cmpR op_gt (pe_ix ix_list (pv 3) (pe_ix ix_list (pv 4) (pe_un un_neg pe_int) (fun _ _ => rfl)) (fun _ _ => rfl)) pe_int (nomark _)) (pss_one (ps_expr (pe_bm PySem.F.plainAttrs_list PySem.F.slot_list_append PySem.F.type_list_append mt_append (pv 4) (pa_cons (pe_cal C__next_place hr (pa_cons (pv 0) (pa_cons (pv 3) (pa_cons (pe_ix ix_list (pv 4) (pe_un un_neg pe_int) (fun _ _ => rfl)) pa_nil)))) pa_nil)))))
      (pss_one (ps_ret (pv 4))))))), ?_⟩
      try dsimp only [cxOf, Cx.nox, Cx.wish]
      rw [show L2.start ["land", "a", "b", "left", "path"] [.ref l, .int a, .int b] = [some (.ref l), some (.int a), some (.int b), none, none] from rfl]
      refine q_drop (v := .non) (ev_calX (vs := [.ref l, .int a]) (by walk_at "ea") fun H1 e1 => ⟨l, land, a, rfl, ex_l e1 hs, a0, a1, rfl⟩) fun H1 e1 => ?_
      refine q_asgL (xs := (hopsOf land b).map V.int) (el_calX (vs := [.ref l, .int b]) (by walk_at "ea") fun H2 e2 => ⟨l, land, b, rfl, b0, b1, h3, by walk_at "sq", rfl⟩) fun lf H2 nlf e2 hlf => ?_
      walk_at "st"
      refine q_asgL (xs := [V.int a]) (by walk_at "eu") fun pp H3 np e3 hpp => ?_
      walk_at "st"
      have npH : H pp = none := fresh_back (by walk_at "ex") np
      have hlh := hopsOf_len land b
      have hd1 := dist_lt b0 b1 a0 a1
      refine q_while (fun mm σ' H' => ∃ i : Nat, mm = dist land b a - i ∧ i ≤ dist land b a ∧ Ex H2 H' ∧ H' pp = some (.lst ((pathN land b a i).map V.int)) ∧ σ' = [some (.ref l), some (.int a), some (.int b), some (.ref lf), some (.ref pp)]) (dist land b a)
        ⟨0, by omega, by omega, e3, hpp, rfl⟩ ?_
      rintro mm σ' H4 ⟨i, rfl, hi, e4, hp4, rfl⟩
      obtain ⟨s0, s1, sd⟩ := step_spec a0 a1 b0 b1 i hi
      have lp := pathN_last land b a i
      have ln := pathN_len land b a i
      have hlf4 := e4 _ _ hlf
      have hsl : SqL K H4 l (land.map V.int) := by walk_at "sq"
      refine ⟨decide ((0 : Int) < (dist land b (stepN land b a i) : Int)), et_is (et_test (ev_op (ev_op (by walk_at "ev") (ev_int (by walk_at "ev") lp) (by walk_at "rv")) ev_c (by walk_at "rv"))) (by rw [cel_hops s0 s1]), fun hb H5 e5 => ?_, fun hb H5 e5 => ?_⟩
      · have hb := of_decide_eq_true hb
        have hne : stepN land b a i ≠ b := fun z => by
          rw [z, dist_self b0 b1] at hb
          omega
        refine ⟨fun σ2 H6 => ∃ j : Nat, dist land b a - (i + 1) = dist land b a - j ∧ j ≤ dist land b a ∧ Ex H2 H6 ∧ H6 pp = some (.lst ((pathN land b a j).map V.int)) ∧ σ2 = [some (.ref l), some (.int a), some (.int b), some (.ref lf), some (.ref pp)], fun σ2 H6 h => ⟨_, by omega, h⟩, ?_⟩
        refine s_app (v := .int (nextOf land b (stepN land b a i))) (e5 _ _ hp4) (by walk_at "ev") (ev_next (b := b) (h := stepN land b a i) (ea_cons (by walk_at "ev") (ea_cons (by walk_at "ev") (ea_cons (ev_int (by walk_at "ev") lp) ea_nil))) b0 b1 s0 s1 hne h3 (by walk_at "sq") (by walk_at "sq")) (by rw [List.length_map, ln]; omega) fun H6 e6 => ?_
        refine ⟨i + 1, rfl, by omega, Ex.mut (by walk_at "ex") np, ?_, rfl⟩
        rw [upd_same, pathN_succ, List.map_append]
        rfl
      · have hb := of_decide_eq_false hb
        have ei : i = dist land b a := by omega
        apply s_ret
        · walk_at "ev"
        · intro H6 e6
          refine q pp H6 npH (by walk_at "ex") ?_
          rw [wayOf_path, ← ei]
          exact e6 _ _ (e5 _ _ hp4)
    · refine ⟨_, (pss_cons (ps_expr (pe_calX C_check_hill hr (takes_of rfl rfl rfl rfl) (pa_cons (pv 0) (pa_cons (pv 1) pa_nil))))
      (pss_cons (ps_set (i := 3) scway.nd rfl (Or.inl rfl) (pe_calX C_hops hr (takes_of rfl rfl rfl rfl) (pa_cons (pv 0) (pa_cons (pv 2) pa_nil))))
      (pss_cons (ps_set (i := 4) scway.nd rfl (Or.inl rfl) (pe_lst (pa_cons (pv 1) pa_nil)))
      (pss_cons (ps_while (passes_of rfl) (pt_cmpR op_gt (pe_ix ix_list (pv 3) (pe_ix ix_list (pv 4) (pe_un un_neg pe_int) (fun _ _ => rfl)) (fun _ _ => rfl)) pe_int (nomark _)) (pss_one (ps_expr (pe_bm PySem.F.plainAttrs_list PySem.F.slot_list_append PySem.F.type_list_append mt_append (pv 4) (pa_cons (pe_cal C__next_place hr (pa_cons (pv 0) (pa_cons (pv 3) (pa_cons (pe_ix ix_list (pv 4) (pe_un un_neg pe_int) (fun _ _ => rfl)) pa_nil)))) pa_nil)))))
      (pss_one (ps_ret (pv 4))))))), ?_⟩
      try dsimp only [cxOf, Cx.nox, Cx.wish]
      rw [show L2.start ["land", "a", "b", "left", "path"] [.ref l, x, y] = [some (.ref l), some (x), some (y), none, none] from rfl]
      cases hb with
      | first _ _ hx => exact rx_calV (vs := [.ref l, x]) (by walk_at "ea") (fun H1 e1 => ⟨l, land, x, rfl, ex_l e1 hs, hx.ex e1, rfl⟩) fun H1 e1 => q H1 e1
      | second i _ h0 h1 hy =>
        refine q_drop (v := .non) (ev_calX (vs := [.ref l, .int i]) (by walk_at "ea") fun H1 e1 => ⟨l, land, i, rfl, ex_l e1 hs, h0, h1, rfl⟩) fun H1 e1 => ?_
        exact rx_calL (vs := [.ref l, y]) (by walk_at "ea") (fun H2 e2 => ⟨l, land, y, rfl, by walk_at "sq", (hy.ex e1).ex e2, rfl⟩) fun H2 e2 => q H2 (by walk_at "ex")
abbrev s_law_refused : Stmt := topS 27
theorem sc_law_refused : FnScope ["_law_land", "_law_a", "_law_b"] ["_law_land", "_law_a", "_law_b"] (defScope s_law_refused) := ⟨rfl, rfl, rfl, by decide +kernel, rfl, by decide +kernel, by decide +kernel⟩

theorem ok_refused {f N HE : Addr} {fd : FuncData} (F : Fun K "_law_refused" "_law_refused" s_law_refused f fd) (X_NoHill : ExK K mg "NoHill" N) (X_HillError : ExK K mg "HillError" HE) (C_way : CalX P w K mg base "way" 6 ["land", "a", "b"] (spLX (RWay K) (RNoWay K N))) :
    FnOk P w K mg base CX0 7 f fd ["_law_land", "_law_a", "_law_b"] (spV (RRef9 K)) := by
  refine F.ok sc_law_refused (fun vs H Q E h => ?_) (fun cdv A outer s H vs Q E hr h => ?_)
  · obtain ⟨_, ⟨_, _, _, _, rfl, _⟩, _⟩ := h
    rfl
  · obtain ⟨v, ⟨l, land, x, y, rfl, hs, h3, hb, rfl⟩, q⟩ := h
    refine ⟨_, (pss_cons (ps_try_many rfl rfl takes_none5 (fun W pn xe tk po => (pss_one (ps_expr (pe_calX C_way hr tk (pa_cons (pv 0) (pa_cons (pv 1) (pa_cons (pv 2) pa_nil))))))) (.cons (ts := fun _ _ _ => (tRet (tC (.bl true)))) ⟨rfl, by decide, Or.inl X_NoHill.g⟩ (fun a oe cls d pn hz hf => (pss_one (ps_ret pe_bl))) (.cons (ts := fun _ _ _ => (tRet (tC (.bl false)))) ⟨rfl, by decide, Or.inl X_HillError.g⟩ (fun a oe cls d pn hz hf => (pss_one (ps_ret pe_bl))) .nil)))
      (pss_one (ps_ret pe_bl))), ?_⟩
    try dsimp only [cxOf, Cx.nox, Cx.wish]
    rw [show L2.start ["_law_land", "_law_a", "_law_b"] [.ref l, x, y] = [some (.ref l), some (x), some (y)] from rfl]
    refine rx_calL (vs := [.ref l, x, y]) (by walk_at "ea") (fun H7 e7 => ⟨l, land, x, y, rfl, ex_l e7 hs, h3, hb.ex e7, rfl⟩) fun H7 e7 => ?_
    refine ⟨true, X_NoHill.te, fun _ a _ => ?_, fun z => nomatch z⟩
    exact s_ret ev_c fun H8 e8 => q H8 (by walk_at "ex")
abbrev s_law_left_by : Stmt := topS 26
theorem sc_law_left_by : FnScope ["_law_rows", "_law_b", "_law_found", "_law_many", "_law_here", "_law_row", "_law_k"] ["_law_rows", "_law_b"] (defScope s_law_left_by) := ⟨rfl, rfl, rfl, by decide +kernel, rfl, by decide +kernel, by decide +kernel⟩

theorem ok_left {f : Addr} {fd : FuncData} (F : Fun K "_law_left_by" "_law_left_by" s_law_left_by f fd) (B : Blt mg) : FnOk P w K mg base CX0 1 f fd ["_law_rows", "_law_b"] (spL (RLeft K)) := by
  refine F.ok sc_law_left_by (fun vs H Q E h => ?_) (fun cdv A outer s0 H vs Q E hr h => ?_)
  · obtain ⟨_, ⟨_, _, _, rfl, _⟩, _⟩ := h
    rfl
  · obtain ⟨v, ⟨p, land, b, rfl, b0, b1, h3, hp, rfl⟩, q⟩ := h
    refine ⟨_, (pss_cons (ps_set (i := 2) sc_law_left_by.nd rfl (Or.inr rfl) (pe_lc (own := [("_law_row", 5)]) (g := gName 5) (te := (tCB (fun xs H Q => ∃ p ys, xs = [V.ref p] ∧ (SqL K H p ys ∨ SqT K H p ys) ∧ Q (.int ys.length) H) (tCons (tVar 0) tNil))) (tt := tYes) rfl sc_law_left_by.nd (pi_list (pv 0)) (blkOk_by (N := ["_law_rows", "_law_b", "_law_found", "_law_many", "_law_here", "_law_row", "_law_k"]) (sc := defScope s_law_left_by) (by decide +kernel)) (fun _ _ _ _ _ => (pg_name (i := 5) sc_law_left_by.nd rfl (Or.inl rfl))) (fun _ _ _ _ _ => pts_nil) (fun _ _ _ _ _ => (pe_callB call_len_seq (by rfl) B.m_len PySem.boot_len (pa_cons (pv 0) pa_nil)))))
      (pss_cons (ps_asg pe_int (pg_sub (pv 2) (pv 1) set_list))
      (pss_cons (ps_for PassesOwn.never rfl (pi_range1 (by rfl) B.m_range (pa_cons (pe_callB call_len_seq (by rfl) B.m_len PySem.boot_len (pa_cons (pv 0) pa_nil)) pa_nil)) (pg_name (i := 3) sc_law_left_by.nd rfl (Or.inr rfl)) (pss_one (ps_for PassesOwn.never rfl (pi_range1 (by rfl) B.m_range (pa_cons (pe_callB call_len_seq (by rfl) B.m_len PySem.boot_len (pa_cons (pv 0) pa_nil)) pa_nil)) (pg_name (i := 4) sc_law_left_by.nd rfl (Or.inl rfl)) (pss_one (ps_if (PW.pt (pw_and (pt_cmpR op_gt (pe_ix ix_list (pv 2) (pv 4) (fun _ _ => rfl)) (pe_op op_add (pv 3) pe_int) (nomark _)) (pw_and1 (pt_val (pe_callB (cr_any rfl) (by rfl) B.m_any (by decide +kernel) (pa_cons (pe_lc (own := [("_law_k", 6)]) (g := gName 6) (te := (tOp rEq (tOp (rIxL K) (tVar 2) (tVar 6)) (tVar 3))) (tt := tYes) rfl sc_law_left_by.nd (pi_list (pe_ix ix_list (pv 0) (pv 4) (fun _ _ => rfl))) (blkOk_by (N := ["_law_rows", "_law_b", "_law_found", "_law_many", "_law_here", "_law_row", "_law_k"]) (sc := defScope s_law_left_by) (by decide +kernel)) (fun _ _ _ _ _ => (pg_name (i := 6) sc_law_left_by.nd rfl (Or.inl rfl))) (fun _ _ _ _ _ => pts_nil) (fun _ _ _ _ _ => (pe_cmpR op_eq (pe_ix ix_list (pv 2) (pv 6) (fun _ _ => rfl)) (pv 3) (nomark _)))) pa_nil)))))) (pss_one (ps_asg (pe_op op_add (pv 3) pe_int) (pg_sub (pv 2) (pv 4) set_list))) pss_nil)))))
      (pss_one (ps_ret (pv 2)))))), ?_⟩
    try dsimp only [cxOf, Cx.nox, Cx.wish]
    rw [show L2.start ["_law_rows", "_law_b", "_law_found", "_law_many", "_law_here", "_law_row", "_law_k"] [.ref p, .int b] = [some (.ref p), some (.int b), none, none, none, none, none] from rfl]
    obtain ⟨bn, rfl⟩ : ∃ n : Nat, b = (n : Int) := ⟨b.toNat, by omega⟩
    obtain ⟨as, ha, hal, hat⟩ := id hp
    have hal : as.length = land.length := by rw [hal, List.length_map, List.length_range]
    have har : (as.map V.ref).length = land.length := by rw [List.length_map, hal]
    have hsq : SqL K H p (as.map V.ref) := sq_of ha
    have hrow : ∀ k : Nat, k < land.length → ∃ a : Addr, atI (as.map V.ref) (k : Int) = some (.ref a) ∧ H a = some (.lst ((viewOf land (k : Int)).map V.int)) := fun k hk => by
      refine ⟨as[k], atI_nat (by rw [List.getElem?_map, List.getElem?_eq_getElem (by omega)]; rfl), hat k _ _ (List.getElem?_eq_getElem (by omega)) ?_⟩
      rw [List.getElem?_map, List.getElem?_range hk]
      rfl
    refine q_asgL (xs := (leftV land (bn : Int) fun _ => false).map V.int) (el_eq (el_lcL (xs := as.map V.ref) (fun _ => true) (fun _ => .int (((as.map V.ref).length : Nat) : Int)) (by walk_at "ev") hsq (by omega) (fun _ => rfl) (fun _ _ _ _ _ => et_yes) fun k x H2 e2 hx _ => ?_) ?_) fun fp H1 nf e1 hf => ?_
    · walk_at "wi"
      walk_at "ev"
    · rw [given_all (g := fun _ => (((as.map V.ref).length : Nat) : Int)) (fun _ => rfl), leftV_none, har]
      congr 1
      exact List.eq_replicate_iff.mpr ⟨by rw [List.length_map, List.length_range], fun x hx => by obtain ⟨_, _, e⟩ := List.mem_map.mp hx; exact e.symm⟩
    walk_at "st"
    have db := dist_self b0 b1
    refine q_setL (j := bn) (v := .int (dist land (bn : Int) (bn : Int) : Int)) hf (ev_int (i := 0) (by walk_at "ev") (by rw [db]; rfl)) (by walk_at "ev") (by walk_at "ev") (by rw [List.length_map, leftV_len]; omega) fun H3 e3 => ?_
    have e4 : Ex H (upd H3 fp (.lst (((leftV land (bn : Int) fun _ => false).map V.int).set bn (.int (dist land (bn : Int) (bn : Int) : Int))))) := Ex.mut (by walk_at "ex") nf
    have hs4 : upd H3 fp (.lst (((leftV land (bn : Int) fun _ => false).map V.int).set bn (.int (dist land (bn : Int) (bn : Int) : Int)))) fp = some (.lst ((leftV land (bn : Int) fun x => decide (dist land (bn : Int) x ≤ 0)).map V.int)) := by
      rw [upd_same, ← List.map_set, leftV_set (by omega)]
      congr 3
      refine leftV_congr fun x x0 x1 => ?_
      rw [Bool.false_or, Bool.eq_iff_iff, decide_eq_true_eq, decide_eq_true_eq]
      constructor
      · intro z
        rw [z]
        omega
      · intro z
        by_cases hne : x = (bn : Int)
        · exact hne
        · have := dist_pos b0 b1 x0 x1 hne
          omega
    revert e4 hs4
    generalize upd H3 fp (.lst (((leftV land (bn : Int) fun _ => false).map V.int).set bn (.int (dist land (bn : Int) (bn : Int) : Int)))) = H4
    intro e4 hs4
    clear e3 hf e1
    refine q_forR1 (n := ((as.map V.ref).length : Nat)) (by walk_at "ea") (by omega) (fun m σ' H' => Ex H H' ∧ H' fp = some (.lst ((leftV land (bn : Int) fun x => decide (dist land (bn : Int) x ≤ m)).map V.int)) ∧ ∃ v3 v4, σ' = [some (.ref p), some (.int (bn : Int)), some (.ref fp), v3, v4, none, none])
      (fun H5 e5 => ⟨by walk_at "ex", e5 _ _ hs4, none, none, rfl⟩) ?_ ?_
    · rintro m σ' H5 hm ⟨e5, hf5, v3, v4, rfl⟩
      rw [har] at hm
      walk_at "st"
      refine s_forR1 (n := ((as.map V.ref).length : Nat)) (by walk_at "ea") (by omega) (fun h σ' H' => Ex H H' ∧ H' fp = some (.lst ((leftV land (bn : Int) fun x => decide (dist land (bn : Int) x ≤ m) || (decide (x < (h : Int)) && decide (dist land (bn : Int) x = m + 1))).map V.int)) ∧ ∃ v4, σ' = [some (.ref p), some (.int (bn : Int)), some (.ref fp), some (.int (m : Int)), v4, none, none])
        (fun H6 e6 => ⟨by walk_at "ex", by
          rw [e6 _ _ hf5]
          congr 3
          refine leftV_congr fun x x0 x1 => ?_
          rw [decide_eq_false (p := x < ((0 : Nat) : Int)) (by omega), Bool.false_and, Bool.or_false], v4, rfl⟩) ?_ ?_
      · rintro h σ' H6 hh ⟨e6, hf6, v4, rfl⟩
        rw [har] at hh
        walk_at "st"
        obtain ⟨a, hia, hva⟩ := hrow h (by omega)
        have hva6 : SqL K H6 a ((viewOf land (h : Int)).map V.int) := by walk_at "sq"
        have hh0 : (0 : Int) ≤ (h : Int) := by omega
        have hh1 : (h : Int) < (land.length : Int) := by omega
        have hdl := dist_lt b0 b1 hh0 hh1
        have llv := leftV_len land (bn : Int) fun x => decide (dist land (bn : Int) x ≤ m) || (decide (x < (h : Int)) && decide (dist land (bn : Int) x = m + 1))
        have hcel : ∀ x : Int, 0 ≤ x → x < (land.length : Int) → cel (leftV land (bn : Int) fun x => decide (dist land (bn : Int) x ≤ m) || (decide (x < (h : Int)) && decide (dist land (bn : Int) x = m + 1))) x = if (decide (dist land (bn : Int) x ≤ m) || (decide (x < (h : Int)) && decide (dist land (bn : Int) x = m + 1))) = true then (dist land (bn : Int) x : Int) else (land.length : Int) := fun x x0 x1 => leftV_at x0 x1
        have hstep : (leftV land (bn : Int) fun x => decide (dist land (bn : Int) x ≤ m) || (decide (x < (((h + 1 : Nat)) : Int)) && decide (dist land (bn : Int) x = m + 1))) = if dist land (bn : Int) (h : Int) = m + 1 then (leftV land (bn : Int) fun x => decide (dist land (bn : Int) x ≤ m) || (decide (x < (h : Int)) && decide (dist land (bn : Int) x = m + 1))).set h (dist land (bn : Int) (h : Int) : Int) else leftV land (bn : Int) fun x => decide (dist land (bn : Int) x ≤ m) || (decide (x < (h : Int)) && decide (dist land (bn : Int) x = m + 1)) := by
          by_cases hd : dist land (bn : Int) (h : Int) = m + 1
          · rw [if_pos hd, leftV_set (by omega)]
            refine leftV_congr fun x x0 x1 => ?_
            rw [Bool.eq_iff_iff]
            simp only [Bool.or_eq_true, Bool.and_eq_true, decide_eq_true_eq]
            constructor
            · rintro (z | ⟨z1, z2⟩)
              · exact .inl (.inl z)
              · by_cases ex : x = (h : Int)
                · exact .inr ex
                · exact .inl (.inr ⟨by omega, z2⟩)
            · rintro ((z | ⟨z1, z2⟩) | z)
              · exact .inl z
              · exact .inr ⟨by omega, z2⟩
              · rw [z]
                exact .inr ⟨by omega, hd⟩
          · rw [if_neg hd]
            refine leftV_congr fun x x0 x1 => ?_
            rw [Bool.eq_iff_iff]
            simp only [Bool.or_eq_true, Bool.and_eq_true, decide_eq_true_eq]
            constructor
            · rintro (z | ⟨z1, z2⟩)
              · exact .inl z
              · by_cases ex : x = (h : Int)
                · rw [ex] at z2
                  exact absurd z2 hd
                · exact .inr ⟨by omega, z2⟩
            · rintro (z | ⟨z1, z2⟩)
              · exact .inl z
              · exact .inr ⟨by omega, z2⟩
        generalize (leftV land (bn : Int) fun x => decide (dist land (bn : Int) x ≤ m) || (decide (x < (h : Int)) && decide (dist land (bn : Int) x = m + 1))) = R at hf6 hcel hstep llv
        have hR : SqL K H6 fp (R.map V.int) := sq_of hf6
        have vlen : (viewOf land (h : Int)).length ≤ 1000 := by
          rw [view_due land hh0 hh1]
          exact Nat.le_trans (dueN_len land (h : Int) land.length) (by omega)
        have hlv : ((viewOf land (h : Int)).map V.int).length = (viewOf land (h : Int)).length := List.length_map ..
        have hnat : ∀ k : Nat, k < (viewOf land (h : Int)).length → nearP land (h : Int) (cel (viewOf land (h : Int)) (k : Int)) := fun k hk => by
          have z := get_cel (ns := viewOf land (h : Int)) (j := (k : Int)) (by omega) (by omega)
          exact ⟨hh0, hh1, List.mem_of_getElem? z⟩
        have hany : (decide ((m : Int) + 1 < cel R (h : Int)) && ((List.range (viewOf land (h : Int)).length).map fun (k : Nat) => decide (V.int (cel R (cel (viewOf land (h : Int)) (k : Int))) = V.int (m : Int))).any id) = decide (dist land (bn : Int) (h : Int) = m + 1) := by
          rw [hcel _ hh0 hh1, decide_eq_false (p := (h : Int) < (h : Int)) (by omega), Bool.false_and, Bool.or_false, any_range]
          by_cases hd : dist land (bn : Int) (h : Int) = m + 1
          · rw [if_neg (by rw [decide_eq_true_eq]; omega), decide_eq_true hd, decide_eq_true (by omega), Bool.true_and, List.any_eq_true]
            have hne : (h : Int) ≠ (bn : Int) := fun z => by
              rw [z, db] at hd
              omega
            obtain ⟨y, hy, hyd⟩ := dist_pred b0 b1 hh0 hh1 hne
            obtain ⟨k, hk⟩ := List.getElem?_of_mem hy.2.2
            have hk1 := (List.getElem?_eq_some_iff.mp hk).1
            have z := get_cel (ns := viewOf land (h : Int)) (j := (k : Int)) (by omega) (by omega)
            rw [Int.toNat_natCast, hk] at z
            obtain ⟨_, _, y0, y1⟩ := near_in hy
            refine ⟨k, List.mem_range.mpr hk1, ?_⟩
            rw [← Option.some.inj z, hcel y y0 y1, if_pos (by rw [decide_eq_true (show dist land (bn : Int) y ≤ m by omega), Bool.true_or])]
            refine decide_eq_true (congrArg V.int ?_)
            omega
          · rw [decide_eq_false hd, Bool.and_eq_false_iff]
            by_cases hle : dist land (bn : Int) (h : Int) ≤ m
            · rw [if_pos (decide_eq_true hle)]
              exact .inl (decide_eq_false (by omega))
            · refine .inr (List.any_eq_false.mpr fun k hk => ?_)
              have hk := List.mem_range.mp hk
              have hn := hnat k hk
              obtain ⟨_, _, z0, z1⟩ := near_in hn
              have d1 := dist_near b0 b1 hn
              rw [hcel _ z0 z1, decide_eq_true_eq]
              intro z
              have z := V.int.inj z
              split at z
              · omega
              · omega
        apply s_when (b := decide (dist land (bn : Int) (h : Int) = m + 1))
        · refine et_is (et_and (a := decide ((m : Int) + 1 < cel R (h : Int))) (by walk_at "et") fun _ => et_B (ev_any (bs := (List.range (viewOf land (h : Int)).length).map fun (k : Nat) => decide (V.int (cel R (cel (viewOf land (h : Int)) (k : Int))) = V.int (m : Int))) ?_)) hany
          rw [← given_allB (v := fun (k : Nat) => .bl (decide (V.int (cel R (cel (viewOf land (h : Int)) (k : Int))) = V.int (m : Int)))) (fun _ => rfl), ← hlv]
          refine el_lcL (a := a) (fun _ => true) _ (ev_op (by walk_at "ev") (by walk_at "ev") (rv_ixL (by walk_at "sq") hia)) hva6 (by omega) (fun _ => rfl) (fun _ _ _ _ _ => et_yes) fun k x H14 e14 hx _ => ?_
          obtain ⟨hk, rfl⟩ := map_at hx
          obtain ⟨_, _, z0, z1⟩ := near_in (hnat k hk)
          have hR2 := ex_l e14 hR
          generalize cel (viewOf land (h : Int)) (k : Int) = z at z0 z1
          walk_at "wi"
          walk_at "ev"
        · intro hd H7 e7
          have hd := of_decide_eq_true hd
          refine s_setL (j := h) (v := .int ((m : Int) + 1)) (e7 _ _ hf6) (by walk_at "ev") (by walk_at "ev") (by walk_at "ev") (by rw [List.length_map, llv]; omega) fun H8 e8 => ?_
          refine ⟨Ex.mut (by walk_at "ex") nf, ?_, _, rfl⟩
          rw [upd_same, hstep, if_pos hd, ← List.map_set, hd]
          rfl
        · intro hd H7 e7
          have hd := of_decide_eq_false hd
          refine ⟨by walk_at "ex", ?_, _, rfl⟩
          rw [hstep, if_neg hd]
          exact e7 _ _ hf6
      · rintro σ' H6 ⟨e6, hf6, v4, rfl⟩
        refine ⟨e6, ?_, _, _, rfl⟩
        rw [hf6]
        congr 3
        refine leftV_congr fun x x0 x1 => ?_
        rw [har, Bool.eq_iff_iff]
        simp only [Bool.or_eq_true, Bool.and_eq_true, decide_eq_true_eq]
        constructor
        · rintro (z | ⟨_, z⟩) <;> omega
        · intro z
          by_cases e : dist land (bn : Int) x = m + 1
          · exact .inr ⟨by omega, e⟩
          · exact .inl (by omega)
    · rintro σ' H5 ⟨e5, hf5, v3, v4, rfl⟩
      apply s_ret
      · walk_at "ev"
      · intro H6 e6
        refine q fp H6 nf (by walk_at "ex") ?_
        rw [e6 _ _ hf5, ← leftV_all]
        congr 3
        refine leftV_congr fun x x0 x1 => ?_
        have := dist_lt b0 b1 x0 x1
        rw [decide_eq_true_eq, har]
        omega
abbrev s_law_known : Stmt := topS 28
theorem sc_law_known : FnScope ["_law_script", "_law_size", "_law_tilt", "_law_a", "_law_b", "_law_land", "_law_k"] ["_law_script"] (defScope s_law_known) := ⟨rfl, rfl, rfl, by decide +kernel, rfl, by decide +kernel, by decide +kernel⟩

theorem ok_known {f N : Addr} {fd : FuncData} (F : Fun K "_law_known" "_law_known" s_law_known f fd) (B : Blt mg) (C__law_cell_at : Cal P w K mg base "_law_cell_at" 1 ["_law_script", "_law_k"] (spV (RCel K))) (C_way : CalX P w K mg base "way" 6 ["land", "a", "b"] (spLX (RWay K) (RNoWay K N))) :
    FnOk P w K mg base CX0 7 f fd ["_law_script"] (spV (RKnown K)) := by
  refine F.ok sc_law_known (fun vs H Q E h => ?_) (fun cdv A outer s H vs Q E hr h => ?_)
  · obtain ⟨_, ⟨_, _, rfl, _⟩, _⟩ := h
    rfl
  · obtain ⟨v, ⟨l, ns, rfl, hs, rfl⟩, q⟩ := h
    refine ⟨_, (pss_cons (ps_set (i := 1) sc_law_known.nd rfl (Or.inl rfl) (pe_op op_add pe_int (pe_op op_mod (pe_cal C__law_cell_at hr (pa_cons (pv 0) (pa_cons pe_int pa_nil))) pe_int)))
      (pss_cons (ps_set (i := 2) sc_law_known.nd rfl (Or.inr rfl) (pe_op op_sub (pe_op op_mod (pe_cal C__law_cell_at hr (pa_cons (pv 0) (pa_cons pe_int pa_nil))) pe_int) pe_int))
      (pss_cons (ps_set (i := 3) sc_law_known.nd rfl (Or.inr rfl) (pe_op op_mod (pe_op op_fdiv (pe_cal C__law_cell_at hr (pa_cons (pv 0) (pa_cons pe_int pa_nil))) pe_int) (pv 1)))
      (pss_cons (ps_set (i := 4) sc_law_known.nd rfl (Or.inl rfl) (pe_op op_mod (pe_op op_fdiv (pe_cal C__law_cell_at hr (pa_cons (pv 0) (pa_cons pe_int pa_nil))) pe_int) (pv 1)))
      (pss_cons (ps_setLc (i := 5) (own := [("_law_k", 6)]) (g := gName 6) (tt := tYes) rfl sc_law_known.nd rfl rfl (sw_true rfl rfl rfl (by decide +kernel)) (pi_range1 (by rfl) B.m_range (pa_cons (pv 1) pa_nil)) (blkOk_by (N := ["_law_script", "_law_size", "_law_tilt", "_law_a", "_law_b", "_law_land", "_law_k"]) (sc := defScope s_law_known) (by decide +kernel)) (fun _ _ _ _ _ => (pg_name (i := 6) sc_law_known.nd rfl (Or.inl rfl))) (fun _ _ _ _ _ => pts_nil) (fun _ _ _ _ _ => (pe_op op_add (pe_op op_mul (pv 2) (pv 6)) pe_int)))
      (pss_cons (ps_if (pt_cmpR op_lt (pv 3) (pv 4) (nomark _)) (pss_one (ps_ret (pe_cmpR (op_eqD hr.units) (pe_cal0 C_way hr (pa_cons (pv 5) (pa_cons (pv 3) (pa_cons (pv 4) pa_nil)))) (pe_lc (own := [("_law_k", 6)]) (g := gName 6) (tt := tYes) rfl sc_law_known.nd (pi_range2 (by rfl) B.m_range (pa_cons (pv 3) (pa_cons (pe_op op_add (pv 4) pe_int) pa_nil))) (blkOk_by (N := ["_law_script", "_law_size", "_law_tilt", "_law_a", "_law_b", "_law_land", "_law_k"]) (sc := defScope s_law_known) (by decide +kernel)) (fun _ _ _ _ _ => (pg_name (i := 6) sc_law_known.nd rfl (Or.inl rfl))) (fun _ _ _ _ _ => pts_nil) (fun _ _ _ _ _ => (pv 6))) (nomark _)))) pss_nil)
      (pss_one (ps_ret (pe_cmpR (op_eqD hr.units) (pe_cal0 C_way hr (pa_cons (pv 5) (pa_cons (pv 3) (pa_cons (pv 4) pa_nil)))) (pe_lc (own := [("_law_k", 6)]) (g := gName 6) (tt := tYes) rfl sc_law_known.nd (pi_range1 (by rfl) B.m_range (pa_cons (pe_op op_add (pe_op op_sub (pv 3) (pv 4)) pe_int) pa_nil)) (blkOk_by (N := ["_law_script", "_law_size", "_law_tilt", "_law_a", "_law_b", "_law_land", "_law_k"]) (sc := defScope s_law_known) (by decide +kernel)) (fun _ _ _ _ _ => (pg_name (i := 6) sc_law_known.nd rfl (Or.inl rfl))) (fun _ _ _ _ _ => pts_nil) (fun _ _ _ _ _ => (pe_op op_sub (pv 3) (pv 6)))) (nomark _)))))))))), ?_⟩
    try dsimp only [cxOf, Cx.nox, Cx.wish]
    rw [show L2.start ["_law_script", "_law_size", "_law_tilt", "_law_a", "_law_b", "_law_land", "_law_k"] [.ref l] = [some (.ref l), none, none, none, none, none, none] from rfl]
    obtain ⟨n, hn⟩ : ∃ n, 150 + cel ns 1 % 51 = n := ⟨_, rfl⟩
    refine q_asg (v := .int n) (ev_int (by walk_at "ev") hn) fun H1 e1 => ?_
    walk_at "st"
    have n0 : 150 ≤ n ∧ n ≤ 200 := by omega
    clear hn
    obtain ⟨t, ht⟩ : ∃ t, cel ns 0 % 9 - 4 = t := ⟨_, rfl⟩
    refine q_asg (v := .int t) (ev_int (by walk_at "ev") ht) fun H2 e2 => ?_
    walk_at "st"
    have t0 : -4 ≤ t ∧ t ≤ 4 := by omega
    clear ht
    obtain ⟨a, ha⟩ : ∃ a, cel ns 1 / 51 % n = a := ⟨_, rfl⟩
    refine q_asg (v := .int a) (ev_int (by walk_at "ev") ha) fun H3 e3 => ?_
    walk_at "st"
    have a0 : 0 ≤ a := ha ▸ Int.emod_nonneg _ (by omega)
    have a1 : a < n := ha ▸ Int.emod_lt_of_pos _ (by omega)
    clear ha
    obtain ⟨b, hb⟩ : ∃ b, cel ns 2 / 9 % n = b := ⟨_, rfl⟩
    refine q_asg (v := .int b) (ev_int (by walk_at "ev") hb) fun H4 e4 => ?_
    walk_at "st"
    have b0 : 0 ≤ b := hb ▸ Int.emod_nonneg _ (by omega)
    have b1 : b < n := hb ▸ Int.emod_lt_of_pos _ (by omega)
    clear hb
    obtain ⟨m, rfl⟩ : ∃ m : Nat, n = (m : Int) := ⟨n.toNat, by omega⟩
    obtain ⟨land, hland⟩ : ∃ land : List Int, (List.range m).map (fun (k : Nat) => t * (k : Int) + 7) = land := ⟨_, rfl⟩
    have ll : land.length = m := by rw [← hland, List.length_map, List.length_range]
    have hl : ∀ j : Int, 0 ≤ j → j < (land.length : Int) → cel land j = t * j + 7 := fun j j0 j1 => by
      rw [← hland]
      unfold cel
      rw [List.getD_eq_getElem?_getD, List.getElem?_map, List.getElem?_range (by omega)]
      have e : ((j.toNat : Nat) : Int) = j := by omega
      show t * ((j.toNat : Nat) : Int) + 7 = _
      rw [e]
    refine q_asgL (xs := land.map V.int) ?_ fun lp H5 nl e5 hlp => ?_
    · rw [← hland]
      refine el_eq (el_lcR1 (n := (m : Int)) (fun _ => true) (fun k => .int (t * (k : Int) + 7)) (by walk_at "ea") (by omega) (fun _ => rfl) (fun _ _ _ _ => et_yes) fun i H5 e5 hi _ => ?_) (by rw [given_all (g := fun k => t * (k : Int) + 7) (fun _ => rfl), Int.toNat_natCast])
      walk_at "wi"
      walk_at "ev"
    walk_at "st"
    have hw := line_way hl a0 (by omega) b0 (by omega)
    apply q_when
    · walk_at "et"
    · intro hb H6 e6
      have hb := of_decide_eq_true hb
      refine s_ret (v := .bl true) (ev_is (v := .bl (decide (wayOf land a b = wayOf land a b))) (ev_opLL (xs := (wayOf land a b).map V.int) (ys := (wayOf land a b).map V.int) (el_way (N := N) (by walk_at "ea") (by walk_at "sq") a0 (by omega) b0 (by omega) (by omega)) ?_
        fun p q H4 hp hq e4 => rv_eqI (sq_of hp) (sq_of hq)) (by simp)) fun H7 e7 => q H7 (by walk_at "ex")
      refine el_eq (el_lcR2 (lo := a) (n := b + 1) (fun _ => true) (fun k => .int (a + (k : Int))) (by walk_at "ea") (by omega) (fun _ => rfl) (fun _ _ _ _ => et_yes) fun i H5 e5 hi _ => ?_) ?_
      · walk_at "wi"
        walk_at "ev"
      · rw [given_all (g := fun (k : Nat) => a + (k : Int)) (fun _ => rfl), hw, show (b + 1 - a).toNat = (a - b).natAbs + 1 from by omega]
        congr 1
        exact List.map_congr_left fun i _ => by rw [if_pos hb]
    intro hb H6 e6
    have hb := of_decide_eq_false hb
    refine s_ret (v := .bl true) (ev_is (v := .bl (decide (wayOf land a b = wayOf land a b))) (ev_opLL (xs := (wayOf land a b).map V.int) (ys := (wayOf land a b).map V.int) (el_way (N := N) (by walk_at "ea") (by walk_at "sq") a0 (by omega) b0 (by omega) (by omega)) ?_
      fun p q H4 hp hq e4 => rv_eqI (sq_of hp) (sq_of hq)) (by simp)) fun H7 e7 => q H7 (by walk_at "ex")
    refine el_eq (el_lcR1 (n := a - b + 1) (fun _ => true) (fun k => .int (a - (k : Int))) (by walk_at "ea") (by omega) (fun _ => rfl) (fun _ _ _ _ => et_yes) fun i H5 e5 hi _ => ?_) ?_
    · walk_at "wi"
      walk_at "ev"
    · rw [given_all (g := fun (k : Nat) => a - (k : Int)) (fun _ => rfl), hw, show (a - b + 1).toNat = (a - b).natAbs + 1 from by omega]
      congr 1
      exact List.map_congr_left fun i _ => by rw [if_neg hb]
def spLaw (K : PySem.W.Frag) : Sp := fun vs H Q _ => ∃ (a : Addr) (ns : List Int), vs = [.ref a] ∧ SqL K H a (ns.map V.int) ∧ ns.length ≤ 63 ∧ ∀ H', Q (.bl true) H'
abbrev slaw : Stmt := topS 29
theorem sclaw : FnScope ["_law_script", "_law_land", "_law_many", "_law_handed", "_law_size", "_law_a", "_law_b", "_law_some", "_law_strange", "_law_here", "_law_rows", "_law_left", "_law_due", "_law_found", "_law_place", "_law_k"] ["_law_script"] (defScope slaw) := ⟨rfl, rfl, rfl, by decide +kernel, rfl, by decide +kernel, by decide +kernel⟩

theorem ok_law {f N : Addr} {fd : FuncData} (F : Fun K "law" "law" slaw f fd) (B : Blt mg) (C__law_cell_at : Cal P w K mg base "_law_cell_at" 1 ["_law_script", "_law_k"] (spV (RCel K)))
    (C__law_whole : Cal P w K mg base "_law_whole" 1 ["_law_found"] (spV RWhole)) (C__law_land_by : Cal P w K mg base "_law_land_by" 2 ["_law_script", "_law_most"] (spL (RLand K)))
    (C__law_longer : Cal P w K mg base "_law_longer" 2 ["_law_script", "_law_land", "_law_most", "_law_many"] (spL (RLonger K))) (C__law_near : Cal P w K mg base "_law_near" 2 ["_law_land", "_law_b"] (spL (RNear K)))
    (C__law_left_by : Cal P w K mg base "_law_left_by" 1 ["_law_rows", "_law_b"] (spL (RLeft K))) (C__law_refused : Cal P w K mg base "_law_refused" 7 ["_law_land", "_law_a", "_law_b"] (spV (RRef9 K)))
    (C__law_known : Cal P w K mg base "_law_known" 7 ["_law_script"] (spV (RKnown K))) (C_way : CalX P w K mg base "way" 6 ["land", "a", "b"] (spLX (RWay K) (RNoWay K N))) : FnOk P w K mg base CX0 8 f fd ["_law_script"] (spLaw K) := by
  refine F.ok sclaw (fun vs H Q E h => ?_) (fun cdv A outer s H vs Q E hr h => ?_)
  · obtain ⟨_, _, rfl, _⟩ := h
    rfl
  · obtain ⟨l, ns, rfl, hs, hlen, q⟩ := h
    refine ⟨_, (pss_cons (ps_if (pt_cmpR op_eq (pe_op op_mod (pe_cal C__law_cell_at hr (pa_cons (pv 0) (pa_cons pe_int pa_nil))) pe_int) pe_int (nomark _)) (pss_one (ps_ret (pe_cal C__law_known hr (pa_cons (pv 0) pa_nil)))) pss_nil)
      (pss_cons (ps_set (i := 1) sclaw.nd rfl (Or.inr rfl) (pe_cal C__law_land_by hr (pa_cons (pv 0) (pa_cons pe_int pa_nil))))
      (Evl.pss_cut (ps_if (pt_cmpR op_eq (pe_op op_mod (pe_cal C__law_cell_at hr (pa_cons (pv 0) (pa_cons pe_int pa_nil))) pe_int) pe_int (nomark _)) (pss_cons (ps_set (i := 2) sclaw.nd rfl (Or.inl rfl) (pe_op op_add pe_int (pe_op op_mul pe_int (pe_callTy call_int1 (by rfl) B.m_int (by decide +kernel) (pa_cons (pe_cmpR op_ne (pe_op op_mod (pe_op op_fdiv (pe_cal C__law_cell_at hr (pa_cons (pv 0) (pa_cons pe_int pa_nil))) pe_int) pe_int) pe_int (nomark _)) pa_nil)))))
      (pss_one (ps_set (i := 1) sclaw.nd rfl (Or.inr rfl) (pe_cal C__law_longer hr (pa_cons (pv 0) (pa_cons (pv 1) (pa_cons pe_int (pa_cons (pv 2) pa_nil)))))))) pss_nil)
      (pss_cons (ps_set (i := 3) sclaw.nd rfl (Or.inl rfl) (pe_callTy call_list_of (by rfl) B.m_list (by decide +kernel) (pa_cons (pv 1) pa_nil)))
      (pss_cons (ps_set (i := 4) sclaw.nd rfl (Or.inl rfl) (pe_callB call_len_seq (by rfl) B.m_len PySem.boot_len (pa_cons (pv 1) pa_nil)))
      (pss_cons (ps_set (i := 5) sclaw.nd rfl (Or.inl rfl) (pe_op op_mod (pe_op op_fdiv (pe_cal C__law_cell_at hr (pa_cons (pv 0) (pa_cons pe_int pa_nil))) pe_int) (pv 4)))
      (pss_cons (ps_set (i := 6) sclaw.nd rfl (Or.inl rfl) (pe_op op_mod (pe_op op_fdiv (pe_cal C__law_cell_at hr (pa_cons (pv 0) (pa_cons pe_int pa_nil))) pe_int) (pv 4)))
      (pss_cons (ps_if (pt_cmpR op_eq (pe_op op_mod (pe_cal C__law_cell_at hr (pa_cons (pv 0) (pa_cons pe_int pa_nil))) pe_int) pe_int (nomark _)) (pss_cons (ps_set (i := 7) sclaw.nd rfl (Or.inl rfl) (pe_lst (pa_cons (pe_un un_neg pe_int) (pa_cons (pv 4) (pa_cons (pe_op op_pow pe_int pe_int) (pa_cons pe_bl (pa_cons pe_str (pa_cons pe_non (pa_cons (pe_un un_neg (pv 4)) (pa_cons pe_bl (pa_cons (pe_tup (pa_cons pe_int pa_nil)) (pa_cons (pe_lst (pa_cons pe_int pa_nil)) pa_nil))))))))))))
      (pss_cons (ps_set (i := 8) sclaw.nd rfl (Or.inl rfl) (pe_ix ix_list (pv 7) (pe_op op_mod (pe_op op_fdiv (pe_cal C__law_cell_at hr (pa_cons (pv 0) (pa_cons pe_int pa_nil))) pe_int) pe_int) (fun _ _ => rfl)))
      (pss_one (ps_ret (pe_and (pe_cal C__law_refused hr (pa_cons (pv 3) (pa_cons (pv 5) (pa_cons (pv 8) pa_nil)))) (pe_and (pe_cal C__law_refused hr (pa_cons (pv 3) (pa_cons (pv 8) (pa_cons (pv 5) pa_nil)))) (pe_one (pe_cmpR (op_eqD hr.units) (pv 3) (pv 1) (nomark _))))))))) pss_nil)
      (pss_cons (ps_setLc (i := 10) (own := [("_law_here", 9)]) (g := gName 9) (tt := tYes) rfl sclaw.nd rfl rfl (sw_true rfl rfl rfl (by decide +kernel)) (pi_range1 (by rfl) B.m_range (pa_cons (pv 4) pa_nil)) (blkOk_by (N := ["_law_script", "_law_land", "_law_many", "_law_handed", "_law_size", "_law_a", "_law_b", "_law_some", "_law_strange", "_law_here", "_law_rows", "_law_left", "_law_due", "_law_found", "_law_place", "_law_k"]) (sc := defScope slaw) (by decide +kernel)) (fun _ _ _ _ _ => (pg_name (i := 9) sclaw.nd rfl (Or.inl rfl))) (fun _ _ _ _ _ => pts_nil) (fun _ _ _ _ _ => (pe_cal C__law_near hr (pa_cons (pv 1) (pa_cons (pv 9) pa_nil)))))
      (pss_cons (ps_set (i := 11) sclaw.nd rfl (Or.inr rfl) (pe_cal C__law_left_by hr (pa_cons (pv 10) (pa_cons (pv 6) pa_nil))))
      (pss_cons (ps_set (i := 12) sclaw.nd rfl (Or.inl rfl) (pe_lst (pa_cons (pv 5) pa_nil)))
      (pss_cons (ps_while PassesOwn.never (pt_cmpR op_ne (pe_ix ix_list (pv 12) (pe_un un_neg pe_int) (fun _ _ => rfl)) (pv 6) (nomark _)) (pss_cons (ps_set (i := 9) sclaw.nd rfl (Or.inr rfl) (pe_ix ix_list (pv 12) (pe_un un_neg pe_int) (fun _ _ => rfl)))
      (pss_one (ps_expr (pe_bm PySem.F.plainAttrs_list PySem.F.slot_list_append PySem.F.type_list_append mt_append (pv 12) (pa_cons (pe_callB (cr_min rfl) (by rfl) B.m_min (by decide +kernel) (pa_cons (pe_lc (own := [("_law_k", 15)]) (g := gName 15) (tt := tTest (tOp rEq (tOp (rIxL K) (tVar 11) (tVar 15)) (tOp (rI0 fun i j => .int (i - j)) (tOp (rIxL K) (tVar 11) (tVar 9)) (tC (.int 1))))) rfl sclaw.nd (pi_list (pe_ix ix_list (pv 10) (pv 9) (fun _ _ => rfl))) (blkOk_by (N := ["_law_script", "_law_land", "_law_many", "_law_handed", "_law_size", "_law_a", "_law_b", "_law_some", "_law_strange", "_law_here", "_law_rows", "_law_left", "_law_due", "_law_found", "_law_place", "_law_k"]) (sc := defScope slaw) (by decide +kernel)) (fun _ _ _ _ _ => (pg_name (i := 15) sclaw.nd rfl (Or.inl rfl))) (fun _ _ _ _ _ => (pts_one (pt_cmpR op_eq (pe_ix ix_list (pv 11) (pv 15) (fun _ _ => rfl)) (pe_op op_sub (pe_ix ix_list (pv 11) (pv 9) (fun _ _ => rfl)) pe_int) (nomark _)))) (fun _ _ _ _ _ => (pv 15))) pa_nil)) pa_nil))))))
      (pss_cons (ps_set (i := 13) sclaw.nd rfl (Or.inl rfl) (pe_cal0 C_way hr (pa_cons (pv 3) (pa_cons (pv 5) (pa_cons (pv 6) pa_nil)))))
      (pss_cons (ps_if (PW.pt (pw_or (pt_not (pt_val (pe_callB call_isi (by rfl) B.m_isinstance (by decide +kernel) (pa_cons (pv 13) (pa_cons (pe_bltn (v := .ty "list") (by rfl) B.m_list (by decide +kernel) rfl) pa_nil))))) (pw_or1 (pt_cmpR (op_neD hr.units) (pv 3) (pv 1) (nomark _))))) (pss_one (ps_ret pe_bl)) pss_nil)
      (pss_cons (ps_if (pt_not (pt_val (pe_callB (cr_all rfl) (by rfl) B.m_all (by decide +kernel) (pa_cons (pe_lc (own := [("_law_place", 14)]) (g := gName 14) (tt := tYes) rfl sclaw.nd (pi_list (pv 13)) (blkOk_by (N := ["_law_script", "_law_land", "_law_many", "_law_handed", "_law_size", "_law_a", "_law_b", "_law_some", "_law_strange", "_law_here", "_law_rows", "_law_left", "_law_due", "_law_found", "_law_place", "_law_k"]) (sc := defScope slaw) (by decide +kernel)) (fun _ _ _ _ _ => (pg_name (i := 14) sclaw.nd rfl (Or.inl rfl))) (fun _ _ _ _ _ => pts_nil) (fun _ _ _ _ _ => (pe_cal C__law_whole hr (pa_cons (pv 14) pa_nil)))) pa_nil)))) (pss_one (ps_ret pe_bl)) pss_nil)
      (pss_cons (ps_if (pt_cmpR (op_neD hr.units) (pv 13) (pv 12) (nomark _)) (pss_one (ps_ret pe_bl)) pss_nil)
      (pss_cons (ps_expr (pe_bm PySem.F.plainAttrs_list PySem.F.slot_list_append PySem.F.type_list_append mt_append (pv 13) (pa_cons (pe_un un_neg pe_int) pa_nil)))
      (pss_one (ps_ret (pe_and (pe_cmpR (op_eqD hr.units) (pe_cal0 C_way hr (pa_cons (pv 3) (pa_cons (pv 5) (pa_cons (pv 6) pa_nil)))) (pv 12) (nomark _)) (pe_one (pe_cmpR (op_eqD hr.units) (pv 13) (pe_op op_cat (pv 12) (pe_lst (pa_cons (pe_un un_neg pe_int) pa_nil))) (nomark _))))))))))))))))))))))), ?_⟩
    try dsimp only [cxOf, Cx.nox, Cx.wish]
    rw [show L2.start ["_law_script", "_law_land", "_law_many", "_law_handed", "_law_size", "_law_a", "_law_b", "_law_some", "_law_strange", "_law_here", "_law_rows", "_law_left", "_law_due", "_law_found", "_law_place", "_law_k"] [.ref l] = [some (.ref l), none, none, none, none, none, none, none, none, none, none, none, none, none, none, none] from rfl]
    apply q_when
    · walk_at "et"
    · intro _ H1 e1
      exact s_ret (v := .bl true) (ev_cal (by walk_at "ea") fun H2 e2 => ⟨l, ns, rfl, by walk_at "sq", rfl⟩) fun H2 e2 => q H2
    intro _ H0 e0
    have ll : 1 ≤ (landOf ns 12).length ∧ (landOf ns 12).length ≤ 12 := by
      rw [landOf_len]
      omega
    refine q_asgL (xs := (landOf ns 12).map V.int) (by walk_at "eu") fun p1 H1 n1 e1 h1 => ?_
    walk_at "st"
    refine q_cut (M := fun σ' H' => ∃ (lp : Addr) (land : List Int) (v2 : Option V), σ' = [some (.ref l), some (.ref lp), v2, none, none, none, none, none, none, none, none, none, none, none, none, none] ∧ Ex H H' ∧ H' lp = some (.lst (land.map V.int)) ∧ 1 ≤ land.length ∧ land.length ≤ 200) ?_ ?_
    · apply s_when
      · walk_at "et"
      · intro _ H2 e2
        obtain ⟨m, hm⟩ : ∃ m : Int, 16 + 30 * (if (!decide (V.int (cel ns 0 / 12 % 5) = V.int 3)) = true then 1 else 0) = m := ⟨_, rfl⟩
        refine q_asg (v := .int m) (ev_int (by walk_at "ev") hm) fun H3 e3 => ?_
        walk_at "st"
        have m1 : 16 ≤ m ∧ m ≤ 46 := by
          rw [← hm]
          split <;> omega
        clear hm
        refine s_asgL (xs := (longerOf ns (landOf ns 12) 12 m).map V.int) (by walk_at "eu") fun p2 H4 n2 e4 h4 => ?_
        exact ⟨p2, _, _, rfl, by walk_at "ex", h4, by rw [longerOf_len]; omega, by rw [longerOf_len]; omega⟩
      · intro _ H2 e2
        exact ⟨p1, _, _, rfl, by walk_at "ex", by walk_at "hp", by omega, by omega⟩
    clear h1 n1 e1 ll e0
    clear H1 p1 H0
    rintro σ' H1 ⟨lp, land, v2, rfl, e1, hl, m1, m2⟩
    have hll : (land.map V.int).length = land.length := List.length_map ..
    refine q_asgL (xs := land.map V.int) (by walk_at "eu") fun hp H2 nh e2 hh => ?_
    walk_at "st"
    refine q_asg (v := .int (land.length : Int)) (ev_int (i := (((land.map V.int).length : Nat) : Int)) (by walk_at "ev") (by rw [hll])) fun H3 e3 => ?_
    walk_at "st"
    obtain ⟨a, ha⟩ : ∃ a, cel ns 1 / 9 % (land.length : Int) = a := ⟨_, rfl⟩
    refine q_asg (v := .int a) (ev_int (i := cel ns 1 / 9 % (land.length : Int)) (by walk_at "ev") ha) fun H4 e4 => ?_
    have a0 : 0 ≤ a := ha ▸ Int.emod_nonneg _ (by omega)
    have a1 : a < (land.length : Int) := ha ▸ Int.emod_lt_of_pos _ (by omega)
    clear ha
    walk_at "st"
    obtain ⟨b, hb⟩ : ∃ b, cel ns 2 / 7 % (land.length : Int) = b := ⟨_, rfl⟩
    refine q_asg (v := .int b) (ev_int (i := cel ns 2 / 7 % (land.length : Int)) (by walk_at "ev") hb) fun H5 e5 => ?_
    have b0 : 0 ≤ b := hb ▸ Int.emod_nonneg _ (by omega)
    have b1 : b < (land.length : Int) := hb ▸ Int.emod_lt_of_pos _ (by omega)
    clear hb
    walk_at "st"
    apply q_when
    · walk_at "et"
    · -- a place where no hill stands
      intro _ H6 e6
      refine q_asgLX (eax_cons (x := .int (-1)) (by walk_at "ev") (eax_cons (x := .int (land.length : Int)) (by walk_at "ev") (eax_cons (x := .int 1000000000) (by walk_at "ev") (eax_cons (x := .bl true) (by walk_at "ev") (eax_cons (by walk_at "ev")
        (eax_cons (x := .non) (by walk_at "ev") (eax_cons (x := .int (-(land.length : Int))) (by walk_at "ev") (eax_cons (x := .bl false) (by walk_at "ev") (eax_consU (by walk_at "eu") (eax_lastL (by walk_at "eu")))))))))))
        (fun vs H5 p => ?_) fun sp vs H5 H7 p e7 e56 h6 => ?_
      · obtain ⟨_, rfl, _, rfl, _, rfl, _, rfl, _, rfl, _, rfl, _, rfl, _, rfl, _, _, _, rfl, _, _, _, rfl, _⟩ := p
        exact Nat.le_of_ble_eq_true rfl
      have vl : (vs.length : Int) = 10 := by
        obtain ⟨_, rfl, _, rfl, _, rfl, _, rfl, _, rfl, _, rfl, _, rfl, _, rfl, _, _, _, rfl, _, _, _, rfl, _⟩ := p
        rfl
      have bad : ∀ v ∈ vs, BadPl H7 land.length v := by
        obtain ⟨_, rfl, _, rfl, _, rfl, _, rfl, _, rfl, _, rfl, _, rfl, _, rfl, tp, _, _, rfl, ht, et, tq, rfl, hq⟩ := p
        intro v hv
        simp only [List.mem_cons, List.not_mem_nil, or_false] at hv
        rcases hv with rfl | rfl | rfl | rfl | rfl | rfl | rfl | rfl | rfl | rfl
        · exact .int _ (by omega)
        · exact .int _ (by omega)
        · exact .int _ (by omega)
        · exact .bl _
        · exact .str _
        · exact .non
        · exact .int _ (by omega)
        · exact .bl _
        · exact .tup _ _ (e56 _ _ (et _ _ ht))
        · exact .lst _ _ (e56 _ _ hq)
      clear p e56
      clear H5
      walk_at "st"
      obtain ⟨x, hx, hm⟩ := atI_in (vs := vs) (i := cel ns 2 / 7 % 10) (by omega) (by omega)
      refine q_asg (v := x) (by walk_at "ev") fun H8 e8 => ?_
      have hbad := (bad x hm).ex e8
      clear bad hm hx vl h6
      walk_at "st"
      refine s_ret (v := .bl true) (ev_is (v := .bl (true && (true && decide (land = land)))) (ev_andV (ev_cal (vs := [.ref hp, .int a, x]) (by walk_at "ea") fun H9 e9 => ⟨hp, land, .int a, x, rfl, by walk_at "sq", by omega, .second a x a0 a1 (hbad.ex e9), rfl⟩) fun _ =>
        ev_andV (ev_cal (vs := [.ref hp, x, .int a]) (by walk_at "ea") fun H9 e9 => ⟨hp, land, x, .int a, rfl, by walk_at "sq", by omega, .first x _ (hbad.ex e9), rfl⟩) fun _ => by walk_at "ev") (by simp)) fun H9 e9 => q H9
    intro _ H6 e6
    refine q_asgR (rs := (List.range land.length).map fun (k : Nat) => viewOf land (k : Int)) ?_ fun rp H7 nr e7 hr7 => ?_
    · have z := er_lcR1 (j := 9) (σ := [some (.ref l), some (.ref lp), v2, some (.ref hp), some (.int (land.length : Int)), some (.int a), some (.int b), none, none, none, none, none, none, none, none, none]) (H := H6) (vs := [9]) (ta := tCons (tVar 4) tNil) (te := tCall (spL (RNear K)) [] E0 (tCons (tVar 1) (tCons (tVar 9) tNil))) (n := (land.length : Int)) (g := fun k => viewOf land (k : Int)) (by walk_at "ea") (by omega) (fun _ => rfl) fun k H7 e7 hk => by
        have hland : SqL K H7 lp (land.map V.int) := by walk_at "sq"
        walk_at "wi"
        exact el_near (by walk_at "ea") hland (by omega) hk (by omega)
      rw [Int.toNat_natCast] at z
      exact z
    walk_at "st"
    have hlh := hopsOf_len land b
    refine q_asgL (xs := (hopsOf land b).map V.int) (el_left (by walk_at "ea") hr7 b0 b1 (by omega)) fun fp H8 nf e8 hf => ?_
    walk_at "st"
    refine q_asgL (xs := [V.int a]) (by walk_at "eu") fun dp H9 nd e9 hd => ?_
    walk_at "st"
    have hd1 := dist_lt b0 b1 a0 a1
    refine q_while (fun mm σ' H' => ∃ (i : Nat) (v9 : Option V), mm = dist land b a - i ∧ i ≤ dist land b a ∧ Ex H8 H' ∧ H' dp = some (.lst ((pathN land b a i).map V.int)) ∧ σ' = [some (.ref l), some (.ref lp), v2, some (.ref hp), some (.int (land.length : Int)), some (.int a), some (.int b), none, none, v9, some (.ref rp), some (.ref fp), some (.ref dp), none, none, none]) (dist land b a)
      ⟨0, none, by omega, by omega, e9, hd, rfl⟩ ?_
    rintro mm σ' H10 ⟨i, v9, rfl, hi, e10, hd10, rfl⟩
    obtain ⟨s0, s1, sd⟩ := step_spec a0 a1 b0 b1 i hi
    have lp9 := pathN_last land b a i
    have ln := pathN_len land b a i
    have hf10 := e10 _ _ hf
    refine ⟨!decide (stepN land b a i = b), et_is (et_test (ev_op (ev_int (by walk_at "ev") lp9) (by walk_at "ev") (by walk_at "rv"))) ?_, fun hb H11 e11 => ?_, fun hb H11 e11 => ?_⟩
    · by_cases e : stepN land b a i = b
      · rw [decide_eq_true e, decide_eq_true (congrArg V.int e)]
      · rw [decide_eq_false e, decide_eq_false (fun z => e (V.int.inj z))]
    · have hne : stepN land b a i ≠ b := fun z => by
        rw [decide_eq_true z] at hb
        cases hb
      have hpos := dist_pos b0 b1 s0 s1 hne
      refine ⟨fun σ2 H12 => ∃ (j : Nat) (v9 : Option V), dist land b a - (i + 1) = dist land b a - j ∧ j ≤ dist land b a ∧ Ex H8 H12 ∧ H12 dp = some (.lst ((pathN land b a j).map V.int)) ∧ σ2 = [some (.ref l), some (.ref lp), v2, some (.ref hp), some (.int (land.length : Int)), some (.int a), some (.int b), none, none, v9, some (.ref rp), some (.ref fp), some (.ref dp), none, none, none], fun σ2 H12 h => ⟨_, by omega, h⟩, ?_⟩
      refine q_asg (v := .int (stepN land b a i)) (ev_int (by walk_at "ev") lp9) fun H12 e12 => ?_
      walk_at "st"
      have hd12 := e12 _ _ (e11 _ _ hd10)
      have hf12 := e12 _ _ (e11 _ _ hf10)
      have hnext : pathN land b a (i + 1) = pathN land b a i ++ [nextOf land b (stepN land b a i)] := pathN_succ land b a i
      obtain ⟨h, hh⟩ : ∃ h : Nat, stepN land b a i = (h : Int) := ⟨(stepN land b a i).toNat, by omega⟩
      rw [hh] at s0 s1 sd hne hpos hnext
      rw [hh]
      obtain ⟨as, av, has, hia, hva⟩ := Rows.at (K := K) (i := h) (r := viewOf land (h : Int)) (hr7.ex (e8.trans (e10.trans (e11.trans e12)))) (by rw [List.getElem?_map, List.getElem?_range (by omega)]; rfl)
      have vlen : (viewOf land (h : Int)).length ≤ 1000 := by
        rw [view_due land s0 s1]
        exact Nat.le_trans (dueN_len land (h : Int) land.length) (by omega)
      have hlv : ((viewOf land (h : Int)).map V.int).length = (viewOf land (h : Int)).length := List.length_map ..
      have hnat : ∀ k : Nat, k < (viewOf land (h : Int)).length → nearP land (h : Int) (cel (viewOf land (h : Int)) (k : Int)) := fun k hk => by
        have z := get_cel (ns := viewOf land (h : Int)) (j := (k : Int)) (by omega) (by omega)
        exact ⟨s0, s1, List.mem_of_getElem? z⟩
      have hlow := lows_eq b0 b1 s0 s1
      refine s_app (v := .int (nextOf land b (h : Int))) hd12 (by walk_at "ev") (ev_minL (ms := lowsOf land b (h : Int)) (el_eq (el_lcL (a := av) (xs := (viewOf land (h : Int)).map V.int) (fun k => decide ((dist land b (cel (viewOf land (h : Int)) (k : Int)) : Int) = (dist land b (h : Int) : Int) - 1)) (fun k => .int (cel (viewOf land (h : Int)) (k : Int)))
        (ev_op (by walk_at "ev") (by walk_at "ev") (rv_ixL has hia)) hva (by omega) (fun _ => rfl) (fun k x H13 e13 hx => ?_) fun k x H13 e13 hx _ => ?_) ?_) (minL_mem (lows_ne b0 b1 s0 s1 hne)) fun y hy => minL_le hy) (by rw [List.length_map, ln]; omega) fun H13 e13 => ?_
      · obtain ⟨hk, rfl⟩ := map_at hx
        obtain ⟨_, _, z0, z1⟩ := near_in (hnat k hk)
        have hf13 : SqL K H13 fp ((hopsOf land b).map V.int) := by walk_at "sq"
        generalize cel (viewOf land (h : Int)) (k : Int) = z at z0 z1
        walk_at "wi"
        refine et_is (a := decide (V.int (cel (hopsOf land b) z) = V.int (cel (hopsOf land b) (h : Int) - 1))) (by walk_at "et") ?_
        rw [cel_hops z0 z1, cel_hops s0 s1]
        by_cases e : (dist land b z : Int) = (dist land b (h : Int) : Int) - 1
        · rw [decide_eq_true e, decide_eq_true (congrArg V.int e)]
        · rw [decide_eq_false e, decide_eq_false (fun z => e (V.int.inj z))]
      · obtain ⟨hk, rfl⟩ := map_at hx
        walk_at "wi"
        walk_at "ev"
      · rw [hlv, hlow]
        exact given_filter (viewOf land (h : Int)) fun p => decide ((dist land b p : Int) = (dist land b (h : Int) : Int) - 1)
      · refine ⟨i + 1, _, rfl, by omega, Ex.mut (by walk_at "ex") nd, ?_, rfl⟩
        rw [upd_same, hnext, List.map_append]
        rfl
    have hb : stepN land b a i = b := by
      cases e : decide (stepN land b a i = b) with
      | true => exact of_decide_eq_true e
      | false =>
        rw [e] at hb
        cases hb
    have ei : i = dist land b a := by
      rw [hb, dist_self b0 b1] at sd
      omega
    have hd11 := e11 _ _ hd10
    rw [ei, ← wayOf_path] at hd11
    have hev : ∀ (ta : TA) (σ : L2.St) (H : Hp) (l : Addr), EvA ta σ H [.ref l, .int a, .int b] → SqL K H l (land.map V.int) → EvL (tCall (spLX (RWay K) (RNoWay K N)) [] E0 ta) σ H ((wayOf land a b).map V.int) := fun ta σ H l h1 h2 => el_way h1 h2 a0 a1 b0 b1 (by omega)
    have wl : (wayOf land a b).length ≤ 1000 := by rw [wayOf_len]; omega
    obtain ⟨R, hR⟩ : ∃ R, wayOf land a b = R := ⟨_, rfl⟩
    rw [hR] at hd11 hev wl
    clear hR
    have hlr : (R.map V.int).length = R.length := List.length_map ..
    have e2' : Ex H2 H11 := by walk_at "ex"
    clear hd10 hf10 e10 hd nd e9 hf nf e8 hr7 nr e7 e11
    refine q_asgL (xs := R.map V.int) (hev _ _ _ hp (by walk_at "ea") (by walk_at "sq")) fun gp H12 ng e12 hg => ?_
    walk_at "st"
    have hgd : gp ≠ dp := fun z => by rw [z, hd11] at ng; cases ng
    apply q_when (b := false)
    · exact et_is (a := (!true) || (!decide (land = land))) (by walk_at "et") (by simp)
    · intro z
      cases z
    intro _ H13 e13
    apply q_when (b := false)
    · exact et_is (a := !true) (et_not (et_B (ev_allWhole (by walk_at "ev") (by walk_at "sq") (by omega) (fun _ => rfl) (fun _ => rfl)))) rfl
    · intro z
      cases z
    intro _ H14 e14
    apply q_when (b := false)
    · exact et_is (a := (!decide (R = R))) (by walk_at "et") (by simp)
    · intro z
      cases z
    intro _ H15 e15
    refine q_app (e15 _ _ (e14 _ _ (e13 _ _ hg))) (by walk_at "ev") (by walk_at "ev") (by omega) fun H16 e16 => ?_
    have em : Ex H11 (upd H16 gp (.lst (R.map V.int ++ [.int (-1)]))) := Ex.mut (by walk_at "ex") ng
    have hgm : upd H16 gp (.lst (R.map V.int ++ [.int (-1)])) gp = some (.lst (R.map V.int ++ [.int (-1)])) := upd_same
    revert em hgm
    generalize upd H16 gp (.lst (R.map V.int ++ [.int (-1)])) = Hm
    intro em hgm
    have e0 : R.map V.int ++ [.int (-1)] = (R ++ [-1]).map V.int := by rw [List.map_append]; rfl
    have hdm := em _ _ hd11
    clear e12 e13 e14 e15 e16 hg
    refine s_ret (v := .bl true) (ev_is (v := .bl (decide (R = R) && decide (R ++ [-1] = R ++ [-1]))) (ev_andV ?_ fun _ => ?_) (by simp)) fun H17 _ => q H17
    · exact ev_opL1 (hev _ _ _ hp (by walk_at "ea") (by walk_at "sq")) (fun H9 e9 => by walk_at "ev") fun p H9 hp9 e9 => rv_eqI (sq_of hp9) (sq_of (e9 _ _ hdm))
    · exact ev_opL (by walk_at "ev") (el_catV (by walk_at "ev") hdm (by walk_at "eu") e0.symm (by rw [List.length_cons, List.length_nil]; omega)) fun p H9 hp9 e9 => rv_eqI (sq_of (e0 ▸ e9 _ _ hgm)) (sq_of hp9)
end
section
theorem all_mk {l : PySem.W.OpenLaw} {w : World} {K : PySem.W.Frag} {h : Heap} {mg : Str → Option Value} {fa : Addr} {f__law_cell_at f__law_whole f__law_height_by f__law_land_by f__law_longer f__law_seen_by f_slope f_steeper f_is_whole f_check_hill f__seen_ahead f__seen_behind f_view f__carried_on f_hops f__law_near f__next_place f_way f__law_left_by f__law_known f__law_refused f_law : Addr} {N_HillError : Addr} {N_NoHill : Addr} (X : K.In h) (G : h.Ns mainGlobals mg) (hfa : mg "law" = some (.ref fa))
    {od__law_cell_at an__law_cell_at : Option Addr} {sl__law_cell_at : Array (Option Value)} {oc__law_cell_at kV__law_cell_at dc__law_cell_at pm__law_cell_at cd__law_cell_at ct__law_cell_at : Value}
    (a__law_cell_at : PySem.W.nsIn K mainGlobals "_law_cell_at" = some (some (.ref f__law_cell_at)))
    (l__law_cell_at : K.lookup f__law_cell_at = some ⟨oc__law_cell_at, od__law_cell_at, .func (PySem.W.fnOf "_law_cell_at" "_law_cell_at" (defArgs s_law_cell_at) (defBody s_law_cell_at) (defScope s_law_cell_at) .none kV__law_cell_at dc__law_cell_at pm__law_cell_at an__law_cell_at cd__law_cell_at ct__law_cell_at), sl__law_cell_at⟩)
    (c__law_cell_at : PySem.W.codeIn K cd__law_cell_at "_law_cell_at" = true) (k__law_cell_at : PySem.W.keepIn K (.ref f__law_cell_at) = true)
    {od__law_whole an__law_whole : Option Addr} {sl__law_whole : Array (Option Value)} {oc__law_whole kV__law_whole dc__law_whole pm__law_whole cd__law_whole ct__law_whole : Value}
    (a__law_whole : PySem.W.nsIn K mainGlobals "_law_whole" = some (some (.ref f__law_whole)))
    (l__law_whole : K.lookup f__law_whole = some ⟨oc__law_whole, od__law_whole, .func (PySem.W.fnOf "_law_whole" "_law_whole" (defArgs s_law_whole) (defBody s_law_whole) (defScope s_law_whole) .none kV__law_whole dc__law_whole pm__law_whole an__law_whole cd__law_whole ct__law_whole), sl__law_whole⟩)
    (c__law_whole : PySem.W.codeIn K cd__law_whole "_law_whole" = true) (k__law_whole : PySem.W.keepIn K (.ref f__law_whole) = true)
    {od__law_height_by an__law_height_by : Option Addr} {sl__law_height_by : Array (Option Value)} {oc__law_height_by kV__law_height_by dc__law_height_by pm__law_height_by cd__law_height_by ct__law_height_by : Value}
    (a__law_height_by : PySem.W.nsIn K mainGlobals "_law_height_by" = some (some (.ref f__law_height_by)))
    (l__law_height_by : K.lookup f__law_height_by = some ⟨oc__law_height_by, od__law_height_by, .func (PySem.W.fnOf "_law_height_by" "_law_height_by" (defArgs s_law_height_by) (defBody s_law_height_by) (defScope s_law_height_by) .none kV__law_height_by dc__law_height_by pm__law_height_by an__law_height_by cd__law_height_by ct__law_height_by), sl__law_height_by⟩)
    (c__law_height_by : PySem.W.codeIn K cd__law_height_by "_law_height_by" = true) (k__law_height_by : PySem.W.keepIn K (.ref f__law_height_by) = true)
    {od__law_land_by an__law_land_by : Option Addr} {sl__law_land_by : Array (Option Value)} {oc__law_land_by kV__law_land_by dc__law_land_by pm__law_land_by cd__law_land_by ct__law_land_by : Value}
    (a__law_land_by : PySem.W.nsIn K mainGlobals "_law_land_by" = some (some (.ref f__law_land_by)))
    (l__law_land_by : K.lookup f__law_land_by = some ⟨oc__law_land_by, od__law_land_by, .func (PySem.W.fnOf "_law_land_by" "_law_land_by" (defArgs s_law_land_by) (defBody s_law_land_by) (defScope s_law_land_by) .none kV__law_land_by dc__law_land_by pm__law_land_by an__law_land_by cd__law_land_by ct__law_land_by), sl__law_land_by⟩)
    (c__law_land_by : PySem.W.codeIn K cd__law_land_by "_law_land_by" = true) (k__law_land_by : PySem.W.keepIn K (.ref f__law_land_by) = true)
    {od__law_longer an__law_longer : Option Addr} {sl__law_longer : Array (Option Value)} {oc__law_longer kV__law_longer dc__law_longer pm__law_longer cd__law_longer ct__law_longer : Value}
    (a__law_longer : PySem.W.nsIn K mainGlobals "_law_longer" = some (some (.ref f__law_longer)))
    (l__law_longer : K.lookup f__law_longer = some ⟨oc__law_longer, od__law_longer, .func (PySem.W.fnOf "_law_longer" "_law_longer" (defArgs s_law_longer) (defBody s_law_longer) (defScope s_law_longer) .none kV__law_longer dc__law_longer pm__law_longer an__law_longer cd__law_longer ct__law_longer), sl__law_longer⟩)
    (c__law_longer : PySem.W.codeIn K cd__law_longer "_law_longer" = true) (k__law_longer : PySem.W.keepIn K (.ref f__law_longer) = true)
    {od__law_seen_by an__law_seen_by : Option Addr} {sl__law_seen_by : Array (Option Value)} {oc__law_seen_by kV__law_seen_by dc__law_seen_by pm__law_seen_by cd__law_seen_by ct__law_seen_by : Value}
    (a__law_seen_by : PySem.W.nsIn K mainGlobals "_law_seen_by" = some (some (.ref f__law_seen_by)))
    (l__law_seen_by : K.lookup f__law_seen_by = some ⟨oc__law_seen_by, od__law_seen_by, .func (PySem.W.fnOf "_law_seen_by" "_law_seen_by" (defArgs s_law_seen_by) (defBody s_law_seen_by) (defScope s_law_seen_by) .none kV__law_seen_by dc__law_seen_by pm__law_seen_by an__law_seen_by cd__law_seen_by ct__law_seen_by), sl__law_seen_by⟩)
    (c__law_seen_by : PySem.W.codeIn K cd__law_seen_by "_law_seen_by" = true) (k__law_seen_by : PySem.W.keepIn K (.ref f__law_seen_by) = true)
    {od_slope an_slope : Option Addr} {sl_slope : Array (Option Value)} {oc_slope kV_slope dc_slope pm_slope cd_slope ct_slope : Value}
    (a_slope : PySem.W.nsIn K mainGlobals "slope" = some (some (.ref f_slope)))
    (l_slope : K.lookup f_slope = some ⟨oc_slope, od_slope, .func (PySem.W.fnOf "slope" "slope" (defArgs sslope) (defBody sslope) (defScope sslope) .none kV_slope dc_slope pm_slope an_slope cd_slope ct_slope), sl_slope⟩)
    (c_slope : PySem.W.codeIn K cd_slope "slope" = true) (k_slope : PySem.W.keepIn K (.ref f_slope) = true)
    {od_steeper an_steeper : Option Addr} {sl_steeper : Array (Option Value)} {oc_steeper kV_steeper dc_steeper pm_steeper cd_steeper ct_steeper : Value}
    (a_steeper : PySem.W.nsIn K mainGlobals "steeper" = some (some (.ref f_steeper)))
    (l_steeper : K.lookup f_steeper = some ⟨oc_steeper, od_steeper, .func (PySem.W.fnOf "steeper" "steeper" (defArgs ssteeper) (defBody ssteeper) (defScope ssteeper) .none kV_steeper dc_steeper pm_steeper an_steeper cd_steeper ct_steeper), sl_steeper⟩)
    (c_steeper : PySem.W.codeIn K cd_steeper "steeper" = true) (k_steeper : PySem.W.keepIn K (.ref f_steeper) = true)
    {od_is_whole an_is_whole : Option Addr} {sl_is_whole : Array (Option Value)} {oc_is_whole kV_is_whole dc_is_whole pm_is_whole cd_is_whole ct_is_whole : Value}
    (a_is_whole : PySem.W.nsIn K mainGlobals "is_whole" = some (some (.ref f_is_whole)))
    (l_is_whole : K.lookup f_is_whole = some ⟨oc_is_whole, od_is_whole, .func (PySem.W.fnOf "is_whole" "is_whole" (defArgs sis_whole) (defBody sis_whole) (defScope sis_whole) .none kV_is_whole dc_is_whole pm_is_whole an_is_whole cd_is_whole ct_is_whole), sl_is_whole⟩)
    (c_is_whole : PySem.W.codeIn K cd_is_whole "is_whole" = true) (k_is_whole : PySem.W.keepIn K (.ref f_is_whole) = true)
    {od_check_hill an_check_hill : Option Addr} {sl_check_hill : Array (Option Value)} {oc_check_hill kV_check_hill dc_check_hill pm_check_hill cd_check_hill ct_check_hill : Value}
    (a_check_hill : PySem.W.nsIn K mainGlobals "check_hill" = some (some (.ref f_check_hill)))
    (l_check_hill : K.lookup f_check_hill = some ⟨oc_check_hill, od_check_hill, .func (PySem.W.fnOf "check_hill" "check_hill" (defArgs scheck_hill) (defBody scheck_hill) (defScope scheck_hill) .none kV_check_hill dc_check_hill pm_check_hill an_check_hill cd_check_hill ct_check_hill), sl_check_hill⟩)
    (c_check_hill : PySem.W.codeIn K cd_check_hill "check_hill" = true) (k_check_hill : PySem.W.keepIn K (.ref f_check_hill) = true)
    {od__seen_ahead an__seen_ahead : Option Addr} {sl__seen_ahead : Array (Option Value)} {oc__seen_ahead kV__seen_ahead dc__seen_ahead pm__seen_ahead cd__seen_ahead ct__seen_ahead : Value}
    (a__seen_ahead : PySem.W.nsIn K mainGlobals "_seen_ahead" = some (some (.ref f__seen_ahead)))
    (l__seen_ahead : K.lookup f__seen_ahead = some ⟨oc__seen_ahead, od__seen_ahead, .func (PySem.W.fnOf "_seen_ahead" "_seen_ahead" (defArgs s_seen_ahead) (defBody s_seen_ahead) (defScope s_seen_ahead) .none kV__seen_ahead dc__seen_ahead pm__seen_ahead an__seen_ahead cd__seen_ahead ct__seen_ahead), sl__seen_ahead⟩)
    (c__seen_ahead : PySem.W.codeIn K cd__seen_ahead "_seen_ahead" = true) (k__seen_ahead : PySem.W.keepIn K (.ref f__seen_ahead) = true)
    {od__seen_behind an__seen_behind : Option Addr} {sl__seen_behind : Array (Option Value)} {oc__seen_behind kV__seen_behind dc__seen_behind pm__seen_behind cd__seen_behind ct__seen_behind : Value}
    (a__seen_behind : PySem.W.nsIn K mainGlobals "_seen_behind" = some (some (.ref f__seen_behind)))
    (l__seen_behind : K.lookup f__seen_behind = some ⟨oc__seen_behind, od__seen_behind, .func (PySem.W.fnOf "_seen_behind" "_seen_behind" (defArgs s_seen_behind) (defBody s_seen_behind) (defScope s_seen_behind) .none kV__seen_behind dc__seen_behind pm__seen_behind an__seen_behind cd__seen_behind ct__seen_behind), sl__seen_behind⟩)
    (c__seen_behind : PySem.W.codeIn K cd__seen_behind "_seen_behind" = true) (k__seen_behind : PySem.W.keepIn K (.ref f__seen_behind) = true)
    {od_view an_view : Option Addr} {sl_view : Array (Option Value)} {oc_view kV_view dc_view pm_view cd_view ct_view : Value}
    (a_view : PySem.W.nsIn K mainGlobals "view" = some (some (.ref f_view)))
    (l_view : K.lookup f_view = some ⟨oc_view, od_view, .func (PySem.W.fnOf "view" "view" (defArgs sview) (defBody sview) (defScope sview) .none kV_view dc_view pm_view an_view cd_view ct_view), sl_view⟩)
    (c_view : PySem.W.codeIn K cd_view "view" = true) (k_view : PySem.W.keepIn K (.ref f_view) = true)
    {od__carried_on an__carried_on : Option Addr} {sl__carried_on : Array (Option Value)} {oc__carried_on kV__carried_on dc__carried_on pm__carried_on cd__carried_on ct__carried_on : Value}
    (a__carried_on : PySem.W.nsIn K mainGlobals "_carried_on" = some (some (.ref f__carried_on)))
    (l__carried_on : K.lookup f__carried_on = some ⟨oc__carried_on, od__carried_on, .func (PySem.W.fnOf "_carried_on" "_carried_on" (defArgs s_carried_on) (defBody s_carried_on) (defScope s_carried_on) .none kV__carried_on dc__carried_on pm__carried_on an__carried_on cd__carried_on ct__carried_on), sl__carried_on⟩)
    (c__carried_on : PySem.W.codeIn K cd__carried_on "_carried_on" = true) (k__carried_on : PySem.W.keepIn K (.ref f__carried_on) = true)
    {od_hops an_hops : Option Addr} {sl_hops : Array (Option Value)} {oc_hops kV_hops dc_hops pm_hops cd_hops ct_hops : Value}
    (a_hops : PySem.W.nsIn K mainGlobals "hops" = some (some (.ref f_hops)))
    (l_hops : K.lookup f_hops = some ⟨oc_hops, od_hops, .func (PySem.W.fnOf "hops" "hops" (defArgs shops) (defBody shops) (defScope shops) .none kV_hops dc_hops pm_hops an_hops cd_hops ct_hops), sl_hops⟩)
    (c_hops : PySem.W.codeIn K cd_hops "hops" = true) (k_hops : PySem.W.keepIn K (.ref f_hops) = true)
    {od__law_near an__law_near : Option Addr} {sl__law_near : Array (Option Value)} {oc__law_near kV__law_near dc__law_near pm__law_near cd__law_near ct__law_near : Value}
    (a__law_near : PySem.W.nsIn K mainGlobals "_law_near" = some (some (.ref f__law_near)))
    (l__law_near : K.lookup f__law_near = some ⟨oc__law_near, od__law_near, .func (PySem.W.fnOf "_law_near" "_law_near" (defArgs s_law_near) (defBody s_law_near) (defScope s_law_near) .none kV__law_near dc__law_near pm__law_near an__law_near cd__law_near ct__law_near), sl__law_near⟩)
    (c__law_near : PySem.W.codeIn K cd__law_near "_law_near" = true) (k__law_near : PySem.W.keepIn K (.ref f__law_near) = true)
    {od__next_place an__next_place : Option Addr} {sl__next_place : Array (Option Value)} {oc__next_place kV__next_place dc__next_place pm__next_place cd__next_place ct__next_place : Value}
    (a__next_place : PySem.W.nsIn K mainGlobals "_next_place" = some (some (.ref f__next_place)))
    (l__next_place : K.lookup f__next_place = some ⟨oc__next_place, od__next_place, .func (PySem.W.fnOf "_next_place" "_next_place" (defArgs s_next_place) (defBody s_next_place) (defScope s_next_place) .none kV__next_place dc__next_place pm__next_place an__next_place cd__next_place ct__next_place), sl__next_place⟩)
    (c__next_place : PySem.W.codeIn K cd__next_place "_next_place" = true) (k__next_place : PySem.W.keepIn K (.ref f__next_place) = true)
    {od_way an_way : Option Addr} {sl_way : Array (Option Value)} {oc_way kV_way dc_way pm_way cd_way ct_way : Value}
    (a_way : PySem.W.nsIn K mainGlobals "way" = some (some (.ref f_way)))
    (l_way : K.lookup f_way = some ⟨oc_way, od_way, .func (PySem.W.fnOf "way" "way" (defArgs sway) (defBody sway) (defScope sway) .none kV_way dc_way pm_way an_way cd_way ct_way), sl_way⟩)
    (c_way : PySem.W.codeIn K cd_way "way" = true) (k_way : PySem.W.keepIn K (.ref f_way) = true)
    {od__law_left_by an__law_left_by : Option Addr} {sl__law_left_by : Array (Option Value)} {oc__law_left_by kV__law_left_by dc__law_left_by pm__law_left_by cd__law_left_by ct__law_left_by : Value}
    (a__law_left_by : PySem.W.nsIn K mainGlobals "_law_left_by" = some (some (.ref f__law_left_by)))
    (l__law_left_by : K.lookup f__law_left_by = some ⟨oc__law_left_by, od__law_left_by, .func (PySem.W.fnOf "_law_left_by" "_law_left_by" (defArgs s_law_left_by) (defBody s_law_left_by) (defScope s_law_left_by) .none kV__law_left_by dc__law_left_by pm__law_left_by an__law_left_by cd__law_left_by ct__law_left_by), sl__law_left_by⟩)
    (c__law_left_by : PySem.W.codeIn K cd__law_left_by "_law_left_by" = true) (k__law_left_by : PySem.W.keepIn K (.ref f__law_left_by) = true)
    {od__law_known an__law_known : Option Addr} {sl__law_known : Array (Option Value)} {oc__law_known kV__law_known dc__law_known pm__law_known cd__law_known ct__law_known : Value}
    (a__law_known : PySem.W.nsIn K mainGlobals "_law_known" = some (some (.ref f__law_known)))
    (l__law_known : K.lookup f__law_known = some ⟨oc__law_known, od__law_known, .func (PySem.W.fnOf "_law_known" "_law_known" (defArgs s_law_known) (defBody s_law_known) (defScope s_law_known) .none kV__law_known dc__law_known pm__law_known an__law_known cd__law_known ct__law_known), sl__law_known⟩)
    (c__law_known : PySem.W.codeIn K cd__law_known "_law_known" = true) (k__law_known : PySem.W.keepIn K (.ref f__law_known) = true)
    {od__law_refused an__law_refused : Option Addr} {sl__law_refused : Array (Option Value)} {oc__law_refused kV__law_refused dc__law_refused pm__law_refused cd__law_refused ct__law_refused : Value}
    (a__law_refused : PySem.W.nsIn K mainGlobals "_law_refused" = some (some (.ref f__law_refused)))
    (l__law_refused : K.lookup f__law_refused = some ⟨oc__law_refused, od__law_refused, .func (PySem.W.fnOf "_law_refused" "_law_refused" (defArgs s_law_refused) (defBody s_law_refused) (defScope s_law_refused) .none kV__law_refused dc__law_refused pm__law_refused an__law_refused cd__law_refused ct__law_refused), sl__law_refused⟩)
    (c__law_refused : PySem.W.codeIn K cd__law_refused "_law_refused" = true) (k__law_refused : PySem.W.keepIn K (.ref f__law_refused) = true)
    {od_law an_law : Option Addr} {sl_law : Array (Option Value)} {oc_law kV_law dc_law pm_law cd_law ct_law : Value}
    (a_law : PySem.W.nsIn K mainGlobals "law" = some (some (.ref f_law)))
    (l_law : K.lookup f_law = some ⟨oc_law, od_law, .func (PySem.W.fnOf "law" "law" (defArgs slaw) (defBody slaw) (defScope slaw) .none kV_law dc_law pm_law an_law cd_law ct_law), sl_law⟩)
    (c_law : PySem.W.codeIn K cd_law "law" = true) (k_law : PySem.W.keepIn K (.ref f_law) = true)
    (z_len : PySem.W.nsIn K mainGlobals "len" = some none)
    (z_range : PySem.W.nsIn K mainGlobals "range" = some none)
    (z_isinstance : PySem.W.nsIn K mainGlobals "isinstance" = some none)
    (z_int : PySem.W.nsIn K mainGlobals "int" = some none)
    (z_bool : PySem.W.nsIn K mainGlobals "bool" = some none)
    (z_list : PySem.W.nsIn K mainGlobals "list" = some none)
    (z_tuple : PySem.W.nsIn K mainGlobals "tuple" = some none)
    (z_min : PySem.W.nsIn K mainGlobals "min" = some none)
    (z_max : PySem.W.nsIn K mainGlobals "max" = some none)
    (z_all : PySem.W.nsIn K mainGlobals "all" = some none)
    (z_sorted : PySem.W.nsIn K mainGlobals "sorted" = some none)
    (z_zip : PySem.W.nsIn K mainGlobals "zip" = some none)
    (z_abs : PySem.W.nsIn K mainGlobals "abs" = some none)
    (z_any : PySem.W.nsIn K mainGlobals "any" = some none)
    (z_set : PySem.W.nsIn K mainGlobals "set" = some none)
    (z_str : PySem.W.nsIn K mainGlobals "str" = some none)
    (z_ValueError : PySem.W.nsIn K mainGlobals "ValueError" = some none)
    (g_HillError : PySem.W.nsIn K mainGlobals "HillError" = some (some (.ref N_HillError)))
    (x_HillError : PySem.W.excIn K N_HillError [.type "ValueError", .type "Exception", .type "BaseException", .type "object"] "ValueError.__new__" = true)
    (k_HillError : PySem.W.keepIn K (.ref N_HillError) = true)
    (b_HillError : PySem.W.subIn K (.ref N_HillError) (.type "BaseException") = some true)
    (t_HillError : PySem.W.typeIn K (.ref N_HillError) = some (.type "type"))
    (d_HillError : PySem.W.hasDictIn K N_HillError = true)
    (s_HillError : PySem.W.subIn K (.ref N_HillError) (.ref N_HillError) = some true)
    (g_NoHill : PySem.W.nsIn K mainGlobals "NoHill" = some (some (.ref N_NoHill)))
    (x_NoHill : PySem.W.excIn K N_NoHill [.type "ValueError", .type "Exception", .type "BaseException", .type "object"] "ValueError.__new__" = true)
    (k_NoHill : PySem.W.keepIn K (.ref N_NoHill) = true)
    (b_NoHill : PySem.W.subIn K (.ref N_NoHill) (.type "BaseException") = some true)
    (t_NoHill : PySem.W.typeIn K (.ref N_NoHill) = some (.type "type"))
    (d_NoHill : PySem.W.hasDictIn K N_NoHill = true)
    (s_NoHill : PySem.W.subIn K (.ref N_NoHill) (.ref N_NoHill) = some true)
    : ∃ fd : FuncData, (∀ (s : Shared) (v : Value), BindsTo s fd ⟨[v], []⟩ [("_law_script", v)]) ∧ ∀ base : Heap, K.In base → base.Ns mainGlobals mg → FnOk l.prog w K mg base CX0 8 fa fd ["_law_script"] (spLaw K) := by
  have e := hfa.symm.trans (PySem.W.mg_of X G a_law)
  cases e
  have F__law_cell_at := fun_mk (st := s_law_cell_at) l__law_cell_at c__law_cell_at k__law_cell_at
  have F__law_whole := fun_mk (st := s_law_whole) l__law_whole c__law_whole k__law_whole
  have F__law_height_by := fun_mk (st := s_law_height_by) l__law_height_by c__law_height_by k__law_height_by
  have F__law_land_by := fun_mk (st := s_law_land_by) l__law_land_by c__law_land_by k__law_land_by
  have F__law_longer := fun_mk (st := s_law_longer) l__law_longer c__law_longer k__law_longer
  have F__law_seen_by := fun_mk (st := s_law_seen_by) l__law_seen_by c__law_seen_by k__law_seen_by
  have F_slope := fun_mk (st := sslope) l_slope c_slope k_slope
  have F_steeper := fun_mk (st := ssteeper) l_steeper c_steeper k_steeper
  have F_is_whole := fun_mk (st := sis_whole) l_is_whole c_is_whole k_is_whole
  have F_check_hill := fun_mk (st := scheck_hill) l_check_hill c_check_hill k_check_hill
  have F__seen_ahead := fun_mk (st := s_seen_ahead) l__seen_ahead c__seen_ahead k__seen_ahead
  have F__seen_behind := fun_mk (st := s_seen_behind) l__seen_behind c__seen_behind k__seen_behind
  have F_view := fun_mk (st := sview) l_view c_view k_view
  have F__carried_on := fun_mk (st := s_carried_on) l__carried_on c__carried_on k__carried_on
  have F_hops := fun_mk (st := shops) l_hops c_hops k_hops
  have F__law_near := fun_mk (st := s_law_near) l__law_near c__law_near k__law_near
  have F__next_place := fun_mk (st := s_next_place) l__next_place c__next_place k__next_place
  have F_way := fun_mk (st := sway) l_way c_way k_way
  have F__law_left_by := fun_mk (st := s_law_left_by) l__law_left_by c__law_left_by k__law_left_by
  have F__law_known := fun_mk (st := s_law_known) l__law_known c__law_known k__law_known
  have F__law_refused := fun_mk (st := s_law_refused) l__law_refused c__law_refused k__law_refused
  have F_law := fun_mk (st := slaw) l_law c_law k_law
  have B : Blt mg := ⟨PySem.W.mg_none_of X G z_len, PySem.W.mg_none_of X G z_range, PySem.W.mg_none_of X G z_isinstance, PySem.W.mg_none_of X G z_int, PySem.W.mg_none_of X G z_bool, PySem.W.mg_none_of X G z_list, PySem.W.mg_none_of X G z_tuple, PySem.W.mg_none_of X G z_min, PySem.W.mg_none_of X G z_max, PySem.W.mg_none_of X G z_all, PySem.W.mg_none_of X G z_sorted, PySem.W.mg_none_of X G z_zip, PySem.W.mg_none_of X G z_abs, PySem.W.mg_none_of X G z_any, PySem.W.mg_none_of X G z_set, PySem.W.mg_none_of X G z_str, PySem.W.mg_none_of X G z_ValueError⟩
  refine ⟨PySem.W.fnOf "law" "law" (defArgs slaw) (defBody slaw) (defScope slaw) .none kV_law dc_law pm_law an_law cd_law ct_law, fun s v => .of_eq rfl, fun base _ _ => ?_⟩
  have X_HillError : ExK K mg "HillError" N_HillError := ⟨PySem.W.mg_of X G g_HillError, x_HillError, k_HillError, b_HillError, t_HillError, d_HillError, s_HillError⟩
  have X_NoHill : ExK K mg "NoHill" N_NoHill := ⟨PySem.W.mg_of X G g_NoHill, x_NoHill, k_NoHill, b_NoHill, t_NoHill, d_NoHill, s_NoHill⟩
  have C__law_cell_at : Cal l.prog w K mg base "_law_cell_at" 1 ["_law_script", "_law_k"] (spV (RCel K)) := ⟨f__law_cell_at, _, ok_cel F__law_cell_at B, PySem.W.mg_of X G a__law_cell_at, F__law_cell_at.kp, F__law_cell_at.binds (ps := ["_law_script", "_law_k"]) fun _ _ _ _ _ _ us hl => match us, hl with | [_, _], _ => rfl⟩
  have C__law_whole : Cal l.prog w K mg base "_law_whole" 1 ["_law_found"] (spV RWhole) := ⟨f__law_whole, _, ok_whole F__law_whole B, PySem.W.mg_of X G a__law_whole, F__law_whole.kp, F__law_whole.binds (ps := ["_law_found"]) fun _ _ _ _ _ _ us hl => match us, hl with | [_], _ => rfl⟩
  have C__law_height_by : Cal l.prog w K mg base "_law_height_by" 1 ["_law_cell", "_law_k", "_law_kind", "_law_tilt"] (spV RHeight) := ⟨f__law_height_by, _, ok_height F__law_height_by, PySem.W.mg_of X G a__law_height_by, F__law_height_by.kp, F__law_height_by.binds (ps := ["_law_cell", "_law_k", "_law_kind", "_law_tilt"]) fun _ _ _ _ _ _ us hl => match us, hl with | [_, _, _, _], _ => rfl⟩
  have C__law_land_by : Cal l.prog w K mg base "_law_land_by" 2 ["_law_script", "_law_most"] (spL (RLand K)) := ⟨f__law_land_by, _, ok_land_by F__law_land_by B C__law_cell_at C__law_height_by, PySem.W.mg_of X G a__law_land_by, F__law_land_by.kp, F__law_land_by.binds (ps := ["_law_script", "_law_most"]) fun _ _ _ _ _ _ us hl => match us, hl with | [_, _], _ => rfl⟩
  have C__law_longer : Cal l.prog w K mg base "_law_longer" 2 ["_law_script", "_law_land", "_law_most", "_law_many"] (spL (RLonger K)) := ⟨f__law_longer, _, ok_longer F__law_longer B C__law_cell_at C__law_height_by, PySem.W.mg_of X G a__law_longer, F__law_longer.kp, F__law_longer.binds (ps := ["_law_script", "_law_land", "_law_most", "_law_many"]) fun _ _ _ _ _ _ us hl => match us, hl with | [_, _, _, _], _ => rfl⟩
  have C__law_seen_by : Cal l.prog w K mg base "_law_seen_by" 1 ["_law_land", "_law_low", "_law_high"] (spV (RSeenBy K)) := ⟨f__law_seen_by, _, ok_seen_by F__law_seen_by B, PySem.W.mg_of X G a__law_seen_by, F__law_seen_by.kp, F__law_seen_by.binds (ps := ["_law_land", "_law_low", "_law_high"]) fun _ _ _ _ _ _ us hl => match us, hl with | [_, _, _], _ => rfl⟩
  have C_slope : Cal l.prog w K mg base "slope" 1 ["land", "a", "b"] (spU (RSlope K)) := ⟨f_slope, _, ok_slope F_slope, PySem.W.mg_of X G a_slope, F_slope.kp, F_slope.binds (ps := ["land", "a", "b"]) fun _ _ _ _ _ _ us hl => match us, hl with | [_, _, _], _ => rfl⟩
  have C_steeper : Cal l.prog w K mg base "steeper" 1 ["one", "other"] (spV (RSteeper K)) := ⟨f_steeper, _, ok_steeper F_steeper, PySem.W.mg_of X G a_steeper, F_steeper.kp, F_steeper.binds (ps := ["one", "other"]) fun _ _ _ _ _ _ us hl => match us, hl with | [_, _], _ => rfl⟩
  have C_is_whole : Cal l.prog w K mg base "is_whole" 1 ["number"] (spV RWholeV) := ⟨f_is_whole, _, ok_is_whole F_is_whole B, PySem.W.mg_of X G a_is_whole, F_is_whole.kp, F_is_whole.binds (ps := ["number"]) fun _ _ _ _ _ _ us hl => match us, hl with | [_], _ => rfl⟩
  have C_check_hill : CalX l.prog w K mg base "check_hill" 2 ["land", "place"] (spVX (RPlace K) (RNoPlace K N_NoHill)) := ⟨f_check_hill, _, ok_check F_check_hill B C_is_whole X_NoHill, PySem.W.mg_of X G a_check_hill, F_check_hill.kp, F_check_hill.binds (ps := ["land", "place"]) fun _ _ _ _ _ _ us hl => match us, hl with | [_, _], _ => rfl⟩
  have C__seen_ahead : Cal l.prog w K mg base "_seen_ahead" 2 ["land", "a"] (spL (RAhead K)) := ⟨f__seen_ahead, _, ok_ahead F__seen_ahead B C_slope C_steeper, PySem.W.mg_of X G a__seen_ahead, F__seen_ahead.kp, F__seen_ahead.binds (ps := ["land", "a"]) fun _ _ _ _ _ _ us hl => match us, hl with | [_, _], _ => rfl⟩
  have C__seen_behind : Cal l.prog w K mg base "_seen_behind" 2 ["land", "a"] (spL (RBehind K)) := ⟨f__seen_behind, _, ok_behind F__seen_behind B C_slope C_steeper, PySem.W.mg_of X G a__seen_behind, F__seen_behind.kp, F__seen_behind.binds (ps := ["land", "a"]) fun _ _ _ _ _ _ us hl => match us, hl with | [_, _], _ => rfl⟩
  have C_view : CalX l.prog w K mg base "view" 3 ["land", "a"] (spLX (RView K) (RNoPlace K N_NoHill)) := ⟨f_view, _, ok_view F_view C_check_hill C__seen_behind C__seen_ahead, PySem.W.mg_of X G a_view, F_view.kp, F_view.binds (ps := ["land", "a"]) fun _ _ _ _ _ _ us hl => match us, hl with | [_, _], _ => rfl⟩
  have C__carried_on : Cal l.prog w K mg base "_carried_on" 4 ["land", "steps", "newest"] (spCarry K) := ⟨f__carried_on, _, ok_carried F__carried_on B C_view, PySem.W.mg_of X G a__carried_on, F__carried_on.kp, F__carried_on.binds (ps := ["land", "steps", "newest"]) fun _ _ _ _ _ _ us hl => match us, hl with | [_, _, _], _ => rfl⟩
  have C_hops : CalX l.prog w K mg base "hops" 5 ["land", "a"] (spLX (RHops K) (RNoPlace K N_NoHill)) := ⟨f_hops, _, ok_hops F_hops B C_check_hill C__carried_on, PySem.W.mg_of X G a_hops, F_hops.kp, F_hops.binds (ps := ["land", "a"]) fun _ _ _ _ _ _ us hl => match us, hl with | [_, _], _ => rfl⟩
  have C__law_near : Cal l.prog w K mg base "_law_near" 2 ["_law_land", "_law_b"] (spL (RNear K)) := ⟨f__law_near, _, ok_near F__law_near B C__law_seen_by, PySem.W.mg_of X G a__law_near, F__law_near.kp, F__law_near.binds (ps := ["_law_land", "_law_b"]) fun _ _ _ _ _ _ us hl => match us, hl with | [_, _], _ => rfl⟩
  have C__next_place : Cal l.prog w K mg base "_next_place" 4 ["land", "left", "hill"] (spV (RNext K)) := ⟨f__next_place, _, ok_next F__next_place B C_view, PySem.W.mg_of X G a__next_place, F__next_place.kp, F__next_place.binds (ps := ["land", "left", "hill"]) fun _ _ _ _ _ _ us hl => match us, hl with | [_, _, _], _ => rfl⟩
  have C_way : CalX l.prog w K mg base "way" 6 ["land", "a", "b"] (spLX (RWay K) (RNoWay K N_NoHill)) := ⟨f_way, _, ok_way F_way B C_check_hill C_hops C__next_place, PySem.W.mg_of X G a_way, F_way.kp, F_way.binds (ps := ["land", "a", "b"]) fun _ _ _ _ _ _ us hl => match us, hl with | [_, _, _], _ => rfl⟩
  have C__law_left_by : Cal l.prog w K mg base "_law_left_by" 1 ["_law_rows", "_law_b"] (spL (RLeft K)) := ⟨f__law_left_by, _, ok_left F__law_left_by B, PySem.W.mg_of X G a__law_left_by, F__law_left_by.kp, F__law_left_by.binds (ps := ["_law_rows", "_law_b"]) fun _ _ _ _ _ _ us hl => match us, hl with | [_, _], _ => rfl⟩
  have C__law_known : Cal l.prog w K mg base "_law_known" 7 ["_law_script"] (spV (RKnown K)) := ⟨f__law_known, _, ok_known F__law_known B C__law_cell_at C_way, PySem.W.mg_of X G a__law_known, F__law_known.kp, F__law_known.binds (ps := ["_law_script"]) fun _ _ _ _ _ _ us hl => match us, hl with | [_], _ => rfl⟩
  have C__law_refused : Cal l.prog w K mg base "_law_refused" 7 ["_law_land", "_law_a", "_law_b"] (spV (RRef9 K)) := ⟨f__law_refused, _, ok_refused F__law_refused X_NoHill X_HillError C_way, PySem.W.mg_of X G a__law_refused, F__law_refused.kp, F__law_refused.binds (ps := ["_law_land", "_law_a", "_law_b"]) fun _ _ _ _ _ _ us hl => match us, hl with | [_, _, _], _ => rfl⟩
  exact ok_law F_law B C__law_cell_at C__law_whole C__law_land_by C__law_longer C__law_near C__law_left_by C__law_refused C__law_known C_way
end
end Hx
open PySem PySem.W PyProof.Rows
set_option maxHeartbeats 0 in
set_option maxRecDepth 100000 in
theorem PySem.Challenge.cw_hillsight_k09_whole_ways_holds : PySem.Challenge.rw_hillsight_k09_whole_ways.Holds := by
  w_on; o_law; k_head; (case hw => w_witness2)
  k_fill
  refine L2.walk_of (l := PySem.Challenge.rw_hillsight_k09_whole_ways) (n := 63) (k := 8) (x := "_law_script") (CX := fun _ => L2.CX0) (sp := fun w => Hx.spLaw _) rfl (by decide) rfl ⟨rfl, by decide, by decide⟩ (fun w h Y => PySem.W.kIn_of Y) ?F (fun _ _ a ns hl _ hS => ⟨a, ns, rfl, hS, hl, fun _ => rfl⟩) (fun _ _ _ _ _ h => h)
  case F =>
    intro w mg fa h KX G hmg
    refine' Hx.all_mk KX G hmg ?a__law_cell_at ?l__law_cell_at ?c__law_cell_at ?k__law_cell_at ?a__law_whole ?l__law_whole ?c__law_whole ?k__law_whole ?a__law_height_by ?l__law_height_by ?c__law_height_by ?k__law_height_by ?a__law_land_by ?l__law_land_by ?c__law_land_by ?k__law_land_by ?a__law_longer ?l__law_longer ?c__law_longer ?k__law_longer ?a__law_seen_by ?l__law_seen_by ?c__law_seen_by ?k__law_seen_by ?a_slope ?l_slope ?c_slope ?k_slope ?a_steeper ?l_steeper ?c_steeper ?k_steeper ?a_is_whole ?l_is_whole ?c_is_whole ?k_is_whole ?a_check_hill ?l_check_hill ?c_check_hill ?k_check_hill ?a__seen_ahead ?l__seen_ahead ?c__seen_ahead ?k__seen_ahead ?a__seen_behind ?l__seen_behind ?c__seen_behind ?k__seen_behind ?a_view ?l_view ?c_view ?k_view ?a__carried_on ?l__carried_on ?c__carried_on ?k__carried_on ?a_hops ?l_hops ?c_hops ?k_hops ?a__law_near ?l__law_near ?c__law_near ?k__law_near ?a__next_place ?l__next_place ?c__next_place ?k__next_place ?a_way ?l_way ?c_way ?k_way ?a__law_left_by ?l__law_left_by ?c__law_left_by ?k__law_left_by ?a__law_known ?l__law_known ?c__law_known ?k__law_known ?a__law_refused ?l__law_refused ?c__law_refused ?k__law_refused ?a_law ?l_law ?c_law ?k_law ?z_len ?z_range ?z_isinstance ?z_int ?z_bool ?z_list ?z_tuple ?z_min ?z_max ?z_all ?z_sorted ?z_zip ?z_abs ?z_any ?z_set ?z_str ?z_ValueError ?g_HillError ?x_HillError ?k_HillError ?b_HillError ?t_HillError ?d_HillError ?s_HillError ?g_NoHill ?x_NoHill ?k_NoHill ?b_NoHill ?t_NoHill ?d_NoHill ?s_NoHill
    (case a__law_cell_at => k_is)
    (case l__law_cell_at => k_is)
    (case c__law_cell_at => k_is)
    (case k__law_cell_at => k_is)
    (case a__law_whole => k_is)
    (case l__law_whole => k_is)
    (case c__law_whole => k_is)
    (case k__law_whole => k_is)
    (case a__law_height_by => k_is)
    (case l__law_height_by => k_is)
    (case c__law_height_by => k_is)
    (case k__law_height_by => k_is)
    (case a__law_land_by => k_is)
    (case l__law_land_by => k_is)
    (case c__law_land_by => k_is)
    (case k__law_land_by => k_is)
    (case a__law_longer => k_is)
    (case l__law_longer => k_is)
    (case c__law_longer => k_is)
    (case k__law_longer => k_is)
    (case a__law_seen_by => k_is)
    (case l__law_seen_by => k_is)
    (case c__law_seen_by => k_is)
    (case k__law_seen_by => k_is)
    (case a_slope => k_is)
    (case l_slope => k_is)
    (case c_slope => k_is)
    (case k_slope => k_is)
    (case a_steeper => k_is)
    (case l_steeper => k_is)
    (case c_steeper => k_is)
    (case k_steeper => k_is)
    (case a_is_whole => k_is)
    (case l_is_whole => k_is)
    (case c_is_whole => k_is)
    (case k_is_whole => k_is)
    (case a_check_hill => k_is)
    (case l_check_hill => k_is)
    (case c_check_hill => k_is)
    (case k_check_hill => k_is)
    (case a__seen_ahead => k_is)
    (case l__seen_ahead => k_is)
    (case c__seen_ahead => k_is)
    (case k__seen_ahead => k_is)
    (case a__seen_behind => k_is)
    (case l__seen_behind => k_is)
    (case c__seen_behind => k_is)
    (case k__seen_behind => k_is)
    (case a_view => k_is)
    (case l_view => k_is)
    (case c_view => k_is)
    (case k_view => k_is)
    (case a__carried_on => k_is)
    (case l__carried_on => k_is)
    (case c__carried_on => k_is)
    (case k__carried_on => k_is)
    (case a_hops => k_is)
    (case l_hops => k_is)
    (case c_hops => k_is)
    (case k_hops => k_is)
    (case a__law_near => k_is)
    (case l__law_near => k_is)
    (case c__law_near => k_is)
    (case k__law_near => k_is)
    (case a__next_place => k_is)
    (case l__next_place => k_is)
    (case c__next_place => k_is)
    (case k__next_place => k_is)
    (case a_way => k_is)
    (case l_way => k_is)
    (case c_way => k_is)
    (case k_way => k_is)
    (case a__law_left_by => k_is)
    (case l__law_left_by => k_is)
    (case c__law_left_by => k_is)
    (case k__law_left_by => k_is)
    (case a__law_known => k_is)
    (case l__law_known => k_is)
    (case c__law_known => k_is)
    (case k__law_known => k_is)
    (case a__law_refused => k_is)
    (case l__law_refused => k_is)
    (case c__law_refused => k_is)
    (case k__law_refused => k_is)
    (case a_law => k_is)
    (case l_law => k_is)
    (case c_law => k_is)
    (case k_law => k_is)
    (case z_len => k_is)
    (case z_range => k_is)
    (case z_isinstance => k_is)
    (case z_int => k_is)
    (case z_bool => k_is)
    (case z_list => k_is)
    (case z_tuple => k_is)
    (case z_min => k_is)
    (case z_max => k_is)
    (case z_all => k_is)
    (case z_sorted => k_is)
    (case z_zip => k_is)
    (case z_abs => k_is)
    (case z_any => k_is)
    (case z_set => k_is)
    (case z_str => k_is)
    (case z_ValueError => k_is)
    (case g_HillError => k_is)
    (case x_HillError => k_exc)
    (case k_HillError => k_is)
    (case b_HillError => k_is)
    (case t_HillError => k_is)
    (case d_HillError => k_is)
    (case s_HillError => first | rfl | k_is)
    (case g_NoHill => k_is)
    (case x_NoHill => k_exc)
    (case k_NoHill => k_is)
    (case b_NoHill => k_is)
    (case t_NoHill => k_is)
    (case d_NoHill => k_is)
    (case s_NoHill => first | rfl | k_is)
