import PyProof.Rows.All
import Wide.All
import OpenK.AllK
import Wide.FinOn
import HandS.ForMost
import HandS.Walk
import HandS.Zip
import HandS.TupAny
import HandS.Defaults
import HandS.IsInst
import HandS.Replace
import HandS.Flow
import HandS.Style
import HandS.Conv
import PyProof.ListStr
import PyProof.StrLawsFirst
import KE.GoesMore
import KE.GoesZip
import KE.GoesEnum
import HandS.ExcInit
import HandS.ExcIs
import HandS.ExcField
import KE.KExcSuper
import KE.KExcIs
import HandS.TupMul
import KE.SortData
import HandS.TupSets
import HandS.Deep
import PySem.Challenge.RW_foeholes_k14_refusals_made_by_hand
set_option Elab.async false
set_option linter.all false
set_option maxRecDepth 100000
set_option maxHeartbeats 2000000
namespace Fo
open PySem PySem.Spec PyProof.Rows L2 RZ
/-! ### heaps -/
/-- tuples stay -/
def TS (H H' : Hp) : Prop := ∀ a xs, H a = some (.tup xs) → H' a = some (.tup xs)
theorem TS.refl (H : Hp) : TS H H := fun _ _ h => h
theorem TS.trans {H H1 H2 : Hp} (a : TS H H1) (b : TS H1 H2) : TS H H2 := fun c x h => b c x (a c x h)
theorem same_ts {H H' : Hp} (h : Same H H') : TS H H' := fun a xs e => h a _ e
theorem same_new {H : Hp} {p : Addr} {o : HO} (h : H p = none) : Same H (upd H p o) := fun b u q => by rw [upd_ne (ne_of_none q h)]; exact q
theorem TS.new {H : Hp} {p : Addr} {o : HO} (h : H p = none) : TS H (upd H p o) := same_ts (same_new h)
theorem TS.lst {H : Hp} {p : Addr} {xs : List V} {o : HO} (h : H p = some (.lst xs)) : TS H (upd H p o) := fun b u q => by
  rw [upd_ne (ne_of q h (by intro z; cases z))]; exact q
/-- all but what stands at p stays -/
def But (p : Addr) (H H' : Hp) : Prop := ∀ b o, b ≠ p → H b = some o → H' b = some o
theorem But.refl (p : Addr) (H : Hp) : But p H H := fun _ _ _ h => h
theorem But.trans {p : Addr} {H H1 H2 : Hp} (a : But p H H1) (b : But p H1 H2) : But p H H2 := fun c o n h => b c o n (a c o n h)
theorem same_but {H H' : Hp} (p : Addr) (h : Same H H') : But p H H' := fun b o _ e => h b o e
theorem But.upd {H : Hp} {p : Addr} {o : HO} : But p H (upd H p o) := fun b u n e => by rw [upd_ne n]; exact e
theorem But.ts {p : Addr} {H H' : Hp} {xs : List V} (h : But p H H') (hp : H p = some (.lst xs)) : TS H H' := fun a ys e => h a _ (ne_of e hp (by intro z; cases z)) e
section
variable {X : Cx}
/-! ### one rule an operator, whatever the kind -/
def rAddI : R2 := fun x y H Q => ∃ i j, x = .int i ∧ y = .int j ∧ Q (.int (i + j)) H
def rAddT : R2 := fun x y H Q => ∃ i j, x = .str i ∧ y = .str j ∧ i.length + j.length ≤ sizeLine ∧ Q (.str (i ++ j)) H
/-- what is wanted of a new object: told at any later heap that keeps the old -/
def New (o : HO) (H : Hp) (Q : VK) : Prop := ∀ p H', H p = none → Same H H' → H' p = some o → Q (.ref p) H'
/-- .. of an object that may be an old one -/
def Got (o : HO) (H : Hp) (Q : VK) : Prop := ∀ p H', Same H H' → H' p = some o → Q (.ref p) H'
theorem New.at {o : HO} {H : Hp} {Q : VK} (h : New o H Q) : ∀ p, H p = none → Q (.ref p) (upd H p o) := fun p np => h p _ np (same_new np) upd_same
theorem Got.new {o : HO} {H : Hp} {Q : VK} (h : Got o H Q) : New o H Q := fun p H' _ s e => h p H' s e
theorem OpR_imp {f : Value → Value → Sem Value} {r r' : R2} (h : OpR X f r) (i : ∀ x y H Q, r' x y H Q → r x y H Q) : OpR X f r' :=
  fun pins s σ H x y v u Q I rx ry q => h pins s σ H x y v u Q I rx ry (i _ _ _ _ q)
theorem CallR_imp {f : Value} {r r' : List V → Hp → VK → Prop} (h : CallR X f r) (i : ∀ xs H Q, r' xs H Q → r xs H Q) : CallR X f r' :=
  fun pins s σ H xs us Q I rs q => h pins s σ H xs us Q I rs (i _ _ _ q)
theorem SlR_imp {r r' : V → Option Int → Option Int → Hp → VK → Prop} (h : SlR X r) (i : ∀ x lo hi H Q, r' x lo hi H Q → r x lo hi H Q) : SlR X r' :=
  fun pins s σ H x v vl vu lo hi sl Q I rx hs pl pu q => h pins s σ H x v vl vu lo hi sl Q I rx hs pl pu (i _ _ _ _ _ q)
theorem MtM_imp {id : String} {r r' : V → List V → Hp → VK → Prop} (h : MtR X id r) (i : ∀ x xs H Q, r' x xs H Q → r x xs H Q) : MtR X id r' :=
  fun pins s σ H x xs v us Q I rx rs q => h pins s σ H x xs v us Q I rx rs (i _ _ _ _ q)
theorem PE_imp {e : Expr} {t t' : TE} (h : PE X e t) (i : ∀ σ H Q, t' σ H Q → t σ H Q) : PE X e t' := ⟨fun pins s σ H Q I q => h.run pins s σ H Q I (i _ _ _ q)⟩
def rCatL : R2 := fun x y H Q => ∃ l b xs zs, x = .ref l ∧ y = .ref b ∧ H l = some (.lst xs) ∧ H b = some (.lst zs) ∧ xs.length + zs.length ≤ sizeLine ∧ New (.lst (xs ++ zs)) H Q
def rCatU : R2 := fun x y H Q => ∃ a b xs ys, x = .ref a ∧ y = .ref b ∧ H a = some (.tup xs) ∧ H b = some (.tup ys) ∧ xs.length + ys.length ≤ sizeLine ∧ Got (.tup (xs ++ ys)) H Q
theorem op_catL : OpR X (binaryOp .Add) rCatL := OpR_imp op_cat fun x y H Q h => by
  obtain ⟨l, b, xs, zs, rfl, rfl, h1, h2, h3, q⟩ := h
  exact ⟨l, b, xs, zs, rfl, rfl, h1, h2, h3, q.at⟩
theorem op_catU : OpR X (binaryOp .Add) rCatU := OpR_imp op_catA fun x y H Q h => by
  obtain ⟨a, b, xs, ys, rfl, rfl, h1, h2, h3, q⟩ := h
  refine ⟨a, b, xs, ys, rfl, rfl, SqT.of h1, SqT.of h2, h3, fun e => ?_, fun _ e => ?_, fun _ _ => q.new.at⟩
  · subst e
    exact q b H (Same.refl H) h2
  · subst e
    exact q a H (Same.refl H) (by rw [List.append_nil]; exact h1)
def rAddG : R2 := fun x y H Q => rAddI x y H Q ∨ (rAddT x y H Q ∨ (rCatL x y H Q ∨ rCatU x y H Q))
theorem op_addG : OpR X (binaryOp .Add) rAddG := OpR.or (r := rAddI) op_add (OpR.or (r := rAddT) op_add_str (op_catL.or op_catU))
def rMulG : R2 := fun x y H Q => rI CMul (fun i j => .int (i * j)) x y H Q ∨ rRep x y H Q
theorem op_mulG : OpR X (binaryOp .Mult) rMulG := op_mul.or op_rep
theorem PI_or {tg it : Expr} {w1 w2 : TI} (h1 : PI X tg it w1) (h2 : PI X tg it w2) : PI X tg it (fun σ H R => w1 σ H R ∨ w2 σ H R) := by
  refine ⟨fun pins s σ H R I h => ?_⟩
  rcases h with h | h
  · exact h1.run pins s σ H R I h
  · exact h2.run pins s σ H R I h
def iG (K : PySem.W.Frag) (te : TE) : TI := fun σ H R => iList K te σ H R ∨ (iTup K te σ H R ∨ iStr te σ H R)
theorem pi_G {tg e : Expr} {te : TE} (he : PE X e te) : PI X tg e (iG X.K te) := PI_or (pi_list he) (PI_or (pi_tup he) (pi_str he))
def rSlLN (K : PySem.W.Frag) : V → Option Int → Option Int → Hp → VK → Prop := fun x lo hi H Q => ∃ a xs, x = .ref a ∧ SqL K H a xs ∧ New (.lst (cutV xs lo hi)) H Q
def rSlUN : V → Option Int → Option Int → Hp → VK → Prop := fun x lo hi H Q => ∃ a xs, x = .ref a ∧ H a = some (.tup xs) ∧ Got (.tup (cutV xs lo hi)) H Q
theorem cut_whole {xs : List V} {lo hi : Option Int} (h0 : HT.sIx xs.length 0 lo = 0) (h1 : HT.sIx xs.length xs.length hi = xs.length) : cutV xs lo hi = xs := by
  unfold cutV
  rw [h0, h1, List.drop_zero, Nat.sub_zero, List.take_length]
theorem sl_listN : SlR X (rSlLN X.K) := SlR_imp sl_list fun x lo hi H Q h => by
  obtain ⟨a, xs, rfl, h1, q⟩ := h
  exact ⟨a, xs, rfl, h1, q.at⟩
theorem sl_tupN : SlR X rSlUN := SlR_imp sl_tupA fun x lo hi H Q h => by
  obtain ⟨a, xs, rfl, h1, q⟩ := h
  refine ⟨a, xs, rfl, SqT.of h1, fun e => ?_, fun _ => q.new.at⟩
  exact q a H (Same.refl H) (by rw [cut_whole e.1 e.2]; exact h1)
def rSlG (K : PySem.W.Frag) : V → Option Int → Option Int → Hp → VK → Prop := fun x lo hi H Q => rSlLN K x lo hi H Q ∨ (rSlUN x lo hi H Q ∨ rSlS x lo hi H Q)
theorem sl_G : SlR X (rSlG X.K) := sl_listN.or (sl_tupN.or sl_str)
def tTupN (t : TA) : TE := fun σ H Q => t σ H fun xs H1 => xs.length ≤ sizeLine ∧ New (.tup xs) H1 Q
def tLstN (t : TA) : TE := fun σ H Q => t σ H fun xs H1 => xs.length ≤ sizeLine ∧ New (.lst xs) H1 Q
def upA (t : TA) : TA := fun σ H Q => ∃ Q0 : List V → Hp → Prop, t σ H Q0 ∧ ∀ vs H', Q0 vs H' → Q vs H'
theorem PA_up {es : List Expr} {t : TA} (h : PA X es t) : PA X es (upA t) := ⟨fun pos pins s σ H Q I q => by
  obtain ⟨Q0, q0, k⟩ := q
  refine thn (h.run pos pins s σ H Q0 I q0) fun us s' hh => ?_
  obtain ⟨vs, H', I', r, q'⟩ := hh
  exact ⟨vs, H', I', r, k vs H' q'⟩⟩
theorem pe_tupN {es : List Expr} {t : TA} {k : Nat} {pos : Pos} (h : PA X es t) : PE X (.Tuple es k pos) (tTupN t) :=
  PE_imp (pe_tup (PA_up h)) fun σ H Q q => ⟨_, q, fun vs H' z => ⟨z.1, z.2.at⟩⟩
theorem pe_lstN {es : List Expr} {t : TA} {pos : Pos} (h : PA X es t) : PE X (.List es pos) (tLstN t) :=
  PE_imp (pe_lst (PA_up h)) fun σ H Q q => ⟨_, q, fun vs H' z => ⟨z.1, z.2.at⟩⟩
/-- list(x): of a list, a tuple; of a text its signs -/
def sgs (l : List Nat) : List V := l.map fun c => .str ⟨#[c]⟩
def rListT : List V → Hp → VK → Prop := fun xs H Q => ∃ z : Str, xs = [.str z] ∧ z.cps.size ≤ sizeLine ∧ New (.lst (sgs z.cps.toList)) H Q
theorem call_listT (hc : X.calm = true) : CallR X (.type "list") rListT := by
  intro pins s σ H xs us Q I r h
  obtain ⟨z, rfl, hz, q⟩ := h
  obtain ⟨u, rfl, t, rfl⟩ := vals1 r
  refine call_list_str (I.ok.hd hc) z t (fun h' tk acc' c' hk hS hacc => ?_) hz
  have hv : Vals (sgs z.cps.toList) acc'.toList := by
    refine vals_of_at (by simp [sgs, hacc.1]) (fun j x u hx hu => ?_)
    have e1 : acc'[j]? = some u := by simpa using hu
    obtain ⟨c, k, hw1, rfl⟩ := hacc.2 j u e1
    have e2 : (V.str ⟨#[c]⟩ : V) = x := by
      unfold sgs at hx
      rw [List.getElem?_map, show z.cps.toList[j]? = some c by simpa using hw1] at hx
      exact Option.some.inj hx
    subst e2
    exact ⟨k, rfl⟩
  exact ⟨.ref s.heap.objs.size, _, I.laid (t' := tk) hk (Nat.le_refl _) (show ObjOk X.prog X.w _ h' _ (.lst _) from ⟨by simpa [sgs] using hz, acc'.toList, c', hv, by simpa using hS⟩), rfl, q.at _ (I.hok.fresh (Nat.le_refl _))⟩
def rListS (K : PySem.W.Frag) : List V → Hp → VK → Prop := fun xs H Q => ∃ p ys, xs = [.ref p] ∧ (SqL K H p ys ∨ SqT K H p ys) ∧ New (.lst ys) H Q
def rListG (K : PySem.W.Frag) : List V → Hp → VK → Prop := fun xs H Q => rListS K xs H Q ∨ rListT xs H Q
theorem call_listG (hc : X.calm = true) : CallR X (.type "list") (rListG X.K) := CallR.or (r := rListS X.K) (CallR_imp call_list_of fun xs H Q h => by
    obtain ⟨p, ys, rfl, h1, q⟩ := h
    exact ⟨p, ys, rfl, h1, q.at⟩) (call_listT hc)
def rTupN (K : PySem.W.Frag) : List V → Hp → VK → Prop := fun xs H Q => ∃ p ys, xs = [.ref p] ∧ ((SqL K H p ys ∧ New (.tup ys) H Q) ∨ (SqT K H p ys ∧ Q (.ref p) H))
theorem call_tupleN : CallR X (.type "tuple") (rTupN X.K) := CallR_imp call_tuple_of fun xs H Q h => by
  obtain ⟨p, ys, rfl, h | h⟩ := h
  · exact ⟨p, ys, rfl, .inl ⟨h.1, h.2.at⟩⟩
  · exact ⟨p, ys, rfl, .inr h⟩
def rSortN (K : PySem.W.Frag) : List V → Hp → VK → Prop := fun vs H Q => ∃ (a : Addr) (xs : List Str), vs = [V.ref a] ∧ SqL K H a (xs.map V.str) ∧ xs.length < 64 ∧
  ∀ (ys : List Str), ys.Perm xs → sortedS ys = true → New (.lst (ys.map V.str)) H Q
theorem cr_sortedN : CallR X (.builtin "sorted") (rSortN X.K) := CallR_imp cr_sortedS fun xs H Q h => by
  obtain ⟨a, xs, rfl, h1, h2, q⟩ := h
  exact ⟨a, xs, rfl, h1, h2, fun ys p e1 e2 => (q ys e1 e2).at p⟩
def rLenN (K : PySem.W.Frag) : List V → Hp → VK → Prop := fun xs H Q => ∃ x n, xs = [x] ∧ LenV K x H n ∧ Q (.int (n : Nat)) H
theorem call_lenN : CallR X (.builtin "len") (rLenN X.K) := call_len
/-! ### lists changed -/
/-- what is wanted behind a change of the list at l -/
def Chg (l : Addr) (xs : List V) (H : Hp) (Q : Hp → Prop) : Prop := ∀ H', But l H H' → H' l = some (.lst xs) → Q H'
theorem Chg.at {l : Addr} {xs : List V} {H : Hp} {Q : Hp → Prop} (h : Chg l xs H Q) : Q (upd H l (.lst xs)) := h _ But.upd upd_same
def rAppN : V → List V → Hp → VK → Prop := fun x vs H Q => ∃ l xs y, x = .ref l ∧ vs = [y] ∧ H l = some (.lst xs) ∧ xs.length < sizeLine ∧ Chg l (xs ++ [y]) H (Q .non)
def rPopN : V → List V → Hp → VK → Prop := fun x vs H Q => ∃ l xs i k y, x = .ref l ∧ vs = [.int i] ∧ H l = some (.lst xs) ∧ -(2 ^ 63) ≤ i ∧ i < 2 ^ 63 ∧ seqIndex? i xs.length = some k ∧ xs[k]? = some y ∧ Chg l (xs.eraseIdx k) H (Q y)
def rSetN : V → V → V → Hp → (Hp → Prop) → Prop := fun o i v H Q => ∃ p xs k j, o = .ref p ∧ i = .int k ∧ H p = some (.lst xs) ∧ ixN xs.length k = some j ∧ Chg p (xs.set j v) H Q
theorem mt_appN : MtR X "list.append" rAppN := MtM_imp mt_append fun x xs H Q h => by
  obtain ⟨l, xs, y, rfl, rfl, h1, h2, q⟩ := h
  exact ⟨l, xs, y, rfl, rfl, h1, h2, q.at⟩
theorem mt_popN : MtR X "list.pop" rPopN := MtM_imp mt_popAt fun x xs H Q h => by
  obtain ⟨l, xs, i, k, y, rfl, rfl, h1, h2, h3, h4, h5, q⟩ := h
  exact ⟨l, xs, i, k, y, rfl, rfl, h1, h2, h3, h4, h5, q.at⟩
theorem set_listN : PSet X rSetN := by
  intro pins s σ H o i v ov iv u Q I ro ri rv h
  refine set_list pins s σ H o i v ov iv u Q I ro ri rv ?_
  obtain ⟨p, xs, k, j, rfl, rfl, h1, h2, q⟩ := h
  exact ⟨p, xs, k, j, rfl, rfl, h1, h2, q.at⟩
/-! ### comparisons -/
def rCmpI (p : Int → Int → Bool) : R2 := fun x y H Q => ∃ i j, x = .int i ∧ y = .int j ∧ Q (.bl (p i j)) H
def rCmpS (p : List Nat → List Nat → Bool) : R2 := fun x y H Q => ∃ i j : Str, x = .str i ∧ y = .str j ∧ Q (.bl (p i.cps.toList j.cps.toList)) H
def rLtG : R2 := fun x y H Q => rCmpI (fun i j => decide (i < j)) x y H Q ∨ rCmpS (fun i j => decide (i < j)) x y H Q
theorem op_ltG : OpR X (compareOp .Lt) rLtG := OpR.or (r := rCmpI fun i j => decide (i < j)) (r' := rCmpS fun i j => decide (i < j)) op_lt op_lt_str
def rGtG : R2 := rCmpI fun i j => decide (j < i)
theorem op_gtG : OpR X (compareOp .Gt) rGtG := op_gt
def rGeG : R2 := rCmpI fun i j => decide (j ≤ i)
theorem op_geG : OpR X (compareOp .GtE) rGeG := op_ge
def rInSg : R2 := fun x y H Q => ∃ (c : Nat) (z : Str), x = .str ⟨#[c]⟩ ∧ y = .str z ∧ Q (.bl (decide (c ∈ z.cps.toList))) H
def rNiSg : R2 := fun x y H Q => ∃ (c : Nat) (z : Str), x = .str ⟨#[c]⟩ ∧ y = .str z ∧ Q (.bl (!decide (c ∈ z.cps.toList))) H
def rInG (K : PySem.W.Frag) : R2 := fun x y H Q => rInSg x y H Q ∨ rIn K false x y H Q
theorem op_inG : OpR X (compareOp .In) (rInG X.K) := OpR.or (r := rInSg) op_in_sign op_in_seq
def rNinG (K : PySem.W.Frag) : R2 := fun x y H Q => rNiSg x y H Q ∨ rIn K true x y H Q
theorem op_ninG : OpR X (compareOp .NotIn) (rNinG X.K) := OpR.or (r := rNiSg) op_notIn_sign op_notIn_seq
def rEqG (K : PySem.W.Frag) : R2 := fun x y H Q => rEq x y H Q ∨ rEqD K x y H Q
theorem op_eqG (hu : X.A.units + 64 < cLine) : OpR X (compareOp .Eq) (rEqG X.K) := op_eq.or (op_eqD hu)
def rNeG (K : PySem.W.Frag) : R2 := fun x y H Q => rNe x y H Q ∨ rNeD K x y H Q
theorem op_neG (hu : X.A.units + 64 < cLine) : OpR X (compareOp .NotEq) (rNeG X.K) := op_ne.or (op_neD hu)
def rIsiG (K : PySem.W.Frag) : List V → Hp → VK → Prop := fun xs H Q => rIsi K xs H Q ∨ rIsiT K xs H Q
theorem call_isiG : CallR X (.builtin "isinstance") (rIsiG X.K) := call_isi.or call_isiT
end
/-- the pen at p, its cells at c: n takes are left -/
def Pen (H : Hp) (p c : Addr) (n : Nat) : Prop := ∃ (cs : List Int) (k : Nat) (left : Int), H p = some (.lst [.ref c, .int k, .int left]) ∧ H c = some (.lst (cs.map V.int)) ∧ cs.length ≤ 12 ∧ k + n ≤ 1048576 ∧ c ≠ p
theorem Pen.less {H : Hp} {p c : Addr} {n m : Nat} (h : Pen H p c n) (hm : m ≤ n) : Pen H p c m := by
  obtain ⟨cs, k, l, h1, h2, h3, h4, h5⟩ := h
  exact ⟨cs, k, l, h1, h2, h3, by omega, h5⟩
theorem Pen.same {H H' : Hp} {p c : Addr} {n : Nat} (h : Pen H p c n) (s : Same H H') : Pen H' p c n := by
  obtain ⟨cs, k, l, h1, h2, h3, h4, h5⟩ := h
  exact ⟨cs, k, l, s _ _ h1, s _ _ h2, h3, h4, h5⟩
theorem Pen.at {H : Hp} {p c : Addr} {n : Nat} (h : Pen H p c n) : ∃ xs, H p = some (.lst xs) := by
  obtain ⟨cs, k, l, h1, h2, h3, h4, h5⟩ := h
  exact ⟨_, h1⟩
theorem Pen.atc {H : Hp} {p c : Addr} {n : Nat} (h : Pen H p c n) : ∃ xs, H c = some (.lst xs) := by
  obtain ⟨cs, k, l, h1, h2, h3, h4, h5⟩ := h
  exact ⟨_, h2⟩
theorem Pen.ts {H H' : Hp} {p c : Addr} {n : Nat} (h : Pen H p c n) (b : But p H H') : TS H H' := by
  obtain ⟨xs, e⟩ := h.at
  exact b.ts e
/-- a new address is neither the pen's nor its cells' -/
theorem Pen.ne {H : Hp} {p c D : Addr} {n : Nat} (h : Pen H p c n) (hD : H D = none) : p ≠ D ∧ c ≠ D := by
  obtain ⟨xs, e⟩ := h.at
  obtain ⟨ys, e2⟩ := h.atc
  exact ⟨ne_of_none e hD, ne_of_none e2 hD⟩
theorem Pen.chg {H H' : Hp} {p c D : Addr} {n : Nat} (h : Pen H p c n) (d : p ≠ D ∧ c ≠ D) (b : But D H H') : Pen H' p c n := by
  obtain ⟨cs, k, l, h1, h2, h3, h4, h5⟩ := h
  exact ⟨cs, k, l, b _ _ d.1 h1, b _ _ d.2 h2, h3, h4, h5⟩
/-- what is changed at D, new since H1, changes nothing of H -/
theorem But.chg {H H1 H4 H5 : Hp} {p D : Addr} (b : But p H H4) (b1 : But p H H1) (hD : H1 D = none) (b5 : But D H4 H5) : But p H H5 := fun b' o n e => b5 _ _ (ne_of_none (b1 _ _ n e) hD) (b _ _ n e)
theorem same_chg {H H1 H4 H5 : Hp} {D : Addr} (b : Same H H4) (b1 : Same H H1) (hD : H1 D = none) (b5 : But D H4 H5) : Same H H5 := fun b' o e => b5 _ _ (ne_of_none (b1 _ _ e) hD) (b _ _ e)
/-! ### small lists of ints read at a reckoned place -/
theorem fmod_in {a b : Int} (h : 0 < b) : 0 ≤ a.fmod b ∧ a.fmod b < b := ⟨Int.fmod_nonneg_of_pos a h, Int.fmod_lt_of_pos a h⟩
theorem at_of {α : Type} {xs : List α} {i : Int} (h0 : 0 ≤ i) (h1 : i < (xs.length : Int)) : ∃ v, atI xs i = some v ∧ v ∈ xs := by
  have hk : i.toNat < xs.length := by omega
  have ek : i = ((i.toNat : Nat) : Int) := by omega
  have q : atI xs ((i.toNat : Nat) : Int) = some (xs[i.toNat]'hk) := atI_nat (List.getElem?_eq_getElem hk)
  rw [← ek] at q
  exact ⟨_, q, List.getElem_mem hk⟩
theorem at_int {xs : List Int} {i : Int} (h0 : 0 ≤ i) (h1 : i < (xs.length : Int)) : ∃ v, atI (xs.map V.int) i = some (.int v) ∧ v ∈ xs := by
  obtain ⟨v, e, hv⟩ := at_of (xs := xs.map V.int) h0 (by rw [List.length_map]; exact h1)
  obtain ⟨w, hw, rfl⟩ := List.mem_map.mp hv
  exact ⟨w, e, hw⟩
theorem mul_in {a b A B : Int} (a0 : 0 ≤ a) (a1 : a < A) (b0 : 0 ≤ b) (b1 : b < B) : 0 ≤ a * b ∧ a * b < A * B := by
  refine ⟨Int.mul_nonneg a0 b0, ?_⟩
  have h1 : a * b ≤ A * b := Int.mul_le_mul_of_nonneg_right (by omega) b0
  have h2 : A * b < A * B := Int.mul_lt_mul_of_pos_left b1 (by omega)
  omega
theorem get_map {α : Type} {f : α → V} {xs : List α} {i : Nat} {x : V} (h : (xs.map f)[i]? = some x) : ∃ z, xs[i]? = some z ∧ x = f z := by
  rw [List.getElem?_map] at h
  cases e : xs[i]? with
  | none => rw [e] at h; cases h
  | some z => rw [e] at h; exact ⟨z, rfl, (Option.some.inj h).symm⟩
theorem szS {n : Nat} (h : Nat.ble n 1000 = true := by rfl) : n ≤ sizeLine := Nat.le_of_lt (small1000 (Nat.le_of_ble_eq_true h))
theorem ixN_of {n : Nat} {i : Int} (h0 : 0 ≤ i) (h1 : i < (n : Int)) : ixN n i = some i.toNat := by
  unfold ixN
  rw [if_pos h0, if_pos h1]
theorem cut_hi (xs : List V) (k : Nat) : cutV xs none (some (k : Int)) = xs.take k := by
  unfold cutV
  rw [HT.sIx_none, HT.sIx_nat, List.drop_zero, Nat.sub_zero]
  by_cases h : k ≤ xs.length
  · rw [Nat.min_eq_left h]
  · rw [Nat.min_eq_right (by omega), List.take_of_length_le (Nat.le_refl _), List.take_of_length_le (by omega)]
theorem cut_lohi (xs : List V) (j k : Nat) : cutV xs (some (j : Int)) (some (k : Int)) = (xs.drop j).take (k - j) := by
  unfold cutV
  rw [HT.sIx_nat, HT.sIx_nat]
  by_cases hj : j ≤ xs.length
  · rw [Nat.min_eq_left hj]
    by_cases h : k ≤ xs.length
    · rw [Nat.min_eq_left h]
    · rw [Nat.min_eq_right (by omega), List.take_of_length_le (by rw [List.length_drop]; omega), List.take_of_length_le (by rw [List.length_drop]; omega)]
  · rw [Nat.min_eq_right (by omega : xs.length ≤ j), List.drop_length, List.drop_eq_nil_of_le (by omega)]
    simp
theorem cut_lo (xs : List V) (j : Nat) : cutV xs (some (j : Int)) none = xs.drop j := by
  unfold cutV
  rw [HT.sIx_nat, HT.sIx_none]
  by_cases hj : j ≤ xs.length
  · rw [Nat.min_eq_left hj, List.take_of_length_le (by rw [List.length_drop]; omega)]
  · rw [Nat.min_eq_right (by omega : xs.length ≤ j), List.drop_length, List.drop_eq_nil_of_le (by omega)]
    simp
/-! ### the rules at a written part K by name (within a comprehension's block) -/
section
variable {X : Cx} (K : PySem.W.Frag)
theorem kLen (e : X.K = K) : CallR X (.builtin "len") (rLenN K) := e ▸ call_lenN
theorem kIsi (e : X.K = K) : CallR X (.builtin "isinstance") (rIsiG K) := e ▸ call_isiG
theorem kList (e : X.K = K) (hc : X.calm = true) : CallR X (.type "list") (rListG K) := e ▸ call_listG hc
theorem kTuple (e : X.K = K) : CallR X (.type "tuple") (rTupN K) := e ▸ call_tupleN
theorem kSorted (e : X.K = K) : CallR X (.builtin "sorted") (rSortN K) := e ▸ cr_sortedN
theorem kIx (e : X.K = K) : IxR X (rIx K) := e ▸ ix_seq
theorem kSl (e : X.K = K) : SlR X (rSlG K) := e ▸ sl_G
theorem kIn (e : X.K = K) : OpR X (compareOp .In) (rInG K) := e ▸ op_inG
theorem kNin (e : X.K = K) : OpR X (compareOp .NotIn) (rNinG K) := e ▸ op_ninG
theorem kEq (e : X.K = K) (hu : X.A.units + 64 < cLine) : OpR X (compareOp .Eq) (rEqG K) := e ▸ op_eqG hu
theorem kNe (e : X.K = K) (hu : X.A.units + 64 < cLine) : OpR X (compareOp .NotEq) (rNeG K) := e ▸ op_neG hu
theorem kAll (e : X.K = K) (hc : X.calm = true) : CallR X (.builtin "all") (rAll K) := e ▸ cr_all hc
theorem kAny (e : X.K = K) (hc : X.calm = true) : CallR X (.builtin "any") (rAny K) := e ▸ cr_any hc
theorem kG (e : X.K = K) {tg ex : Expr} {te : TE} (he : PE X ex te) : PI X tg ex (iG K te) := e ▸ pi_G he
theorem kTg (e : X.K = K) {es : List Expr} {k : Nat} {pos : Pos} {t : TGs} {n : Nat} (hc : X.calm = true) (h : PGs X es t)
    (hn : (assignEach es X.env).length = n := by rfl) (hst : (assignEach es X.env).findIdx? (·.1) = none := by rfl) : PG X (.Tuple es k pos) (gTup K n t) := e ▸ pg_tup hc h hn hst
theorem kBm (e : X.K = K) {T : String} {r : V → List V → Hp → VK → Prop} {ex : Expr} {to : TE} {t : TA} (h : PE X ex (tBM X.K T r to t)) : PE X ex (tBM K T r to t) := e ▸ h
theorem kBm0 (e : X.K = K) {T : String} {r : V → List V → Hp → VK → Prop} {ex : Expr} {to : TE} (h : PE X ex (tBM0 X.K T r to)) : PE X ex (tBM0 K T r to) := e ▸ h
def rJoin (K : PySem.W.Frag) : V → List V → Hp → VK → Prop := fun x xs H Q => ∃ a p, ∃ ys : List Str, x = .str a ∧ xs = [.ref p] ∧ (SqL K H p (ys.map V.str) ∨ SqT K H p (ys.map V.str)) ∧ (ys.map (·.length)).sum + ys.length * a.length ≤ 16777216 ∧ Q (.str (Txt.join a ys)) H
theorem kJoin (e : X.K = K) {o ex : Expr} {to te : TE} {apos pos : Pos} (ho : PE X o to) (he : PE X ex te) (hs : starEach [ex] X.env = [(false, eval ex X.env)] := by rfl) (hbase : attributeBase o "join" X.env (eval o X.env) = eval o X.env := by rfl) (hline : (apos.endLine == pos.line) = true := by rfl) :
    PE X (.Call (.Attribute o "join" apos) [ex] [] pos) (tM1 (rJoin K) to te) := by
  subst e
  exact pe_join ho he hs hbase hline
end
/-! ### walks -/
/-- a new pair of the i-th of xs and the i-th of ys, at a later heap -/
def YPairN (xs ys : Nat → Option V) : Nat → Hp → V → Hp → Prop := fun i H v H' => ∃ T x y, v = .ref T ∧ Same H H' ∧ H' T = some (.tup [x, y]) ∧ xs i = some x ∧ ys i = some y
theorem walkPair {J : It} {n : Nat} {G : Hp → Prop} {xs ys : Nat → Option V} (w : Walk J n G (YPair xs ys)) : Walk J n G (YPairN xs ys) := w.mono (fun _ h => h) fun i H x H' _ _ y => by
  obtain ⟨T, a, b, rfl, h1, rfl, h3, h4⟩ := y
  exact ⟨T, a, b, rfl, same_new h1, upd_same, h3, h4⟩
theorem walk_zipT {K : PySem.W.Frag} {a b : Addr} {xs ys : List V} {n : Nat} (hn : n = min xs.length ys.length) : Walk (ItzT K a b) n (fun H => SqT K H a xs ∧ SqT K H b ys) (YPair (fun i => xs[i]?) (fun i => ys[i]?)) := by
  have both : ∀ k, k < n → (∃ u, xs[k]? = some u) ∧ ∃ u, ys[k]? = some u := fun k hk =>
    ⟨⟨_, List.getElem?_eq_getElem (show k < xs.length by omega)⟩, ⟨_, List.getElem?_eq_getElem (show k < ys.length by omega)⟩⟩
  constructor
  · intro k _ hk st
    have ⟨⟨u, hu⟩, ⟨t, ht⟩⟩ := both k hk
    exact ⟨_, _, u, t, st.1, st.2, hu, ht⟩
  · exact fun _ st => ⟨_, _, st.1, st.2, by omega⟩
  · rintro k _ v _ - st ⟨pair, u, t, e1, e2, e3, left, right⟩
    exact ⟨pair, u, t, e1, e2, e3, left _ st.1, right _ st.2⟩
/-- a comprehension's state: Pv by the turn, what the new list at D holds, the heap -/
def LcI (D : Addr) (Pv : Nat → List V → Hp → Prop) (i : Nat) (H : Hp) : Prop := ∃ acc, acc.length ≤ i ∧ Pv i acc H ∧ H D = some (.lst acc)
theorem lcN {J : It} {n : Nat} {G : Hp → Prop} {Y : Nat → Hp → V → Hp → Prop} {g : TG} {tt : TT} {te : TE} {vs : List Nat} {σ : L2.St} {H1 : Hp} {D : Addr} {Qd : Hp → Prop} (w : Walk J n G Y) (hD : H1 D = none) (Pv : Nat → List V → Hp → Prop)
    (h0 : ∀ H', Same H1 H' → H' D = some (.lst []) → Pv 0 [] H') (hG : ∀ i acc H, i ≤ n → Pv i acc H → G H)
    (hs : ∀ i x acc H H', i < n → acc.length ≤ i → Pv i acc H → H D = some (.lst acc) → Y i H x H' → g x (wipe σ vs) H' fun σ2 H2 => wipe σ2 vs = wipe σ vs ∧ tt σ2 H2 fun b H3 =>
      if b = true then te σ2 H3 fun y H4 => ∃ acc, H4 D = some (.lst acc) ∧ acc.length < sizeLine ∧ LcI D Pv (i + 1) (upd H4 D (.lst (acc ++ [y]))) else LcI D Pv (i + 1) H3)
    (hd : ∀ acc H, acc.length ≤ n → Pv n acc H → H D = some (.lst acc) → Qd H) :
    ∃ W : Nat → Nat → Hp → Prop, (∃ m, W 0 m (upd H1 D (.lst []))) ∧ ∀ i m H, W i m H →
      (J.stop i H ∧ Qd H) ∨ (J.go i H ∧ ∃ Nx : Hp → Prop, (∀ H', Nx H' → ∃ m', m' < m ∧ W (i + 1) m' H') ∧ ∀ x H', J.yld i H x H' → g x (wipe σ vs) H' fun σ2 H2 => wipe σ2 vs = wipe σ vs ∧ tt σ2 H2 fun b H3 =>
        if b = true then te σ2 H3 fun y H4 => ∃ acc, H4 D = some (.lst acc) ∧ acc.length < sizeLine ∧ Nx (upd H4 D (.lst (acc ++ [y]))) else Nx H3) :=
  lc_it w (LcI D Pv) ⟨[], Nat.le_refl _, h0 _ (same_new hD) upd_same, upd_same⟩ (fun i H hi p => let ⟨acc, _, p, _⟩ := p; hG i acc H hi p)
    (fun i x H H' hi p y => let ⟨acc, hl, p, e⟩ := p; hs i x acc H H' hi hl p e y) (fun H p => let ⟨acc, hl, p, e⟩ := p; hd acc H hl p e)
/-- .. without an if -/
theorem lcN0 {J : It} {n : Nat} {G : Hp → Prop} {Y : Nat → Hp → V → Hp → Prop} {g : TG} {te : TE} {vs : List Nat} {σ : L2.St} {H1 : Hp} {D : Addr} {Qd : Hp → Prop} (w : Walk J n G Y) (hD : H1 D = none) (Pv : Nat → List V → Hp → Prop)
    (h0 : ∀ H', Same H1 H' → H' D = some (.lst []) → Pv 0 [] H') (hG : ∀ i acc H, i ≤ n → Pv i acc H → G H)
    (hs : ∀ i x acc H H', i < n → acc.length ≤ i → Pv i acc H → H D = some (.lst acc) → Y i H x H' → g x (wipe σ vs) H' fun σ2 H2 => wipe σ2 vs = wipe σ vs ∧ te σ2 H2 fun y H4 => ∃ acc, H4 D = some (.lst acc) ∧ acc.length < sizeLine ∧ LcI D Pv (i + 1) (upd H4 D (.lst (acc ++ [y]))))
    (hd : ∀ acc H, acc.length ≤ n → Pv n acc H → H D = some (.lst acc) → Qd H) :
    ∃ W : Nat → Nat → Hp → Prop, (∃ m, W 0 m (upd H1 D (.lst []))) ∧ ∀ i m H, W i m H →
      (J.stop i H ∧ Qd H) ∨ (J.go i H ∧ ∃ Nx : Hp → Prop, (∀ H', Nx H' → ∃ m', m' < m ∧ W (i + 1) m' H') ∧ ∀ x H', J.yld i H x H' → g x (wipe σ vs) H' fun σ2 H2 => wipe σ2 vs = wipe σ vs ∧ tYes σ2 H2 fun b H3 =>
        if b = true then te σ2 H3 fun y H4 => ∃ acc, H4 D = some (.lst acc) ∧ acc.length < sizeLine ∧ Nx (upd H4 D (.lst (acc ++ [y]))) else Nx H3) :=
  lcN (tt := tYes) w hD Pv h0 hG hs hd
theorem lcNext {D : Addr} {Pv : Nat → List V → Hp → Prop} {i : Nat} {H4 : Hp} {acc : List V} {y : V} (e : H4 D = some (.lst acc)) (hl : acc.length ≤ i) (hi : i < 100000) (k : ∀ H5, But D H4 H5 → H5 D = some (.lst (acc ++ [y])) → Pv (i + 1) (acc ++ [y]) H5) :
    ∃ acc, H4 D = some (.lst acc) ∧ acc.length < sizeLine ∧ LcI D Pv (i + 1) (upd H4 D (.lst (acc ++ [y]))) :=
  ⟨acc, e, by rw [sizeLine_eq]; omega, acc ++ [y], by rw [List.length_append]; exact Nat.succ_le_succ hl, k _ But.upd upd_same, upd_same⟩
/-! ### the reading, step by step -/
theorem modL {x y : V} {H : Hp} {Q : VK} {i j : Int} (hx : x = .int i) (hy : y = .int j) (hj : 0 < j) (h : ∀ r : Int, 0 ≤ r → r < j → Q (.int r) H) : rI (fun _ j => j ≠ 0) (fun i j => .int (i.fmod j)) x y H Q :=
  ⟨i, j, hx, hy, by omega, h _ (fmod_in hj).1 (fmod_in hj).2⟩
theorem mulR {i j : Int} (h : -(2 ^ 64) < j ∧ j < 2 ^ 64) : CMul i j := Or.inr h
theorem mulL {i j : Int} (h : -(2 ^ 64) < i ∧ i < 2 ^ 64) : CMul i j := Or.inl h
end Fo

namespace Fo
open PySem PySem.Spec PyProof.Rows L2 TL
/-! ### texts as lists of codes -/
abbrev Cs := List Nat
def tx (l : Cs) : Str := ⟨l.toArray⟩
theorem tl_tx (l : Cs) : tl (tx l) = l := rfl
theorem tx_tl (x : Str) : tx (tl x) = x := mk_tl x
theorem tx_len (l : Cs) : (tx l).length = l.length := by rw [len_tl, tl_tx]
theorem tx_inj {l m : Cs} (h : tx l = tx m) : l = m := by rw [← tl_tx l, h, tl_tx]
theorem tx_app (l m : Cs) : tx l ++ tx m = tx (l ++ m) := ext_tl (by rw [tl_append, tl_tx, tl_tx, tl_tx])
theorem tx_nil : (("" : String) : Str) = tx [] := by decide +kernel
theorem tx_one (c : Nat) : (⟨#[c]⟩ : Str) = tx [c] := rfl
theorem joinL_nil : ∀ l : List Cs, joinL [] l = l.flatten
  | [] => rfl
  | [a] => by simp [joinL]
  | a :: b :: r => by
    show a ++ ([] ++ joinL [] (b :: r)) = a ++ (b :: r).flatten
    rw [joinL_nil (b :: r), List.nil_append]
theorem join_tx (parts : List Cs) : Txt.join (("" : String) : Str) (parts.map tx) = tx parts.flatten := by
  refine ext_tl ?_
  rw [join_eq, tl_join, tx_nil, tl_tx, List.map_map, tl_tx]
  have e : parts.map (tl ∘ tx) = parts := by
    rw [show (tl ∘ tx) = (id : Cs → Cs) from funext fun l => rfl, List.map_id]
  rw [e, joinL_nil]
theorem flat_len (parts : List Cs) : ((parts.map tx).map (·.length)).sum = parts.flatten.length := by
  rw [List.length_flatten, List.map_map]
  have e : ((fun x : Str => x.length) ∘ tx) = List.length := funext fun l => tx_len l
  rw [e]
theorem flat_ones : ∀ t : Cs, (t.map fun c => [c]).flatten = t
  | [] => rfl
  | a :: r => by
    show [a] ++ (r.map fun c => [c]).flatten = a :: r
    rw [flat_ones r]
    rfl
theorem sgs_ones (t : Cs) : sgs t = ((t.map fun c => [c]).map tx).map V.str := by
  unfold sgs
  rw [List.map_map, List.map_map]
  rfl
theorem sgs_app (t : Cs) (k : Nat) : sgs t ++ [.str ⟨#[k]⟩] = sgs (t ++ [k]) := by
  unfold sgs
  rw [List.map_append]
  rfl
theorem idx_le : ∀ {l : Cs} {i : Nat} {hl : i < l.length} {c : Nat}, l[i] = c → ¬ i < l.idxOf c
  | a :: l, 0, _, c, h => by
    have e : a = c := h
    subst e
    rw [List.idxOf_cons_self]
    omega
  | a :: l, i + 1, hl, c, h => by
    have h2 : l[i]'(by simpa using hl) = c := by simpa using h
    rw [List.idxOf_cons]
    have ih := idx_le h2
    cases (a == c) with
    | true => simp
    | false => simp; omega
theorem occ_sign {l : Cs} {c : Nat} (h : c ∈ l) : ∃ rest, Builtin.Str.occurrences (tx l) ⟨#[c]⟩ 0 (tx l).length 1 = l.idxOf c :: rest := by
  have at_iff : ∀ i, StrLaws.At (tx l) ⟨#[c]⟩ (tx l).length i ↔ l[i]? = some c := fun i => StrLaws.subAt_one (tx l) c i
  have hi : l[l.idxOf c]? = some c := by
    have hlt := List.idxOf_lt_length_iff.mpr h
    rw [List.getElem?_eq_getElem hlt, List.getElem_idxOf hlt]
  rcases StrLaws.occ_head (tx l) ⟨#[c]⟩ 1 (Nat.le_refl 1) with ⟨_, hn⟩ | ⟨i, r, e, ha, hn⟩
  · exact absurd ((at_iff _).mpr hi) (hn _)
  · have h1 := (at_iff i).mp ha
    have h2 : ¬ l.idxOf c < i := fun z => hn _ z ((at_iff _).mpr hi)
    have h3 : ¬ i < l.idxOf c := fun z => by
      obtain ⟨hl, hg⟩ := List.getElem?_eq_some_iff.mp h1
      exact idx_le hg z
    have e2 : i = l.idxOf c := by omega
    exact ⟨r, by rw [e, e2]⟩
/-! ### signs drawn out of a pool -/
theorem erase_perm {α : Type} : ∀ {l : List α} {k : Nat} {y : α}, l[k]? = some y → (y :: l.eraseIdx k).Perm l
  | [], k, y, h => by simp at h
  | a :: l, 0, y, h => by
    have e : a = y := by simpa using h
    subst e
    exact List.Perm.refl _
  | a :: l, k + 1, y, h => by
    have h2 : l[k]? = some y := by simpa using h
    exact (List.Perm.swap a y _).trans (List.Perm.cons a (erase_perm h2))
theorem erase_map {α β : Type} (f : α → β) : ∀ (l : List α) (k : Nat), (l.map f).eraseIdx k = (l.eraseIdx k).map f
  | [], _ => rfl
  | _ :: _, 0 => rfl
  | a :: l, k + 1 => by
    show f a :: (l.map f).eraseIdx k = f a :: (l.eraseIdx k).map f
    rw [erase_map f l k]
def one (c : Nat) : Str := ⟨#[c]⟩
theorem one_of {t : Cs} {ys : List Str} (h : ys.Perm (t.map one)) : ∃ u : Cs, ys = u.map one ∧ u.Perm t := by
  have hb : ∀ l : Cs, (l.map one).map (fun x => (TL.tl x).headD 0) = l := fun l => by
    induction l with
    | nil => rfl
    | cons a r ih =>
      rw [List.map_cons, List.map_cons, ih]
      rfl
  refine ⟨ys.map fun x => (TL.tl x).headD 0, ?_, by have := h.map (fun x => (TL.tl x).headD 0); rw [hb] at this; exact this⟩
  have hm : ∀ x ∈ ys, ∃ c, x = one c := fun x hx => by
    obtain ⟨c, _, e⟩ := List.mem_map.mp (h.mem_iff.mp hx)
    exact ⟨c, e.symm⟩
  clear h
  induction ys with
  | nil => rfl
  | cons a r ih =>
    obtain ⟨c, rfl⟩ := hm a (List.mem_cons_self ..)
    rw [List.map_cons, List.map_cons, ← ih (fun x hx => hm x (List.mem_cons_of_mem _ hx))]
    rfl
theorem rise_of : ∀ (r : Cs) (p : Nat), risingS (one p) (r.map one) = true → (p :: r).Pairwise (· ≤ ·)
  | [], p, _ => List.pairwise_singleton _ _
  | x :: r, p, h => by
    have h' : (!ltCps [x] [p] && risingS (one x) (r.map one)) = true := h
    rw [Bool.and_eq_true] at h'
    have ih := rise_of r x h'.2
    have hx : p ≤ x := by
      have z := h'.1
      simp [ltCps] at z
      omega
    refine List.pairwise_cons.mpr ⟨fun y hy => ?_, ih⟩
    rcases List.mem_cons.mp hy with rfl | hy
    · exact hx
    · exact Nat.le_trans hx ((List.pairwise_cons.mp ih).1 y hy)
theorem sorted_of {u : Cs} (h : sortedS (u.map one) = true) : u.Pairwise (· ≤ ·) := by
  cases u with
  | nil => exact List.Pairwise.nil
  | cons a r => exact rise_of r a h
theorem strict_of {u : Cs} (h : u.Pairwise (· ≤ ·)) (n : u.Nodup) : u.Pairwise (· < ·) := by
  induction u with
  | nil => exact List.Pairwise.nil
  | cons a r ih =>
    obtain ⟨h1, h2⟩ := List.pairwise_cons.mp h
    obtain ⟨n1, n2⟩ := List.nodup_cons.mp n
    refine List.pairwise_cons.mpr ⟨fun y hy => ?_, ih h2 n2⟩
    have := h1 y hy
    have : a ≠ y := fun e => n1 (e ▸ hy)
    omega
def poolL : Cs := ((List.range 94).map (· + 33)).filter (· ≠ 37)
theorem poolL_len : poolL.length = 93 := by decide +kernel
theorem poolL_nodup : poolL.Nodup := by decide +kernel
theorem poolL_in : ∀ c ∈ poolL, 33 ≤ c ∧ c ≤ 126 := by decide +kernel
/-- a text of signs, unlike, sorted -/
structure Sgs (t : Cs) (n : Nat) : Prop where
  len : t.length = n
  up : t.Pairwise (· < ·)
  sub : ∀ c ∈ t, 33 ≤ c ∧ c ≤ 126
theorem sgs_of {t u rest : Cs} {n : Nat} (hp : (t ++ rest).Perm poolL) (hl : t.length = n) (hu : u.Perm t) (hs : sortedS (u.map one) = true) : Sgs u n := by
  have hn : (t ++ rest).Nodup := hp.nodup_iff.mpr poolL_nodup
  have hnu : u.Nodup := hu.nodup_iff.mpr (List.nodup_append.mp hn).1
  refine ⟨hu.length_eq.trans hl, strict_of (sorted_of hs) hnu, fun c hc => ?_⟩
  exact poolL_in c (hp.mem_iff.mp (List.mem_append_left _ (hu.mem_iff.mp hc)))
/-! ### data of tuples -/
mutual
inductive Tv (H : Hp) : V → PyData → Prop
  | non : Tv H .non .none
  | bl (b : Bool) : Tv H (.bl b) (.bool b)
  | int (i : Int) : Tv H (.int i) (.int i)
  | str (x : Str) : Tv H (.str x) (.str x)
  | tup {a : Addr} {xs : List V} {ds : List PyData} : H a = some (.tup xs) → TvA H xs ds → Tv H (.ref a) (.tuple ds)
inductive TvA (H : Hp) : List V → List PyData → Prop
  | nil : TvA H [] []
  | cons {v : V} {vs : List V} {d : PyData} {ds : List PyData} : Tv H v d → TvA H vs ds → TvA H (v :: vs) (d :: ds)
end
mutual
theorem Tv.ts {H H' : Hp} (t : TS H H') : ∀ (d : PyData) (v : V), Tv H v d → Tv H' v d
  | .none, _, h => by cases h; exact .non
  | .bool b, _, h => by cases h; exact .bl b
  | .int i, _, h => by cases h; exact .int i
  | .str x, _, h => by cases h; exact .str x
  | .tuple ds, _, h => by
    cases h with
    | tup h1 h2 => exact .tup (t _ _ h1) (TvA.ts t ds _ h2)
  | .list _, _, h => by cases h
  | .dict _, _, h => by cases h
theorem TvA.ts {H H' : Hp} (t : TS H H') : ∀ (ds : List PyData) (vs : List V), TvA H vs ds → TvA H' vs ds
  | [], _, h => by cases h; exact .nil
  | d :: ds, _, h => by
    cases h with
    | cons h1 h2 => exact .cons (Tv.ts t d _ h1) (TvA.ts t ds _ h2)
end
mutual
theorem Tv.dp {K : PySem.W.Frag} {H : Hp} : ∀ (d : PyData) (v : V), Tv H v d → Dp K H v d
  | .none, _, h => by cases h; exact .non
  | .bool b, _, h => by cases h; exact .bl b
  | .int i, _, h => by cases h; exact .int i
  | .str x, _, h => by cases h; exact .str x
  | .tuple ds, _, h => by
    cases h with
    | tup h1 h2 => exact .tup (SqT.of h1) (TvA.dp ds _ h2)
  | .list _, _, h => by cases h
  | .dict _, _, h => by cases h
theorem TvA.dp {K : PySem.W.Frag} {H : Hp} : ∀ (ds : List PyData) (vs : List V), TvA H vs ds → DpAll K H vs ds
  | [], _, h => by cases h; exact .nil
  | d :: ds, _, h => by
    cases h with
    | cons h1 h2 => exact .cons (Tv.dp d _ h1) (TvA.dp ds _ h2)
end
theorem Tv.mv {H H' : Hp} {d : PyData} {v : V} (h : Tv H v d) (t : TS H H') : Tv H' v d := Tv.ts t d v h
theorem TvA.mv {H H' : Hp} {ds : List PyData} {vs : List V} (h : TvA H vs ds) (t : TS H H') : TvA H' vs ds := TvA.ts t ds vs h
theorem Tv.tupI {H : Hp} {v : V} {ds : List PyData} (h : Tv H v (.tuple ds)) : ∃ a xs, v = .ref a ∧ H a = some (.tup xs) ∧ TvA H xs ds := by
  cases h with
  | tup h1 h2 => exact ⟨_, _, rfl, h1, h2⟩
theorem Tv.intI {H : Hp} {v : V} {i : Int} (h : Tv H v (.int i)) : v = .int i := by cases h; rfl
theorem Tv.strI {H : Hp} {v : V} {x : Str} (h : Tv H v (.str x)) : v = .str x := by cases h; rfl
theorem Tv.nonI {H : Hp} {v : V} (h : Tv H v .none) : v = .non := by cases h; rfl
theorem Tv.blI {H : Hp} {v : V} {b : Bool} (h : Tv H v (.bool b)) : v = .bl b := by cases h; rfl
theorem TvA.len {H : Hp} : ∀ {ds : List PyData} {vs : List V}, TvA H vs ds → vs.length = ds.length
  | [], _, h => by cases h; rfl
  | d :: ds, _, h => by
    cases h with
    | cons h1 h2 => rw [List.length_cons, List.length_cons, TvA.len h2]
theorem TvA.get {H : Hp} : ∀ {ds : List PyData} {vs : List V} {i : Nat} {d : PyData}, TvA H vs ds → ds[i]? = some d → ∃ x, vs[i]? = some x ∧ Tv H x d
  | [], _, i, d, h, e => by simp at e
  | d0 :: ds, _, i, d, h, e => by
    cases h with
    | cons h1 h2 =>
      cases i with
      | zero => simp at e; subst e; exact ⟨_, rfl, h1⟩
      | succ i =>
        obtain ⟨x, e1, e2⟩ := TvA.get (i := i) h2 (by simpa using e)
        exact ⟨x, by simpa using e1, e2⟩
theorem TvA.nilI {H : Hp} {vs : List V} (h : TvA H vs []) : vs = [] := by cases h; rfl
theorem TvA.consI {H : Hp} {vs : List V} {d : PyData} {ds : List PyData} (h : TvA H vs (d :: ds)) : ∃ x r, vs = x :: r ∧ Tv H x d ∧ TvA H r ds := by
  cases h with
  | cons h1 h2 => exact ⟨_, _, rfl, h1, h2⟩
theorem TvA.snoc {H : Hp} : ∀ {ds : List PyData} {vs : List V} {d : PyData} {v : V}, TvA H vs ds → Tv H v d → TvA H (vs ++ [v]) (ds ++ [d])
  | [], _, d, v, h, hv => by cases h; exact .cons hv .nil
  | d0 :: ds, _, d, v, h, hv => by
    cases h with
    | cons h1 h2 => exact .cons h1 (TvA.snoc h2 hv)
theorem TvA.strs {H : Hp} : ∀ (xs : List Str), TvA H (xs.map V.str) (xs.map PyData.str)
  | [] => .nil
  | x :: r => .cons (.str x) (TvA.strs r)
theorem TvA.app {H : Hp} : ∀ {ds es : List PyData} {vs ws : List V}, TvA H vs ds → TvA H ws es → TvA H (vs ++ ws) (ds ++ es)
  | [], _, _, _, h, h' => by cases h; exact h'
  | d0 :: ds, _, _, _, h, h' => by
    cases h with
    | cons h1 h2 => exact .cons h1 (TvA.app h2 h')
theorem TvA.take {H : Hp} : ∀ {ds : List PyData} {vs : List V} (n : Nat), TvA H vs ds → TvA H (vs.take n) (ds.take n)
  | _, _, 0, _ => .nil
  | [], _, n + 1, h => by cases h; exact .nil
  | d0 :: ds, _, n + 1, h => by
    cases h with
    | cons h1 h2 => exact .cons h1 (TvA.take n h2)
theorem TvA.drop {H : Hp} : ∀ {ds : List PyData} {vs : List V} (n : Nat), TvA H vs ds → TvA H (vs.drop n) (ds.drop n)
  | _, _, 0, h => h
  | [], _, n + 1, h => by cases h; exact .nil
  | d0 :: ds, _, n + 1, h => by
    cases h with
    | cons h1 h2 => exact TvA.drop n h2
/-! ### data of tuples and lists -/
/-- a key as data -/
def kD : Key → PyData
  | .inl i => .int i
  | .inr x => .str x
mutual
inductive Lv (H : Hp) : V → PyData → Prop
  | non : Lv H .non .none
  | bl (b : Bool) : Lv H (.bl b) (.bool b)
  | int (i : Int) : Lv H (.int i) (.int i)
  | str (x : Str) : Lv H (.str x) (.str x)
  | tup {a : Addr} {xs : List V} {ds : List PyData} : H a = some (.tup xs) → LvA H xs ds → Lv H (.ref a) (.tuple ds)
  | lst {a : Addr} {xs : List V} {ds : List PyData} : H a = some (.lst xs) → LvA H xs ds → Lv H (.ref a) (.list ds)
  | dct {a : Addr} {kvs : List (Key × V)} {es : List (PyData × PyData)} : H a = some (.dK kvs) → LvK H kvs es → Lv H (.ref a) (.dict es)
inductive LvA (H : Hp) : List V → List PyData → Prop
  | nil : LvA H [] []
  | cons {v : V} {vs : List V} {d : PyData} {ds : List PyData} : Lv H v d → LvA H vs ds → LvA H (v :: vs) (d :: ds)
inductive LvK (H : Hp) : List (Key × V) → List (PyData × PyData) → Prop
  | nil : LvK H [] []
  | cons {k : Key} {v : V} {kvs : List (Key × V)} {d : PyData} {es : List (PyData × PyData)} : Lv H v d → LvK H kvs es → LvK H ((k, v) :: kvs) ((kD k, d) :: es)
end
mutual
theorem Lv.sm {H H' : Hp} (t : Same H H') : ∀ (d : PyData) (v : V), Lv H v d → Lv H' v d
  | .none, _, h => by cases h; exact .non
  | .bool b, _, h => by cases h; exact .bl b
  | .int i, _, h => by cases h; exact .int i
  | .str x, _, h => by cases h; exact .str x
  | .tuple ds, _, h => by
    cases h with
    | tup h1 h2 => exact .tup (t _ _ h1) (LvA.sm t ds _ h2)
  | .list ds, _, h => by
    cases h with
    | lst h1 h2 => exact .lst (t _ _ h1) (LvA.sm t ds _ h2)
  | .dict es, _, h => by
    cases h with
    | dct h1 h2 => exact .dct (t _ _ h1) (LvK.sm t es _ h2)
theorem LvA.sm {H H' : Hp} (t : Same H H') : ∀ (ds : List PyData) (vs : List V), LvA H vs ds → LvA H' vs ds
  | [], _, h => by cases h; exact .nil
  | d :: ds, _, h => by
    cases h with
    | cons h1 h2 => exact .cons (Lv.sm t d _ h1) (LvA.sm t ds _ h2)
theorem LvK.sm {H H' : Hp} (t : Same H H') : ∀ (es : List (PyData × PyData)) (kvs : List (Key × V)), LvK H kvs es → LvK H' kvs es
  | [], _, h => by cases h; exact .nil
  | (k, d) :: es, _, h => by
    cases h with
    | cons h1 h2 => exact .cons (Lv.sm t d _ h1) (LvK.sm t es _ h2)
end
mutual
theorem Tv.lv {H : Hp} : ∀ (d : PyData) (v : V), Tv H v d → Lv H v d
  | .none, _, h => by cases h; exact .non
  | .bool b, _, h => by cases h; exact .bl b
  | .int i, _, h => by cases h; exact .int i
  | .str x, _, h => by cases h; exact .str x
  | .tuple ds, _, h => by
    cases h with
    | tup h1 h2 => exact .tup h1 (TvA.lv ds _ h2)
  | .list _, _, h => by cases h
  | .dict _, _, h => by cases h
theorem TvA.lv {H : Hp} : ∀ (ds : List PyData) (vs : List V), TvA H vs ds → LvA H vs ds
  | [], _, h => by cases h; exact .nil
  | d :: ds, _, h => by
    cases h with
    | cons h1 h2 => exact .cons (Tv.lv d _ h1) (TvA.lv ds _ h2)
end
theorem LvA.len {H : Hp} : ∀ {ds : List PyData} {vs : List V}, LvA H vs ds → vs.length = ds.length
  | [], _, h => by cases h; rfl
  | d :: ds, _, h => by
    cases h with
    | cons h1 h2 => rw [List.length_cons, List.length_cons, LvA.len h2]
theorem LvA.at {H : Hp} : ∀ {ds : List PyData} {vs : List V} {i : Nat} {x : V}, LvA H vs ds → vs[i]? = some x → ∃ d, ds[i]? = some d ∧ Lv H x d
  | [], _, i, x, h, e => by cases h; simp at e
  | d0 :: ds, _, i, x, h, e => by
    cases h with
    | cons h1 h2 =>
      cases i with
      | zero => simp at e; subst e; exact ⟨_, rfl, h1⟩
      | succ i =>
        obtain ⟨d, e1, e2⟩ := LvA.at (i := i) h2 (by simpa using e)
        exact ⟨d, by simpa using e1, e2⟩
/-- how deep a data value is: within n -/
def SD : Nat → PyData → Prop
  | 0, _ => False
  | _ + 1, .none => True
  | _ + 1, .bool _ => True
  | _ + 1, .int _ => True
  | _ + 1, .str _ => True
  | _ + 1, .dict _ => False
  | n + 1, .tuple ds => ds.length ≤ 50000 ∧ ∀ d ∈ ds, SD n d
  | n + 1, .list ds => ds.length ≤ 50000 ∧ ∀ d ∈ ds, SD n d
/-- isinstance of one class, of two -/
theorem isi1 {K : PySem.W.Frag} {H : Hp} {x : V} {T S : String} {b : Bool} {Q : VK} (ty : TyX K H x (.type T)) (k : kitB T S = some b) (q : Q (.bl b) H) : rIsiG K [x, .ty S] H Q :=
  .inl ⟨x, .ty S, .type T, .type S, b, rfl, .ty S, ty, kit_ty k, q⟩
theorem isi2 {K : PySem.W.Frag} {H : Hp} {x : V} {T S S' : String} {b b' : Bool} {tp : Addr} {Q : VK} (e : H tp = some (.tup [.ty S, .ty S'])) (ty : TyX K H x (.type T)) (k : kitB T S = some b) (k' : kitB T S' = some b') (q : Q (.bl (b || b')) H) : rIsiG K [x, .ref tp] H Q :=
  .inr ⟨x, tp, [.ty S, .ty S'], .type T, [.type S, .type S'], b || b', rfl, e, .cons (.ty S) (.cons (.ty S') .nil), ty,
    kitAny_cons (kit_ty k) (fun h => kitAny_cons (kit_ty k') (fun h' => by rw [h, h']; exact kitAny_nil) (fun h' => by rw [h']; exact Bool.or_true _)) (fun h => by rw [h]; rfl), q⟩
theorem notin_true : ∀ n : Nat, inV (.bl false) (List.replicate n (.bl true)) = false
  | 0 => rfl
  | n + 1 => by
    show (eqV (.bl true) (.bl false) || inV (.bl false) (List.replicate n (.bl true))) = false
    rw [notin_true n]
    rfl
theorem flat_true : ∀ n : Nat, (List.replicate n (V.bl true)).all flatV = true
  | 0 => rfl
  | n + 1 => by
    show (flatV (.bl true) && (List.replicate n (V.bl true)).all flatV) = true
    rw [flat_true n]
    rfl
/-! ### readers -/
structure Sta where
  ways : List (Nat × Cs)
  fin : Option Cs
  deriving DecidableEq
structure Rdr where
  reads : Cs
  tells : Cs
  states : List Sta
  deriving DecidableEq
instance : Inhabited Sta := ⟨⟨[], none⟩⟩
def dO : Option Cs → PyData
  | none => .none
  | some t => .str (tx t)
def dW (w : Nat × Cs) : PyData := .tuple [.int w.1, .str (tx w.2)]
def dS (s : Sta) : PyData := .tuple [.tuple (s.ways.map dW), dO s.fin]
def dR (r : Rdr) : PyData := .tuple [.str (tx r.reads), .str (tx r.tells), .tuple (r.states.map dS)]
/-- what reading it asks, no told text longer than B -/
structure Rdr.Ok (r : Rdr) (B : Nat) : Prop where
  ne : 0 < r.states.length
  ways : ∀ s ∈ r.states, s.ways.length = r.reads.length
  there : ∀ s ∈ r.states, ∀ w ∈ s.ways, w.1 < r.states.length ∧ w.2.length ≤ B
  fins : ∀ s ∈ r.states, ∀ t, s.fin = some t → t.length ≤ B
def Rdr.sta (r : Rdr) (s : Nat) : Sta := r.states.getD s default
def Rdr.go (r : Rdr) (s : Nat) (c : Nat) : Nat × Cs := (r.sta s).ways.getD (r.reads.idxOf c) (0, [])
def Rdr.run (r : Rdr) : Nat → Cs → Nat × Cs
  | s, [] => (s, [])
  | s, c :: cs => ((r.run (r.go s c).1 cs).1, (r.go s c).2 ++ (r.run (r.go s c).1 cs).2)
theorem Rdr.run_app (r : Rdr) : ∀ (l m : Cs) (s : Nat), r.run s (l ++ m) = ((r.run (r.run s l).1 m).1, (r.run s l).2 ++ (r.run (r.run s l).1 m).2)
  | [], m, s => rfl
  | c :: l, m, s => by
    show ((r.run (r.go s c).1 (l ++ m)).1, (r.go s c).2 ++ (r.run (r.go s c).1 (l ++ m)).2) = _
    rw [Rdr.run_app r l m]
    show _ = (_, ((r.go s c).2 ++ (r.run (r.go s c).1 l).2) ++ _)
    rw [List.append_assoc]
    rfl
theorem Rdr.run_one (r : Rdr) (s c : Nat) : r.run s [c] = r.go s c := by
  show ((r.go s c).1, (r.go s c).2 ++ []) = _
  rw [List.append_nil]
theorem Rdr.run_snoc (r : Rdr) (l : Cs) (c s : Nat) : r.run s (l ++ [c]) = ((r.go (r.run s l).1 c).1, (r.run s l).2 ++ (r.go (r.run s l).1 c).2) := by
  rw [Rdr.run_app, Rdr.run_one]
theorem Rdr.sta_at {r : Rdr} {s : Nat} (h : s < r.states.length) : r.states[s]? = some (r.sta s) := by
  unfold Rdr.sta
  rw [List.getD_eq_getElem?_getD, List.getElem?_eq_getElem h]
  rfl
theorem Rdr.sta_mem {r : Rdr} {s : Nat} (h : s < r.states.length) : r.sta s ∈ r.states := List.mem_of_getElem? (Rdr.sta_at h)
theorem Rdr.go_at {r : Rdr} {B s c : Nat} (o : r.Ok B) (h : s < r.states.length) (hc : c ∈ r.reads) : (r.sta s).ways[r.reads.idxOf c]? = some (r.go s c) := by
  have hl := o.ways _ (Rdr.sta_mem h)
  have hi := List.idxOf_lt_length_iff.mpr hc
  unfold Rdr.go
  rw [List.getD_eq_getElem?_getD, List.getElem?_eq_getElem (by omega)]
  rfl
theorem Rdr.go_ok {r : Rdr} {B s c : Nat} (o : r.Ok B) (h : s < r.states.length) (hc : c ∈ r.reads) : (r.go s c).1 < r.states.length ∧ (r.go s c).2.length ≤ B :=
  o.there _ (Rdr.sta_mem h) _ (List.mem_of_getElem? (Rdr.go_at o h hc))
theorem Rdr.run_ok {r : Rdr} {B : Nat} (o : r.Ok B) : ∀ (l : Cs) (s : Nat), s < r.states.length → (∀ c ∈ l, c ∈ r.reads) → (r.run s l).1 < r.states.length ∧ (r.run s l).2.length ≤ l.length * B
  | [], s, h, _ => ⟨h, Nat.zero_le _⟩
  | c :: l, s, h, hl => by
    have g := Rdr.go_ok o h (hl c (List.mem_cons_self ..))
    have q := Rdr.run_ok o l _ g.1 (fun x hx => hl x (List.mem_cons_of_mem _ hx))
    refine ⟨q.1, ?_⟩
    show ((r.go s c).2 ++ (r.run (r.go s c).1 l).2).length ≤ (l.length + 1) * B
    rw [List.length_append, Nat.succ_mul]
    omega
/-- the telling -/
def Rdr.telling (r : Rdr) (l : Cs) : Option Cs := (r.sta (r.run 0 l).1).fin.map ((r.run 0 l).2 ++ ·)
/-- a state as the document has it: R ways, below N, told at most B signs of T, an end of at most E -/
structure StaVal (R N B E : Nat) (T : Cs) (s : Sta) : Prop where
  len : s.ways.length = R
  way : ∀ w ∈ s.ways, w.1 < N ∧ w.2.length ≤ B ∧ ∀ c ∈ w.2, c ∈ T
  fin : ∀ t, s.fin = some t → t.length ≤ E ∧ ∀ c ∈ t, c ∈ T
structure Rdr.Val (r : Rdr) (B E : Nat) : Prop where
  ne : 0 < r.states.length
  sta : ∀ s ∈ r.states, StaVal r.reads.length r.states.length B E r.tells s
theorem Rdr.Val.ok {r : Rdr} {B E M : Nat} (v : r.Val B E) (hB : B ≤ M) (hE : E ≤ M) : r.Ok M :=
  ⟨v.ne, fun s hs => (v.sta s hs).len, fun s hs w hw => let z := (v.sta s hs).way w hw; ⟨z.1, Nat.le_trans z.2.1 hB⟩, fun s hs t ht => Nat.le_trans ((v.sta s hs).fin t ht).1 hE⟩
theorem succ_cost {m k C : Nat} (h : k < m) : (m - k) * C = (m - (k + 1)) * C + C := by
  rw [show m - k = (m - (k + 1)) + 1 by omega, Nat.succ_mul]
theorem end_of {H : Hp} {v : V} {t T : Cs} {E : Nat} (hv : v ∈ [V.str (tx t), V.str (("" : String) : Str), V.str (("" : String) : Str), V.non]) (ht : t.length ≤ E) (hs : ∀ c ∈ t, c ∈ T) :
    ∃ f : Option Cs, Tv H v (dO f) ∧ ∀ u, f = some u → u.length ≤ E ∧ ∀ c ∈ u, c ∈ T := by
  have h0 : ∃ f : Option Cs, Tv H (V.str (("" : String) : Str)) (dO f) ∧ ∀ u, f = some u → u.length ≤ E ∧ ∀ c ∈ u, c ∈ T := by
    refine ⟨some [], ?_, fun u e => ?_⟩
    · rw [tx_nil]
      exact .str _
    · cases e
      exact ⟨Nat.zero_le _, fun _ h => nomatch h⟩
  rcases List.mem_cons.mp hv with rfl | hv
  · exact ⟨some t, .str _, fun u e => by cases e; exact ⟨ht, hs⟩⟩
  rcases List.mem_cons.mp hv with rfl | hv
  · exact h0
  rcases List.mem_cons.mp hv with rfl | hv
  · exact h0
  · rw [List.mem_singleton.mp hv]
    exact ⟨none, .non, fun u e => nomatch e⟩
theorem min_in {r : Int} (h : 0 ≤ r) : 0 ≤ (if r < 3 then r else 3) ∧ (if r < 3 then r else 3) < 4 := by
  by_cases c : r < 3
  · rw [if_pos c]
    omega
  · rw [if_neg c]
    omega
/-- a data value is handed back -/
def Ret (d : PyData) (H : Hp) (Q : VK) : Prop := ∀ x H', Same H H' → Tv H' x d → Q x H'
theorem Tv.dR {H : Hp} {v : V} {r : Rdr} (h : Tv H v (dR r)) : ∃ a ss xs, v = .ref a ∧ H a = some (.tup [.str (tx r.reads), .str (tx r.tells), .ref ss]) ∧ H ss = some (.tup xs) ∧ TvA H xs (r.states.map dS) := by
  obtain ⟨a, xs, rfl, ha, hA⟩ := h.tupI
  obtain ⟨x1, r1, rfl, h1, hA⟩ := hA.consI
  obtain ⟨x2, r2, rfl, h2, hA⟩ := hA.consI
  obtain ⟨x3, r3, rfl, h3, hA⟩ := hA.consI
  cases hA.nilI
  cases h1.strI
  cases h2.strI
  obtain ⟨ss, ys, rfl, hs, hB⟩ := h3.tupI
  exact ⟨a, ss, ys, rfl, ha, hs, hB⟩
theorem Tv.dS {H : Hp} {v : V} {s : Sta} (h : Tv H v (dS s)) : ∃ a ws xs e, v = .ref a ∧ H a = some (.tup [.ref ws, e]) ∧ H ws = some (.tup xs) ∧ TvA H xs (s.ways.map dW) ∧ Tv H e (dO s.fin) := by
  obtain ⟨a, xs, rfl, ha, hA⟩ := h.tupI
  obtain ⟨x1, r1, rfl, h1, hA⟩ := hA.consI
  obtain ⟨x2, r2, rfl, h2, hA⟩ := hA.consI
  cases hA.nilI
  obtain ⟨ws, ys, rfl, hs, hB⟩ := h1.tupI
  exact ⟨a, ws, ys, x2, rfl, ha, hs, hB, h2⟩
theorem Tv.dW {H : Hp} {v : V} {w : Nat × Cs} (h : Tv H v (dW w)) : ∃ a, v = .ref a ∧ H a = some (.tup [.int w.1, .str (tx w.2)]) := by
  obtain ⟨a, xs, rfl, ha, hA⟩ := h.tupI
  obtain ⟨x1, r1, rfl, h1, hA⟩ := hA.consI
  obtain ⟨x2, r2, rfl, h2, hA⟩ := hA.consI
  cases hA.nilI
  cases h1.intI
  cases h2.strI
  exact ⟨a, rfl, ha⟩
theorem Tv.mkW {H : Hp} {a : Addr} {w : Nat × Cs} (h : H a = some (.tup [.int w.1, .str (tx w.2)])) : Tv H (.ref a) (Fo.dW w) := .tup h (.cons (.int _) (.cons (.str _) .nil))
theorem dS_at {H : Hp} {xs : List V} {r : Rdr} {s : Nat} (h : TvA H xs (r.states.map Fo.dS)) (hs : s < r.states.length) : ∃ x, xs[s]? = some x ∧ Tv H x (Fo.dS (r.sta s)) :=
  h.get (by rw [List.getElem?_map, Rdr.sta_at hs]; rfl)
theorem dW_at {H : Hp} {xs : List V} {r : Rdr} {B s c : Nat} (o : r.Ok B) (h : TvA H xs ((r.sta s).ways.map Fo.dW)) (hs : s < r.states.length) (hc : c ∈ r.reads) : ∃ x, xs[r.reads.idxOf c]? = some x ∧ Tv H x (Fo.dW (r.go s c)) :=
  h.get (by rw [List.getElem?_map, Rdr.go_at o hs hc]; rfl)
theorem take_snoc {α : Type} {l : List α} {i : Nat} {x : α} (h : l[i]? = some x) : l.take (i + 1) = l.take i ++ [x] := by
  rw [List.take_add_one, h]
  rfl
theorem tx_at {l : Cs} {i : Nat} {c : Nat} (h : (tx l).cps[i]? = some c) : l[i]? = some c := by
  unfold tx at h
  simpa using h
theorem tx_size (l : Cs) : (tx l).cps.size = l.length := by
  unfold tx
  simp
end Fo

namespace Fo
open PySem PySem.Spec PyProof.Rows L2
/-! ### what can be shown as a text -/
structure RP (d : PyData) (k M : Nat) : Prop where
  lay : d.canLay0 = true
  dep : d.depth ≤ k
  wt : d.weight ≤ M
  short : d.intsShort 13 = true
  show' : d.showable = true
theorem RP.mono {d : PyData} {k M k' M' : Nat} (h : RP d k M) (hk : k ≤ k') (hM : M ≤ M') : RP d k' M' := ⟨h.lay, Nat.le_trans h.dep hk, Nat.le_trans h.wt hM, h.short, h.show'⟩
theorem RP.none {k M : Nat} : RP .none k M := ⟨by simp [PyData.canLay0], by simp [PyData.depth], by simp [PyData.weight], by simp [PyData.intsShort], by simp [PyData.showable]⟩
theorem RP.str {l : Cs} {k M : Nat} (h : ∀ c ∈ l, c < 0x110000) (hl : l.length ≤ M) : RP (.str (tx l)) k M := by
  refine ⟨?_, by simp [PyData.depth], ?_, by simp [PyData.intsShort], by simp [PyData.showable]⟩
  · simp only [PyData.canLay0, PyData.strOk]
    rw [← Array.all_toList]
    exact List.all_eq_true.mpr fun c hc => decide_eq_true (h c hc)
  · show (tx l).cps.size ≤ M
    rw [tx_size]
    exact hl
theorem all_map0 {α : Type} {f : α → PyData} : ∀ {l : List α} {k M : Nat}, (∀ x ∈ l, RP (f x) k M) → PyData.canLayAll0 (l.map f) = true ∧ PyData.depthAll (l.map f) ≤ k ∧ PyData.weightAll (l.map f) ≤ l.length * (M + 1) ∧ PyData.intsShortAll 13 (l.map f) = true ∧ PyData.showableAll (l.map f) = true
  | [], k, M, _ => ⟨by simp [PyData.canLayAll0], by simp [PyData.depthAll], by simp [PyData.weightAll], by simp [PyData.intsShortAll], by simp [PyData.showableAll]⟩
  | x :: r, k, M, h => by
    have hx := h x (List.mem_cons_self ..)
    obtain ⟨a1, a2, a3, a4, a5⟩ := all_map0 (f := f) (l := r) fun y hy => h y (List.mem_cons_of_mem _ hy)
    rw [List.map_cons]
    refine ⟨?_, ?_, ?_, ?_, ?_⟩
    · simp only [PyData.canLayAll0, hx.lay, a1, Bool.and_self]
    · simp only [PyData.depthAll]
      have := hx.dep
      omega
    · simp only [PyData.weightAll, List.length_cons, Nat.succ_mul]
      have := hx.wt
      omega
    · simp only [PyData.intsShortAll, hx.short, a4, Bool.and_self]
    · simp only [PyData.showableAll, hx.show', a5, Bool.and_self]
theorem RP.tupM {α : Type} {f : α → PyData} {l : List α} {k M : Nat} (h : ∀ x ∈ l, RP (f x) k M) : RP (.tuple (l.map f)) (k + 1) (l.length * (M + 1)) := by
  obtain ⟨a1, a2, a3, a4, a5⟩ := all_map0 h
  exact ⟨by simp only [PyData.canLay0]; exact a1, by simp only [PyData.depth]; omega, by simp only [PyData.weight]; exact a3, by simp only [PyData.intsShort]; exact a4, by simp only [PyData.showable]; exact a5⟩
theorem RP.tup {ds : List PyData} {k M : Nat} (h : ∀ x ∈ ds, RP x k M) : RP (.tuple ds) (k + 1) (ds.length * (M + 1)) := by
  have := RP.tupM (f := id) h
  rw [List.map_id] at this
  exact this
theorem RP.nat {n k : Nat} (h : n < 1000) : RP (.int (n : Int)) k 64 := by
  have hl : (TL.tl (Str.ofString (toString ((n : Nat) : Int)))).length ≤ 3 := by
    rw [TL.tl_num]
    exact TL.numL_len (k := 3) (by decide) h
  have h2 : ((n : Int).natAbs).log2 ≤ 10 := by
    have e : (n : Int).natAbs = n := rfl
    rw [e]
    by_cases h0 : n = 0
    · subst h0
      decide
    · exact Nat.le_of_lt_succ ((Nat.log2_lt h0).mpr (by omega))
  refine ⟨by simp [PyData.canLay0], by simp [PyData.depth], ?_, ?_, ?_⟩
  · simp only [PyData.weight]
    split
    · omega
    · omega
  · simp only [PyData.intsShort]
    refine decide_eq_true ?_
    show (Str.ofString (toString ((n : Nat) : Int))).length ≤ 13
    rw [TL.len_tl]
    omega
  · simp only [PyData.showable]
    exact decide_eq_true (by omega)
theorem mem2 {α : Type} {P : α → Prop} {a b : α} (ha : P a) (hb : P b) : ∀ x ∈ [a, b], P x := fun x hx => by
  rcases List.mem_cons.mp hx with rfl | hx
  · exact ha
  · rw [List.mem_singleton.mp hx]
    exact hb
theorem mem3 {α : Type} {P : α → Prop} {a b c : α} (ha : P a) (hb : P b) (hc : P c) : ∀ x ∈ [a, b, c], P x := fun x hx => by
  rcases List.mem_cons.mp hx with rfl | hx
  · exact ha
  · exact mem2 hb hc x hx
theorem RP.dO {f : Option Cs} {k M : Nat} (h : ∀ t, f = some t → t.length ≤ M ∧ ∀ c ∈ t, c < 0x110000) : RP (Fo.dO f) k M := by
  cases f with
  | none => exact .none
  | some t => exact .str (h t rfl).2 (h t rfl).1
theorem RP.dR {r : Rdr} {B E : Nat} (v : r.Val B E) (hB : B ≤ 60) (hE : E ≤ 60) (hr : ∀ c ∈ r.reads, c < 0x110000) (ht : ∀ c ∈ r.tells, c < 0x110000) (lr : r.reads.length ≤ 20) (lt : r.tells.length ≤ 20) (ln : r.states.length ≤ 20) : RP (Fo.dR r) 60 1000000 := by
  have w1 : ∀ s ∈ r.states, RP (.tuple (s.ways.map Fo.dW)) 2 2700 := fun s hs => by
    have vs := v.sta s hs
    refine (RP.tupM (k := 1) (M := 130) (fun w hw => ?_)).mono (Nat.le_refl _) ?_
    · have z := vs.way w hw
      exact (RP.tup (k := 0) (M := 64) (mem2 (RP.nat (by omega)) (.str (fun c hc => ht c (z.2.2 c hc)) (by omega)))).mono (Nat.le_refl _) (by show 2 * (64 + 1) ≤ 130; decide)
    · rw [vs.len]
      omega
  have w2 : ∀ s ∈ r.states, RP (Fo.dS s) 3 5402 := fun s hs => by
    have vs := v.sta s hs
    exact (RP.tup (k := 2) (M := 2700) (mem2 (w1 s hs) (RP.dO fun t h => ⟨Nat.le_trans (vs.fin t h).1 (by omega), fun c hc => ht c ((vs.fin t h).2 c hc)⟩))).mono (Nat.le_refl _) (by show 2 * (2700 + 1) ≤ 5402; decide)
  have w3 := (RP.tupM w2).mono (k' := 4) (M' := 110000) (Nat.le_refl _) (by omega)
  exact (RP.tup (k := 4) (M := 110000) (mem3 (.str hr (by omega)) (.str ht (by omega)) w3)).mono (by decide) (by show 3 * (110000 + 1) ≤ 1000000; decide)
/-! ### repr of data, where nothing is being shown -/
def rRepr (K : PySem.W.Frag) : List V → Hp → VK → Prop := fun xs H Q => ∃ (a : Addr) (d : PyData), xs = [.ref a] ∧ Dp K H (.ref a) d ∧ RP d 60 1000000 ∧ Q (.str d.shown) H
section
variable {X : Cx}
theorem call_reprD (K : PySem.W.Frag) (e : X.K = K) {k : Nat} (hg : X.A.guards = some []) (hr : Room k X.A) : CallR X (.builtin "repr") (rRepr K) := by
  subst e
  intro pins s σ H xs us Q I r h
  obtain ⟨a, d, rfl, hd, rp, q⟩ := h
  rw [Vals.ref1 r]
  obtain ⟨as, rd⟩ := Dp.reads I d _ (.ref a) hd rfl
  have hl : d.layable0 = true := by
    have h1 := rp.lay
    have h2 : decide (d.depth ≤ 64) = true := decide_eq_true (Nat.le_trans rp.dep (by decide))
    have h3 : decide (d.weight ≤ 2 ^ 20) = true := decide_eq_true (Nat.le_trans rp.wt (by decide))
    show (d.canLay0 && decide (d.depth ≤ 64) && decide (d.weight ≤ 2 ^ 20)) = true
    rw [h1, h2, h3]
    rfl
  refine repr_of_reads' rd rp.show' (PyData.noDict_hsm (PyData.hasDict_of_layable hl)) hg (by have := hr.un; have := rp.dep; omega) (fun _ _ z => z) (fun h' u tk hk => ?_) (Nat.le_trans (shown_le13 hl rp.short) (by rw [sizeLine_eq]; decide))
  exact ⟨.str d.shown, H, I.kept hk, ⟨_, rfl⟩, q⟩
end
/-! ### a def that is asked where nothing is being shown -/
structure FnG (P : Program) (w : World) (K : PySem.W.Frag) (mg : Str → Option Value) (base : Heap) (CX : CXT) (k : Nat) (f : Addr) (fd : FuncData) (ps : List Str) (sp : Sp) : Prop where
  len : ∀ vs H Q E, sp vs H Q E → vs.length = ps.length
  run : ∀ (A : Around) (hg : A.guards = some []) (outer : List Env) (s : Shared) (H : Hp) (args : Args) (us : List Value) (vs : List V) (Q : VK) (E : XK), Room k A → Env0 P w K mg base A outer s H →
    BindsTo s fd args (ps.zip us) → Vals vs us → sp vs H Q E → codeAny (model P w) A (.call (.ref f) args) (CR CX outer P w H s Q E) s
section
variable {P : Program} {w : World} {K : PySem.W.Frag} {mg : Str → Option Value} {base : Heap}
/-- by its body -/
theorem fnG {x qual : Str} {st : Stmt} {f : Addr} {fd : FuncData} {N ps : List Str} {k : Nat} {sp : Sp} (F : Fun K x qual st f fd) (S : FnScope N ps (defScope st)) (len : ∀ vs H Q E, sp vs H Q E → vs.length = ps.length)
    (body : ∀ (cdv : Value) (A : Around) (outer : List Env) (s : Shared) (H : Hp) (vs : List V) (Q : VK) (E : XK), A.guards = some [] → Room k (A.deeper (envOfC qual (defScope st) s.heap.objs.size f cdv)) → sp vs H Q E →
      ∃ t, PSs (cxOf CX0 P w K mg base N qual (defScope st) f cdv A outer s H E).nox (defBody st) t ∧ t { nx := fun _ H' => Q .non H', rt := Q } (L2.start N vs) H) : FnG P w K mg base CX0 (k + 1) f fd ps sp := by
  obtain ⟨oc, od, kV, doc, pm, an, cdv, ct, osl, rfl, lk, hcd⟩ := F.ex
  refine ⟨len, fun A hg outer s H args us vs Q E hr en hb r h => ?_⟩
  have old : ∀ b o, base.get? b = some o → s.heap.get? b = some o := fun b o z => (en.bs b o z).1
  have inK := en.mod.kin.keeps old
  have kinds : ∀ y ∈ ps.zip us, (defScope st).names.lookup y.1 = some .local ∨ ((defScope st).names.lookup y.1 = some .cell ∧ ((cellsFrom (s.heap.objs.size + 1) (defScope st).names []).lookup y.1).isSome = true) := by
    rintro ⟨n, v⟩ hy
    rcases S.par n (List.of_mem_zip hy).1 with z | z
    · exact Or.inl z
    · exact Or.inr ⟨z, PySem.W.cellsFrom_some _ _ _ (Or.inl z)⟩
  apply codeAny_call_function hr.depth (inK _ _ lk) rfl S.co S.gen rfl
    (PySem.W.codeRec_of inK hcd)
  apply hb
  refine wpAny_newFunctionEnv_cells S.kind kinds (fun env he s1 x => ?_)
  subst he
  refine ⟨(en.mod.nolimit.keeps old).keeps x.toInCall.keep, ?_⟩
  apply codeAny_func
  obtain ⟨t, ht, hq⟩ := body cdv A outer s H vs Q E hg (hr.deeper _) h
  have J0 := inv_start (CX := CX0) (E := E) S hr.hd en (len _ _ _ _ h) r x
  refine wpAny_mono (ht.nox.run [] s1 _ H _ J0 hq) (fun fl s' z => ?_) (fun e s' z => z)
  have out : ∀ {σ' : L2.St} {H' : Hp} {v : V} {u : Value}, Inv (cxOf CX0 P w K mg base N qual (defScope st) f cdv A outer s H E) [] σ' H' s' → RelV v u → Q v H' → CE outer P w H s Q u s' :=
    fun J rv hv => ⟨_, _, J.os, J.bare, J.base, J.hok, rv, hv⟩
  cases fl with
  | next => exact let ⟨_, _, J, hv⟩ := z; out (v := V.non) (u := Value.none) J rfl hv
  | ret u => exact let ⟨_, _, _, J, rv, hv⟩ := z; out J rv hv
  | brk => exact let ⟨_, _, _, hv⟩ := z; hv.elim
  | cont => exact let ⟨_, _, _, hv⟩ := z; hv.elim
end
/-! ### the law's call, from such a promise -/
section
variable {P : Program} {w : World} {K : PySem.W.Frag} {mg mb : Str → Option Value} {k : Nat} {fa a : Addr} {fd : FuncData} {x : Str} {sp : Sp} {s₁ : Shared} {vs : List Value} {ns : List Int}
/-- what the law's call is to leave -/
def LawEnd (s₁ : Shared) (r : Result) (s' : Shared) : Prop := r = .ok (.ret (.bool true)) ∧ OldK s₁.heap s'.heap ∧ s'.os = s₁.os ∧ AllBare s'.gens
/-- from an abstract heap that tracks the script alone, or nothing -/
theorem lawG_at (inK : K.In s₁.heap) (hm : s₁.heap.Ns mainGlobals mg) (hb : s₁.heap.Ns builtinsNs mb) (hbb : ∀ x : Str, x ≠ "__name__" → mb x = bootBuiltins x) (lim : s₁.heap.NoLimit) (ng : s₁.gens = #[])
    (ha : s₁.heap.get? a = some { cls := .type "list", data := .seq vs.toArray }) (hr : Room k callerA) (F : ∀ base : Heap, K.In base → base.Ns mainGlobals mg → FnG P w K mg base CX0 k fa fd [x] sp)
    (bd : ∀ (s : Shared) (u : Value), BindsTo s fd ⟨[u], []⟩ [(x, u)]) {H : Hp} (only : Only H) (hs : sp [.ref a] H (fun v _ => v = .bl true) fun _ _ _ => False) (hok : HOk P w H s₁.heap) (at' : ∀ b, H b ≠ none → b = a) (out : H a ≠ none → K.lookup a = none) :
    codeAny (model P w) callerA (.call (.ref fa) ⟨[.ref a], []⟩) (LawEnd s₁) s₁ := by
  -- what is not tracked stands in the base
  have keepB : ∀ {b : Addr} {o : Obj}, s₁.heap.get? b = some o → H b = none → (hidT s₁.heap H).get? b = some o := hidT_get
  have untracked : ∀ {b : Addr}, b ≠ a → H b = none := fun {b} n => by
    by_cases z : H b = none
    · exact z
    · exact absurd (at' b z) n
  have spaces : ∀ {b : Addr} {m : Str → Option Value}, s₁.heap.Ns b m → (hidT s₁.heap H).Ns b m := fun {b m} h => by
    obtain ⟨o, es, ep, e, d, r⟩ := h
    refine ⟨o, es, ep, keepB e (untracked fun z => ?_), d, r⟩
    subst z
    cases ha.symm.trans e
    cases d
  have inB : K.In (hidT s₁.heap H) := fun b o e => by
    refine keepB (inK b o e) ?_
    by_cases z : H b = none
    · exact z
    · have eb := at' b z
      subst eb
      rw [out z] at e
      cases e
  have md : Mod K mg (hidT s₁.heap H) := by
    refine ⟨inB, spaces hm, ⟨mb, spaces hb, hbb⟩, ?_⟩
    obtain ⟨mc, h1, h2⟩ := lim
    exact ⟨mc, spaces h1, h2⟩
  have en : Env0 P w K mg (hidT s₁.heap H) callerA [] s₁ H := by
    refine ⟨rfl, md, fun b o e => of_hidT e, Nat.le_of_eq (hidT_size _ _), trivial, fun b z => ?_, hok, .of_eq ng⟩
    exact absurd (show b ∈ ([] : List Addr) from z) List.not_mem_nil
  have run := (F _ inB (spaces hm)).run callerA rfl [] s₁ H ⟨[.ref a], []⟩ [.ref a] [.ref a] _ _ hr en (bd s₁ (.ref a)) (.cons rfl .nil) hs
  refine codeAny_mono run fun r s' z => ?_
  rcases r with e | fl
  · exact False.elim z
  cases fl with
  | ret u =>
    obtain ⟨v, H', eos, bare, un, hok', rv, q⟩ := z
    cases (show v = .bl true from q)
    cases (show u = Value.bool true from rv)
    refine ⟨rfl, OldK.of_keep (fun b o e => ?_), eos, bare⟩
    by_cases zb : H b = none
    · exact un.keep b o e zb (by intro z; exact absurd (show b ∈ ([] : List Addr) from z) List.not_mem_nil) List.not_mem_nil
    · rcases only b with z | ⟨ob, xs, z⟩
      · exact absurd z zb
      · have h1 := (hok b _ z).1
        have h2 := (hok' b _ (un.frzs b ob _ z)).1
        cases e.symm.trans h1
        exact h2
  | next => exact False.elim z
  | brk => exact False.elim z
  | cont => exact False.elim z
theorem lawG (inK : K.In s₁.heap) (hm : s₁.heap.Ns mainGlobals mg) (hb : s₁.heap.Ns builtinsNs mb) (hbb : ∀ x : Str, x ≠ "__name__" → mb x = bootBuiltins x) (lim : s₁.heap.NoLimit) (ng : s₁.gens = #[])
    (ha : s₁.heap.get? a = some { cls := .type "list", data := .seq vs.toArray }) (hi : IntsAre vs ns) (hl : ns.length ≤ sizeLine) (hr : Room k callerA) (F : ∀ base : Heap, K.In base → base.Ns mainGlobals mg → FnG P w K mg base CX0 k fa fd [x] sp)
    (bd : ∀ (s : Shared) (u : Value), BindsTo s fd ⟨[u], []⟩ [(x, u)]) (hs : ∀ H : Hp, Only H → SqL K H a (ns.map V.int) → sp [.ref a] H (fun v _ => v = .bl true) fun _ _ _ => False) :
    codeAny (model P w) callerA (.call (.ref fa) ⟨[.ref a], []⟩) (LawEnd s₁) s₁ := by
  have rv := vals_ints hi
  have hl2 : (ns.map V.int).length ≤ sizeLine := by rw [List.length_map]; exact hl
  cases hk : K.lookup a with
  | some o =>
    have e := inK a o hk
    cases ha.symm.trans e
    have nothing : Only fun _ => none := fun _ => Or.inl rfl
    refine lawG_at inK hm hb hbb lim ng ha hr F bd nothing (hs _ nothing (Or.inr ⟨_, vs.toArray, _, hk, rfl, rfl, rfl, ?_, by simpa using rv⟩)) (fun b u z => nomatch z) (fun b z => absurd rfl z) (fun z => absurd rfl z)
    rw [List.size_toArray, hi.length]
    exact hl
  | none =>
    let o : Obj := { cls := .type "list", data := .seq vs.toArray }
    have here : upd (fun _ => none) a (HO.frz o (.lst (ns.map V.int))) a = some (.frz o (.lst (ns.map V.int))) := upd_same
    have only : Only (upd (fun _ => none) a (HO.frz o (.lst (ns.map V.int)))) := fun b => by
      by_cases hb' : b = a
      · subst hb'
        exact Or.inr ⟨_, _, here⟩
      · exact Or.inl (upd_ne hb')
    have just : ∀ b, upd (fun _ => none) a (HO.frz o (.lst (ns.map V.int))) b ≠ none → b = a := fun b z => by
      by_cases hb' : b = a
      · exact hb'
      · exact absurd (upd_ne hb') z
    refine lawG_at inK hm hb hbb lim ng ha hr F bd only (hs _ only (Or.inl (Or.inr ⟨_, here⟩))) (fun b u z => ?_) just (fun _ => hk)
    have eb := just b (by rw [z]; exact fun q => nomatch q)
    subst eb
    cases here.symm.trans z
    exact ⟨ha, hl2, vs, _, rv, ha⟩
end
theorem walkG {l : PySem.W.OpenLaw} {n k : Nat} {q : Program} {loose : List Str} {XP : (Str → Option Value) → Heap → Prop} {YP : World → Heap → Prop} {d : DefRec} {K : Params → PySem.W.Frag} {sp : PySem.W.Frag → Sp} {x : Str}
    (hn : l.most = some n) (hn2 : n ≤ sizeLine) (hdf : d.params.defaults = []) (hr : Room k callerA) (hY : ∀ (w : World) (h : Heap), YP w h → (K w.params).In h)
    (F : ∀ (w : World) (mg : Str → Option Value) (fa : Addr) (h : Heap), (K w.params).In h → h.Ns mainGlobals mg → mg d.name = some (.ref fa) →
      ∃ fd : FuncData, (∀ (s : Shared) (u : Value), BindsTo s fd ⟨[u], []⟩ [(x, u)]) ∧ ∀ base : Heap, (K w.params).In base → base.Ns mainGlobals mg → FnG l.prog w (K w.params) mg base CX0 k fa fd [x] (sp (K w.params)))
    (hsp : ∀ (K : PySem.W.Frag) (H : Hp) (a : Addr) (ns : List Int), ns.length ≤ n → SqL K H a (ns.map V.int) → sp K [.ref a] H (fun v _ => v = .bl true) fun _ _ _ => False) :
    PySem.W.WalkO q loose XP YP l.row.toRowW d [] (fun f vs => PySem.call f vs) := by
  apply Att.attach_call hn hdf
  intro w s₀ s₁ mg mb fa o pm cd doc a vs ns G Y ho hd hcd hmg hobj hints hlen hg
  have inK := hY w _ Y
  obtain ⟨fd, hb, hF⟩ := F w mg fa _ inK G.T.g hmg
  exact lawG inK G.T.g G.T.b G.T.builtins G.T.nolimit hg hobj hints (Nat.le_trans hlen hn2) hr hF hb (fun H _ hS => hsp _ H a ns hlen hS)
/-- a call that writes every keyword-only parameter -/
theorem kb_of {K : PySem.W.Frag} {x qual : Str} {params : Arguments} {body : List Stmt} {scope : Scope} {kws : List (Str × V)} {f : Addr} {fd : FuncData} {ps ks : List Str} {n : Nat} (F : FunD K x qual params body scope [] kws f fd)
    (h : ∀ (kV doc pm : Value) (an : Option Addr) (cdv ct : Value) (us ws : List Value), us.length = n → ws.length = ks.length → bindArgs (PySem.W.fnOf x qual params body scope .none kV doc pm an cdv ct) ⟨us, ks.zip ws⟩ = pure (ps.zip (us ++ ws))) :
    KBn K fd ps n ks (fun us ws => us ++ ws) (fun vs zs => vs ++ zs) := by
  obtain ⟨oc, od, dV, kV, doc, pm, an, cdv, ct, osl, rfl, lk, hcd, hD, hK⟩ := F.ex
  rcases hD with ⟨_, rfl⟩ | ⟨e, _⟩
  · exact ⟨fun s us ws _ h1 h2 => .of_eq (h kV doc pm an cdv ct us ws h1 h2), fun r1 r2 => r1.append r2⟩
  · exact absurd rfl e
end Fo

namespace Fo
open PySem PySem.Spec PyProof.Rows L2
/-! ### zip of any two of lists, tuples, texts -/
/-- what is gone over -/
inductive K3
  | l (a : Addr)
  | t (a : Addr)
  | s (z : Str)
def K3.v : K3 → V
  | .l a => .ref a
  | .t a => .ref a
  | .s z => .str z
def K3.over (K : PySem.W.Frag) (H : Hp) : K3 → List V → Prop
  | .l a, xs => SqL K H a xs
  | .t a, xs => SqT K H a xs
  | .s z, xs => xs = sgs z.cps.toList
/-- its iterator at it, i items taken -/
def K3.at_ (h : Heap) (it : Addr) (i : Nat) : K3 → Prop
  | .l a => h.IsListIter it a i
  | .t a => h.IsTupleIter it a i
  | .s z => ∃ t, h.IsStrIter it (strIterType z) z t i
def K3.low (b : Addr) : K3 → Prop
  | .l a => a < b
  | .t a => a < b
  | .s _ => True
theorem K3.at_obj {k : K3} {h : Heap} {it : Addr} {i : Nat} (x : k.at_ h it i) : ∃ o, h.get? it = some o ∧ ∀ v, o.data ≠ .cell v := by
  cases k with
  | l a =>
    obtain ⟨o, e, _, d⟩ := x
    exact ⟨o, e, fun v q => by rw [d] at q; cases q⟩
  | t a =>
    obtain ⟨o, e, _, d⟩ := x
    exact ⟨o, e, fun v q => by rw [d] at q; cases q⟩
  | s z =>
    obtain ⟨t, o, e, _, d⟩ := x
    exact ⟨o, e, fun v q => by rw [d] at q; cases q⟩
theorem K3.at_keep {k : K3} {h h' : Heap} {it : Addr} {i : Nat} (x : k.at_ h it i) (e : ∀ o, h.get? it = some o → h'.get? it = some o) : k.at_ h' it i := by
  cases k with
  | l a => exact Heap.IsListIter.at x e
  | t a => exact Heap.IsTupleIter.at x e
  | s z =>
    obtain ⟨t, o, eo, r⟩ := x
    exact ⟨t, o, e o eo, r⟩
theorem vals_at : ∀ {xs : List V} {us : List Value} {i : Nat} {u : Value}, Vals xs us → us[i]? = some u → ∃ x, xs[i]? = some x ∧ RelV x u
  | _, _, i, u, .nil, e => by simp at e
  | _, _, 0, u, .cons h _, e => by
    simp at e
    subst e
    exact ⟨_, rfl, h⟩
  | _, _, i + 1, u, .cons _ r, e => by
    obtain ⟨x, ex, rx⟩ := vals_at r (i := i) (by simpa using e)
    exact ⟨x, by simpa using ex, rx⟩
/-- what is drawn of it -/
structure Drawn (P : Program) (w : World) (A : Around) (k : K3) (h : Heap) (it : Addr) (i b : Nat) (xs : List V) (fp : List Addr) (Pv : Nat → Value → Prop) (St : Nat → Heap → Prop) : Prop where
  draws : Draws P w A it fp xs.length Pv St
  now : St i h
  items : ∀ j v, Pv j v → ∃ x, xs[j]? = some x ∧ RelV x v
  later : ∀ j h', St j h' → k.at_ h' it j
  mine : it ∈ fp
  low : ∀ c ∈ fp, c = it ∨ c < b
theorem K3.drawn {X : Cx} {pins : List (Addr × Obj)} {σ : L2.St} {H : Hp} {s : Shared} {k : K3} {it b : Addr} {i : Nat} {xs : List V} (A : Around) (calm : A.handled = none) (I : Inv X pins σ H s) (o : k.over X.K H xs) (x : k.at_ s.heap it i) (lo : k.low b) (hi : b ≤ it) :
    ∃ fp Pv St, Drawn X.prog X.w A k s.heap it i b xs fp Pv St := by
  cases k with
  | l a =>
    obtain ⟨us, r, here, _⟩ := I.list o
    have lo : a < b := lo
    have len : us.toArray.size = xs.length := by rw [List.size_toArray, r.length]
    refine ⟨[it, a], fun j v => us.toArray[j]? = some v, fun j h => h.IsListIter it a j ∧ h.IsList a us.toArray, ⟨by rw [← len]; exact Draws.list calm it a (Nat.ne_of_lt (Nat.lt_of_lt_of_le lo hi)) us.toArray, ⟨x, here.isList⟩, fun j v h => ?_, fun j h' st => st.1, by simp, fun c hc => ?_⟩⟩
    · exact vals_at r (by simpa using h)
    · rcases List.mem_cons.mp hc with h | h
      · exact .inl h
      · rw [List.mem_singleton.mp h]
        exact .inr lo
  | t a =>
    obtain ⟨us, r, here, _⟩ := I.tuple o
    have lo : a < b := lo
    have len : us.toArray.size = xs.length := by rw [List.size_toArray, r.length]
    refine ⟨[it, a], fun j v => us.toArray[j]? = some v, fun j h => h.IsTupleIter it a j ∧ h.IsTuple a us.toArray, ⟨by rw [← len]; exact Draws.tuple calm it a (Nat.ne_of_lt (Nat.lt_of_lt_of_le lo hi)) us.toArray, ⟨x, here⟩, fun j v h => ?_, fun j h' st => st.1, by simp, fun c hc => ?_⟩⟩
    · exact vals_at r (by simpa using h)
    · rcases List.mem_cons.mp hc with h | h
      · exact .inl h
      · rw [List.mem_singleton.mp h]
        exact .inr lo
  | s z =>
    obtain ⟨t, x⟩ := x
    have o : xs = sgs z.cps.toList := o
    subst o
    have len : z.cps.size = (sgs z.cps.toList).length := by unfold sgs; simp
    refine ⟨_, _, _, ⟨by rw [← len]; exact Draws.text calm it z t, x, fun j v h => ?_, fun j h' st => ⟨t, st⟩, by simp, fun c hc => .inl (by simpa using hc)⟩⟩
    obtain ⟨c, u, hc, rfl⟩ := h
    refine ⟨.str ⟨#[c]⟩, ?_, ⟨u, rfl⟩⟩
    unfold sgs
    rw [List.getElem?_map, Array.getElem?_toList, hc]
    rfl
/-- the five cells of a zip, from b on -/
structure Zs (h : Heap) (b : Addr) (k m : K3) (i : Nat) : Prop where
  zip : IsZip h (b + 4) (b + 2) (b + 3) .none
  its : IsTupOf2 h (b + 2) (.ref b) (.ref (b + 1))
  out : ∃ x y, IsTupOf2 h (b + 3) x y
  one : k.at_ h b i
  two : m.at_ h (b + 1) i
def cells (b : Addr) : List Addr := [b + 4, b + 2, b + 3, b, b + 1]
theorem in_cells {b c : Nat} : c ∈ cells b ↔ b ≤ c ∧ c ≤ b + 4 := by
  unfold cells
  simp only [List.mem_cons, List.not_mem_nil, or_false]
  omega
theorem sep_of {P : Program} {w : World} {A : Around} {k m : K3} {h : Heap} {b i : Nat} {xs ys : List V} {fp1 fp2 : List Addr} {P1 P2 : Nat → Value → Prop} {St1 St2 : Nat → Heap → Prop}
    (d1 : Drawn P w A k h b i b xs fp1 P1 St1) (d2 : Drawn P w A m h (b + 1) i b ys fp2 P2 St2) : ZipSep2 (b + 4) (b + 2) (b + 3) b (b + 1) fp1 fp2 := by
  have no1 : ∀ c : Nat, b < c → c ∉ fp1 := fun c hc hm => by
    rcases d1.low c hm with e | e
    · exact absurd e (Nat.ne_of_gt hc)
    · exact absurd (Nat.lt_trans hc e) (Nat.lt_irrefl _)
  have no2 : ∀ c : Nat, b ≤ c → c ≠ b + 1 → c ∉ fp2 := fun c hc hn hm => by
    rcases d2.low c hm with e | e
    · exact hn e
    · exact absurd (Nat.lt_of_le_of_lt hc e) (Nat.lt_irrefl _)
  have n : ∀ x y : Nat, x ≠ y → b + x ≠ b + y := fun x y h e => h (Nat.add_left_cancel e)
  exact ⟨n 2 4 (by decide), n 3 4 (by decide), n 2 3 (by decide), n 2 0 (by decide), d1.mine, no1 _ (Nat.lt_add_of_pos_right (by decide)), no1 _ (Nat.lt_add_of_pos_right (by decide)),
    n 2 1 (by decide), d2.mine, no2 _ (Nat.le_add_right _ _) (n 4 1 (by decide)), no2 _ (Nat.le_add_right _ _) (n 3 1 (by decide)), no2 _ (Nat.le_refl _) (n 0 1 (by decide)), no1 _ (Nat.lt_succ_self _)⟩
/-- both as they stand at each turn, the items in new pairs -/
def ItzA (K : PySem.W.Frag) (k m : K3) : It :=
  ⟨fun i H => ∃ (xs ys : List V) (x y : V), k.over K H xs ∧ m.over K H ys ∧ xs[i]? = some x ∧ ys[i]? = some y,
    fun i H v H' => ∃ (T : Addr) (x y : V), v = .ref T ∧ H T = none ∧ H' = upd H T (.tup [x, y]) ∧ (∀ xs, k.over K H xs → xs[i]? = some x) ∧ ∀ ys, m.over K H ys → ys[i]? = some y,
    fun i H => ∃ xs ys : List V, k.over K H xs ∧ m.over K H ys ∧ ((xs.length = i ∧ i ≤ ys.length) ∨ (ys.length = i ∧ i ≤ xs.length))⟩
theorem K3.same {X : Cx} {pins : List (Addr × Obj)} {σ : L2.St} {H : Hp} {s : Shared} {k : K3} {xs ys : List V} (I : Inv X pins σ H s) (a : k.over X.K H xs) (b : k.over X.K H ys) : xs = ys := by
  cases k with
  | l _ => exact I.list_inj a b
  | t _ => exact I.tuple_inj a b
  | s _ => exact Eq.trans a (Eq.symm b)
theorem turn_any {P : Program} {w : World} {K : PySem.W.Frag} {elts : List Expr} {kk : Nat} {tpos : Pos} {b : Addr} {k m : K3} (lk : k.low b) (lm : m.low b) :
    Turn P w K (.Tuple elts kk tpos) (ItzA K k m) (cells b) (b + 4) (fun i h => Zs h b k m i) where
  mem := by simp [cells]
  obj := fun i h z c hc => by
    unfold cells at hc
    rcases List.mem_cons.mp hc with rfl | hc
    · exact ⟨_, z.zip, fun v q => nomatch q⟩
    rcases List.mem_cons.mp hc with rfl | hc
    · exact ⟨_, z.its, fun v q => nomatch q⟩
    rcases List.mem_cons.mp hc with rfl | hc
    · obtain ⟨x, y, e⟩ := z.out
      exact ⟨_, e, fun v q => nomatch q⟩
    rcases List.mem_cons.mp hc with rfl | hc
    · exact K3.at_obj z.one
    · rw [List.mem_singleton.mp hc]
      exact K3.at_obj z.two
  keep := fun i h h' z keep => by
    obtain ⟨x, y, out⟩ := z.out
    have c := fun a (ha : a ∈ cells b) o => keep a ha o
    exact ⟨c _ (by simp [cells]) _ z.zip, c _ (by simp [cells]) _ z.its, ⟨x, y, c _ (by simp [cells]) _ out⟩, K3.at_keep z.one (c _ (by simp [cells])), K3.at_keep z.two (c _ (by simp [cells]))⟩
  item := by
    intro X eP ew eK calm i pins s σ H E I free z go
    subst eP ew eK
    obtain ⟨xs, ys, x, y, ox, oy, hx, hy⟩ := go
    obtain ⟨x0, y0, out⟩ := z.out
    have hh : X.A.in1.handled = none := by simpa using I.ok.hd calm
    obtain ⟨f1, P1, S1, d1⟩ := K3.drawn X.A.in1 hh I ox z.one lk (Nat.le_refl _)
    obtain ⟨f2, P2, S2, d2⟩ := K3.drawn X.A.in1 hh I oy z.two lm (Nat.le_succ _)
    have zl := Heap.lt_size z.zip
    refine wpAny_pyNext_zipD2_item (sep_of d1 d2) d1.draws d2.draws z.zip z.its out d1.now d2.now (List.getElem?_eq_some_iff.mp hx).1 (List.getElem?_eq_some_iff.mp hy).1 fun u v h' tk pu pv zip' out' s1 s2 new size keep => ?_
    refine ⟨_, rfl, wpAny_letOwnedTupleGo_zip (s := { s with heap := h', toks := tk }) zip' fun h'' zip'' same => ?_⟩
    obtain ⟨x', hx', rx⟩ := d1.items i u pu
    obtain ⟨y', hy', ry⟩ := d2.items i v pv
    rw [hx] at hx'
    rw [hy] at hy'
    cases hx'
    cases hy'
    have nz : ∀ c : Nat, c ≠ b + 4 → ∀ o, h'.get? c = some o → h''.get? c = some o := fun c hc o e => (same.2 c hc).trans e
    have n : ∀ x y : Nat, x ≠ y → b + x ≠ b + y := fun x y h e => h (Nat.add_left_cancel e)
    have made : ObjOk X.prog X.w (upd H s.heap.objs.size (.tup [x, y])) h'' s.heap.objs.size (.tup [x, y]) :=
      ⟨szS, [u, v], .cons rx (.cons ry .nil), ⟨_, nz _ (Nat.ne_of_gt zl) _ new, rfl, _, rfl⟩⟩
    have fresh := I.hok.fresh (a := s.heap.objs.size) (Nat.le_refl _)
    have J : Inv X pins σ (upd H s.heap.objs.size (.tup [x, y])) { s with heap := h'', toks := tk } :=
      I.turnedNew (ch := cells b) (fun c o hc e => nz c (fun q => hc (by rw [q]; simp [cells])) o (keep c o (fun q => hc (by rw [q]; simp [cells])) (fun q => hc (by rw [q]; simp [cells])) (fun q => hc (by rw [q]; simp [cells])) (fun q => hc (by rw [q]; simp [cells])) e)) free (Nat.le_refl _) made
    refine ⟨.ref s.heap.objs.size, _, J, rfl, ⟨_, x, y, rfl, fresh, rfl, fun l hl => by rw [K3.same I hl ox]; exact hx, fun l hl => by rw [K3.same I hl oy]; exact hy⟩,
      ⟨zip'', nz _ (n 2 4 (by decide)) _ (keep _ _ (n 2 4 (by decide)) (n 2 3 (by decide)) (n 2 0 (by decide)) (n 2 1 (by decide)) z.its), ⟨u, v, nz _ (n 3 4 (by decide)) _ out'⟩, K3.at_keep (d1.later _ _ s1) (nz _ (n 0 4 (by decide))), K3.at_keep (d2.later _ _ s2) (nz _ (n 1 4 (by decide)))⟩, fun c hc => ?_⟩
    have lt : c < s.heap.objs.size := by
      have := (in_cells.mp hc).2
      exact Nat.lt_of_le_of_lt this zl
    rw [upd_ne (Nat.ne_of_lt lt)]
    exact (free c hc).1
  done := by
    intro X eP ew eK calm i pins s σ H E I free z stop
    subst eP ew eK
    obtain ⟨xs, ys, ox, oy, ends⟩ := stop
    obtain ⟨x0, y0, out⟩ := z.out
    have hh : X.A.in1.handled = none := by simpa using I.ok.hd calm
    obtain ⟨f1, P1, S1, d1⟩ := K3.drawn X.A.in1 hh I ox z.one lk (Nat.le_refl _)
    obtain ⟨f2, P2, S2, d2⟩ := K3.drawn X.A.in1 hh I oy z.two lm (Nat.le_succ _)
    have e1 : i ≤ xs.length ∧ i ≤ ys.length ∧ (i = xs.length ∨ i = ys.length) := by omega
    refine wpAny_pyNext_zipD2_end (sep_of d1 d2) d1.draws d2.draws z.zip z.its out d1.now d2.now e1.1 e1.2.1 e1.2.2 fun h' tk keep => ⟨rfl, ?_⟩
    exact I.turnedL (ch := cells b) (fun c o hc e => keep c o (fun q => hc (by rw [q]; simp [cells])) (fun q => hc (by rw [q]; simp [cells])) (fun q => hc (by rw [q]; simp [cells])) (fun q => hc (by rw [q]; simp [cells])) e) free
  self := fun A i s Q E z h => wpAny_pyIter_zip z.zip h
/-- how going over it begins -/
theorem K3.begins {X : Cx} {pins : List (Addr × Obj)} {σ : L2.St} {H : Hp} {s : Shared} {k : K3} {xs : List V} {u : Value} (I : Inv X pins σ H s) (o : k.over X.K H xs) (r : RelV k.v u) :
    ∃ (ob : Obj) (Hq : Heap → Prop), Begins u ob Hq ∧ Hq s.heap ∧ k.low s.heap.objs.size ∧ ∀ (h : Heap) (it : Addr), h.get? it = some ob → k.at_ h it 0 := by
  cases k with
  | l a =>
    cases r
    obtain ⟨us, _, here, _⟩ := I.list o
    exact ⟨_, _, begins_list a us.toArray, here.isList, here.lt, fun h it e => ⟨_, e, rfl, rfl⟩⟩
  | t a =>
    cases r
    obtain ⟨us, _, here, _⟩ := I.tuple o
    obtain ⟨ob, e, _⟩ := id here
    exact ⟨_, _, begins_tuple a us.toArray, here, Heap.lt_size e, fun h it e => ⟨_, e, rfl, rfl⟩⟩
  | s z =>
    obtain ⟨t, rfl⟩ := r
    exact ⟨_, _, begins_text z t, trivial, trivial, fun h it e => ⟨t, _, e, rfl, rfl⟩⟩
def iZip2 (K : PySem.W.Frag) (ta : TA) : TI := fun σ H R => ta σ H fun vs H1 => ∃ (k m : K3) (xs ys : List V), vs = [k.v, m.v] ∧ k.over K H1 xs ∧ m.over K H1 ys ∧ R (ItzA K k m) H1
theorem pi_zip2 {X : Cx} (K : PySem.W.Frag) (eK : X.K = K) {e e2 : Expr} {ta : TA} {p pos tpos : Pos} {elts : List Expr} {kk : Nat} (hg : Gl X "zip") (hm : X.mg "zip" = none) (ha : PA X [e, e2] ta)
    (hs : starEach [e, e2] X.env = (false, eval e X.env) :: starEach [e2] X.env := by rfl) (hpl : (backTo pos (starEach [e2] X.env)).any (·.1) = false := by rfl) :
    PI X (.Tuple elts kk tpos) (.Call (.Name "zip" p) [e, e2] [] pos) (iZip2 K ta) := by
  subst eK
  refine ⟨fun pins s σ H R I asked => Call_ (ld_blt I hg hm boot_zip (callWith_type1 (thn (ha.run pos pins s σ H _ I asked) fun us s1 told => ?_) hs hpl))⟩
  obtain ⟨vs, H1, J, rs, k, m, xs, ys, rfl, ok, om, goal⟩ := told
  obtain ⟨u, v, rfl, ru, rv⟩ := Vals.two rs
  obtain ⟨ob1, q1, b1, here1, low1, at1⟩ := K3.begins J ok ru
  obtain ⟨ob2, q2, b2, here2, low2, at2⟩ := K3.begins J om rv
  refine zip_begins2 b1 b2 here1 here2 fun h' z its out o1 o2 size keep => wpAny_pyIter_zip z ?_
  refine ⟨s1.heap.objs.size + 4, cells s1.heap.objs.size, _, _, H1, rfl, J.kept (t' := s1.toks) keep, turn_any low1 low2, ⟨z, its, ⟨_, _, out⟩, at1 _ _ o1, at2 _ _ o2⟩, fun c hc => ?_, goal⟩
  have le := (in_cells.mp hc).1
  exact J.fpOk le (J.hok.fresh le)
theorem walk_zip2 {K : PySem.W.Frag} {k m : K3} {xs ys : List V} {n : Nat} (hn : n = min xs.length ys.length) :
    Walk (ItzA K k m) n (fun H => k.over K H xs ∧ m.over K H ys) (YPairN (fun i => xs[i]?) (fun i => ys[i]?)) := by
  refine walkPair ⟨fun i _ hi st => ?_, fun _ st => ⟨xs, ys, st.1, st.2, by omega⟩, fun i H v H' _ st y => ?_⟩
  · exact ⟨xs, ys, _, _, st.1, st.2, List.getElem?_eq_getElem (show i < xs.length by omega), List.getElem?_eq_getElem (show i < ys.length by omega)⟩
  · obtain ⟨T, x, y, e1, e2, e3, q1, q2⟩ := y
    exact ⟨T, x, y, e1, e2, e3, q1 xs st.1, q2 ys st.2⟩
end Fo

namespace Fo
open PySem PySem.Spec PyProof.Rows L2
/-! ### enumerate of a list, a tuple, a text -/
abbrev enumObj (it : Addr) : Obj := { cls := .type "enumerate", data := .fields #[.none, .bool false, .ref it, rawInt 0, .none, .none] }
theorem enum_made {v : Value} {ob : Obj} {Hq : Heap → Prop} (B : Begins v ob Hq) :
    Meets (Builtin.«enumerate.__new__» ⟨[.type "enumerate", v], []⟩) (fun _ R s => Hq s.heap ∧ R (.ok (.ret (.ref (s.heap.push ob).objs.size))) { s with heap := (s.heap.push ob).push (enumObj s.heap.objs.size) }) := by
  refine Meets.of_wp fun prog w A R s told => ?_
  rcases s with ⟨heap, gens, drawn, toks, os⟩
  rcases told with ⟨here, goal⟩
  have below := sub_enumerate
  have first : ∀ {A' : Around} {E Q : Value → Shared → Prop}, Q (.ref heap.objs.size) ⟨heap.push ob, gens, drawn, toks, os⟩ → wpAny (model prog w) A' (pyIter v) Q E ⟨heap, gens, drawn, toks, os⟩ := fun q => B.iter prog w _ _ ⟨heap, gens, drawn, toks, os⟩ _ here q
  wp_walk
  refine wpAny_stack_any fun st => wpAny_pure ?_
  split
  · rename_i c _ _ _ _ _
    cases (c == Value.type "enumerate") <;> (wp_walk using first; exact ⟨_, rfl, goal⟩)
  · wp_walk using first
    exact ⟨_, rfl, goal⟩
section
variable {P : Program} {w : World} {A : Around} {E : Value → Shared → Prop} {s : Shared}
theorem enum_call {v : Value} {ob : Obj} {Hq : Heap → Prop} {Q : Value → Shared → Prop} (B : Begins v ob Hq) (here : Hq s.heap)
    (goal : ∀ h', IsEnum h' (s.heap.objs.size + 1) s.heap.objs.size 0 .none → h'.get? s.heap.objs.size = some ob → (∀ b o, s.heap.get? b = some o → h'.get? b = some o) → Q (.ref (s.heap.objs.size + 1)) { s with heap := h' }) :
    wpAny (model P w) A (call (.type "enumerate") [v]) Q E s := by
  have next : (s.heap.push ob).objs.size = s.heap.objs.size + 1 := Heap.size_push ..
  refine callType_new F.called_enumerate (by decide) (F.typeCall_enumerate_1 _) (F.newCall_enumerate_1 _) (fun obj => F.args_object_init_2 obj _) F.entry_enumerate_new (enum_made B) ⟨here, ?_⟩
  have there : ((s.heap.push ob).push (enumObj s.heap.objs.size)).get? (s.heap.push ob).objs.size = some (enumObj s.heap.objs.size) := Heap.get?_push_size _ rfl
  rw [next] at there
  show _ ∧ _
  rw [next]
  exact ⟨⟨_, there, rfl⟩, goal _ there (Heap.get?_push_of_some _ (Heap.get?_push_size _ B.free)) fun b o e => Heap.get?_push_of_some _ (Heap.get?_push_of_some _ e)⟩
end
/-- as it stands at each turn, the place and the item in a new pair -/
def IteA (K : PySem.W.Frag) (k : K3) : It :=
  ⟨fun i H => ∃ (xs : List V) (x : V), k.over K H xs ∧ xs[i]? = some x,
    fun i H v H' => ∃ (T : Addr) (x : V), v = .ref T ∧ H T = none ∧ H' = upd H T (.tup [.int (i : Nat), x]) ∧ ∀ xs, k.over K H xs → xs[i]? = some x,
    fun i H => ∃ xs : List V, k.over K H xs ∧ xs.length = i⟩
theorem turn_each {P : Program} {w : World} {K : PySem.W.Frag} {elts : List Expr} {kk : Nat} {tpos : Pos} {b : Nat} {k : K3} (lk : k.low b) :
    Turn P w K (.Tuple elts kk tpos) (IteA K k) [b + 1, b] (b + 1) (fun i h => (∃ old, IsEnum h (b + 1) b ((i : Nat) : Int) old) ∧ k.at_ h b i) where
  mem := by simp
  obj := fun i h z c hc => by
    obtain ⟨⟨old, e⟩, x⟩ := z
    rcases List.mem_cons.mp hc with rfl | hc
    · exact ⟨_, e, fun v q => nomatch q⟩
    · rw [List.mem_singleton.mp hc]
      exact K3.at_obj x
  keep := fun i h h' z keep => by
    obtain ⟨⟨old, e⟩, x⟩ := z
    exact ⟨⟨old, keep _ (by simp) _ e⟩, K3.at_keep x (keep _ (by simp))⟩
  item := by
    intro X eP ew eK calm i pins s σ H E I free z go
    subst eP ew eK
    obtain ⟨⟨old, en⟩, at1⟩ := z
    obtain ⟨xs, x, ox, hx⟩ := go
    have hh : X.A.in1.handled = none := by simpa using I.ok.hd calm
    obtain ⟨f1, P1, S1, d1⟩ := K3.drawn X.A.in1 hh I ox at1 lk (Nat.le_refl _)
    have lt1 := Heap.lt_size en
    have notIn : b + 1 ∉ f1 := fun hm => by
      rcases d1.low _ hm with e | e
      · exact absurd e (Nat.succ_ne_self b)
      · exact absurd (Nat.lt_trans (Nat.lt_succ_self b) e) (Nat.lt_irrefl _)
    refine wpAny_pyNext_enum_itemD d1.draws en d1.now (List.getElem?_eq_some_iff.mp hx).1 (Nat.succ_ne_self b) notIn fun u h' tk pu out s1 new size keep => ?_
    refine ⟨_, rfl, wpAny_letOwnedTupleGo_enum (s := { s with heap := h', toks := tk + 1 }) out fun h'' en' same => ?_⟩
    obtain ⟨x', hx', rx⟩ := d1.items i u pu
    rw [hx] at hx'
    cases hx'
    have nz : ∀ c : Nat, c ≠ b + 1 → ∀ o, h'.get? c = some o → h''.get? c = some o := fun c hc o e => (same.2 c hc).trans e
    have made : ObjOk X.prog X.w (upd H s.heap.objs.size (.tup [.int (i : Nat), x])) h'' s.heap.objs.size (.tup [.int (i : Nat), x]) :=
      ⟨szS, [.int i tk, u], .cons ⟨_, rfl⟩ (.cons rx .nil), ⟨_, nz _ (Nat.ne_of_gt lt1) _ new, rfl, _, rfl⟩⟩
    have fresh := I.hok.fresh (a := s.heap.objs.size) (Nat.le_refl _)
    have J : Inv X pins σ (upd H s.heap.objs.size (.tup [.int (i : Nat), x])) { s with heap := h'', toks := tk + 1 } :=
      I.turnedNew (ch := [b + 1, b]) (fun c o hc e => nz c (fun q => hc (by rw [q]; simp)) o (keep c o (fun q => hc (by rw [q]; simp)) (fun q => hc (by rw [q]; simp)) e)) free (Nat.le_refl _) made
    have place : (((i + 1 : Nat) : Nat) : Int) = (i : Int) + 1 := by omega
    refine ⟨.ref s.heap.objs.size, _, J, rfl, ⟨_, x, rfl, fresh, rfl, fun l hl => by rw [K3.same I hl ox]; exact hx⟩, ⟨⟨_, by rw [place]; exact en'⟩, K3.at_keep (d1.later _ _ s1) (nz _ (Nat.ne_of_lt (Nat.lt_succ_self b)))⟩, fun c hc => ?_⟩
    have lt : c < s.heap.objs.size := by
      rcases List.mem_cons.mp hc with rfl | hc
      · exact lt1
      · rw [List.mem_singleton.mp hc]
        exact Nat.lt_trans (Nat.lt_succ_self b) lt1
    rw [upd_ne (Nat.ne_of_lt lt)]
    exact (free c hc).1
  done := by
    intro X eP ew eK calm i pins s σ H E I free z stop
    subst eP ew eK
    obtain ⟨⟨old, en⟩, at1⟩ := z
    obtain ⟨xs, ox, rfl⟩ := stop
    have hh : X.A.in1.handled = none := by simpa using I.ok.hd calm
    obtain ⟨f1, P1, S1, d1⟩ := K3.drawn X.A.in1 hh I ox at1 lk (Nat.le_refl _)
    refine wpAny_pyNext_enum_endD d1.draws en d1.now fun h' keep => ⟨rfl, ?_⟩
    exact I.turnedL (t' := s.toks) (ch := [b + 1, b]) (fun c o hc e => keep c o (fun q => hc (by rw [q]; simp)) e) free
  self := fun A i s Q E z h => wpAny_pyIter_enum z.1.choose_spec h
def iEnumA (K : PySem.W.Frag) (ta : TA) : TI := fun σ H R => ta σ H fun vs H1 => ∃ (k : K3) (xs : List V), vs = [k.v] ∧ k.over K H1 xs ∧ R (IteA K k) H1
theorem pi_enumA {X : Cx} (K : PySem.W.Frag) (eK : X.K = K) {e : Expr} {ta : TA} {p pos tpos : Pos} {elts : List Expr} {kk : Nat} (hg : Gl X "enumerate") (hm : X.mg "enumerate" = none) (ha : PA X [e] ta) (hs : starEach [e] X.env = [(false, eval e X.env)] := by rfl) :
    PI X (.Tuple elts kk tpos) (.Call (.Name "enumerate" p) [e] [] pos) (iEnumA K ta) := by
  subst eK
  refine ⟨fun pins s σ H R I asked => Call_ (ld_blt I hg hm boot_enumerate (callWith_type1 (thn (ha.run pos pins s σ H _ I asked) fun us s1 told => ?_) hs rfl))⟩
  obtain ⟨vs, H1, J, rs, k, xs, rfl, ok, goal⟩ := told
  obtain ⟨u, rfl, ru⟩ := Vals.one rs
  obtain ⟨ob, q1, b1, here, low, at1⟩ := K3.begins J ok ru
  refine enum_call b1 here fun h' en o1 keep => wpAny_pyIter_enum en ?_
  refine ⟨s1.heap.objs.size + 1, [s1.heap.objs.size + 1, s1.heap.objs.size], _, _, H1, rfl, J.kept (t' := s1.toks) keep, turn_each low, ⟨⟨_, en⟩, at1 _ _ o1⟩, fun c hc => ?_, goal⟩
  have le : s1.heap.objs.size ≤ c := by
    rcases List.mem_cons.mp hc with rfl | hc
    · exact Nat.le_succ _
    · rw [List.mem_singleton.mp hc]
      exact Nat.le_refl _
  exact J.fpOk le (J.hok.fresh le)
theorem walk_each {K : PySem.W.Frag} {k : K3} {xs : List V} :
    Walk (IteA K k) xs.length (fun H => k.over K H xs) (YPairN (fun i => some (.int (i : Nat))) (fun i => xs[i]?)) := by
  refine walkPair ⟨fun i _ hi st => ⟨xs, _, st, List.getElem?_eq_getElem hi⟩, fun _ st => ⟨xs, st, rfl⟩, fun i H v H' _ st y => ?_⟩
  obtain ⟨T, x, e1, e2, e3, q⟩ := y
  exact ⟨T, .int (i : Nat), x, e1, e2, e3, rfl, q xs st⟩
end Fo

namespace Fo
open PySem PySem.Spec PySem.Calls PyProof.Rows L2
/-! ### an own error's __init__ that begins with super().__init__(text) -/
/-- its context: the one cell is the class -/
def cxSup (P : Program) (w : World) (K : PySem.W.Frag) (mg : Str → Option Value) (base : Heap) (N : List Str) (qual : Str) (scope : Scope) (f cda cc : Addr) (A : Around) (outer : List Env) (s : Shared) (H : Hp) (E : XK) : Cx where
  prog := P
  w := w
  K := K
  mg := mg
  base := base
  A := A.deeper (PySem.W.ksEnv qual scope s.heap.objs.size f (.ref cda) cc)
  N := N
  s_0 := s
  H_0 := H
  env := PySem.W.ksEnv qual scope s.heap.objs.size f (.ref cda) cc
  outer := outer
  stack := PySem.W.ksEnv qual scope s.heap.objs.size f (.ref cda) cc :: outer
  ex := []
  calm := true
  fn := fun _ => false
  pn := []
  xe := fun e s' => wpAny (model P w) (A.deeper (PySem.W.ksEnv qual scope s.heap.objs.size f (.ref cda) cc)) (leaving (PySem.W.ksEnv qual scope s.heap.objs.size f (.ref cda) cc) e) (fun _ s'' => CX0 outer H s E e s'') (fun e' s'' => CX0 outer H s E e' s'') s'
structure SupScope (N ps : List Str) (sc : Scope) : Prop where
  kind : sc.kind = .function
  co : sc.isCoroutine = false
  gen : sc.isGenerator = false
  nd : N.Nodup
  pre : N.take ps.length = ps
  locals : ∀ p ∈ ps, List.lookup p sc.names = some NameKind.local
  without : ∀ entry ∈ sc.names, entry.2 ≠ NameKind.cell
  free : ∀ y, sc.names.lookup y = some .free → y = ("__class__" : Str)
  cls : sc.names.lookup ("__class__" : Str) = some .free
  sup : sc.names.lookup ("super" : Str) = some .globalImplicit
  slf : ps[0]? = some ("self" : Str)
theorem lookup_zip_rev {x : Str} {v : Value} : ∀ {ps : List Str} {us : List Value} {i : Nat}, ps.Nodup → ps[i]? = some x → us[i]? = some v → (ps.zip us).reverse.lookup x = some v := fun {ps us i} nd h1 h2 => by
  have mem : (x, v) ∈ (ps.zip us).reverse := by
    rw [List.mem_reverse]
    exact List.mem_of_getElem? (i := i) (by rw [List.getElem?_zip_eq_some]; exact ⟨h1, h2⟩)
  have uniq : ∀ u, (x, u) ∈ (ps.zip us).reverse → u = v := fun u m => by
    rw [List.mem_reverse] at m
    obtain ⟨j, hj⟩ := List.getElem?_of_mem m
    rw [List.getElem?_zip_eq_some] at hj
    obtain ⟨hi, e1⟩ := List.getElem?_eq_some_iff.mp h1
    obtain ⟨hj', e2⟩ := List.getElem?_eq_some_iff.mp hj.1
    have : i = j := (List.getElem_inj nd).mp (e1.trans e2.symm)
    subst this
    exact Option.some.inj (hj.2.symm.trans h2)
  clear h1 h2
  generalize (ps.zip us).reverse = l at mem uniq
  induction l with
  | nil => cases mem
  | cons p l ih =>
    obtain ⟨y, u⟩ := p
    by_cases e : x = y
    · subst e
      rw [uniq u List.mem_cons_self]
      simp [List.lookup]
    · have e' : (x == y) = false := by simpa using e
      unfold List.lookup
      rw [e']
      exact ih ((List.mem_cons.mp mem).resolve_left fun z => e (congrArg Prod.fst z)) fun u m => uniq u (List.mem_cons_of_mem _ m)
section
variable {P : Program} {w : World} {K : PySem.W.Frag} {mg : Str → Option Value} {base : Heap} {N ps : List Str} {qual : Str} {scope : Scope} {f cda cc : Addr} {A : Around} {outer : List Env} {s : Shared} {H : Hp} {E : XK} {us : List Value} {vs : List V}
/-- what a slot holds at the entry is an argument -/
theorem of_start {i : Nat} {v : V} (h : (L2.start N vs)[i]? = some (some v)) : vs[i]? = some v := by
  have split : L2.start N vs = vs.map some ++ List.replicate (N.length - vs.length) none := rfl
  rw [split] at h
  rcases Nat.lt_or_ge i vs.length with few | many
  · rw [List.getElem?_append_left (by rw [List.length_map]; exact few), List.getElem?_map] at h
    obtain ⟨w, e1, e2⟩ := Option.map_eq_some_iff.mp h
    cases e2
    exact e1
  · rw [List.getElem?_append_right (by rw [List.length_map]; exact many)] at h
    have := List.eq_of_mem_replicate (List.mem_of_getElem? h)
    cases this
theorem one_cell {x : Str} {c : Addr} (h : List.lookup x [(("__class__" : Str), cc)] = some c) : x = ("__class__" : Str) ∧ c = cc := by
  have m := PySem.mem_of_lookup h
  cases List.mem_singleton.mp m
  exact ⟨rfl, rfl⟩
theorem inv_sup {h1 : Heap} {tk : Nat} {cl : Value} {cld : Option Addr} {cv : Option Value} {csl : Array (Option Value)} (S : SupScope N ps scope) (hd : A.handled = none) (e0 : Env0 P w K mg base A outer s H) (hl : vs.length = ps.length) (r : Vals vs us)
    (hcell : K.lookup cc = some ⟨cl, cld, .cell cv, csl⟩) (hns : h1.Ns s.heap.objs.size (fun x => (ps.zip us).reverse.lookup x)) (hk : ∀ b o, s.heap.get? b = some o → h1.get? b = some o) :
    Inv (cxSup P w K mg base N qual scope f cda cc A outer s H E) [] (L2.start N vs) H { s with heap := h1, toks := tk } := by
  obtain ⟨cBase, cFree⟩ := e0.bs _ _ (e0.mod.kin _ _ hcell)
  have within : ps.length ≤ N.length := by rw [← congrArg List.length S.pre, List.length_take]; exact Nat.min_le_right ..
  have unlike : ps.Nodup := S.pre ▸ S.nd.sublist (List.take_sublist ps.length N)
  refine {
    ok := {
      mod := e0.mod, kind := S.kind, glob := rfl, blt := rfl, above := Nat.le_refl _
      inj := fun a b c ea eb => (one_cell ea).1.trans (one_cell eb).1.symm
      has := fun y hy => ⟨cc, ?has⟩
      cab := fun _ _ z => nomatch z
      hd := fun _ => hd
      frames := Around.frames_deeper e0.frames, stk := .inr ⟨rfl, rfl⟩
      exf := fun _ z => nomatch z
      bs := e0.bs, bsz := e0.bsz
      noex := fun _ _ _ => List.not_mem_nil
      exfs := fun _ z => nomatch z
      funs := e0.funs, frf := e0.frf }
    os := rfl, bare := e0.bare, base := Un.kept hk
    loc := ⟨_, hns, fun i y v en ev _ => ?loc⟩
    cell := fun y c e => ?cell
    free := e0.hok.fresh (Nat.le_refl _)
    freeC := fun y c e => ?freeC
    pin := fun _ z => nomatch z
    hok := e0.hok.kept hk
    len := ?len }
  case has =>
    have only : y = ("__class__" : Str) := hy.elim (fun z => absurd rfl (S.without _ (PySem.mem_of_lookup z))) (S.free y)
    rw [only]
    rfl
  case loc =>
    have at_v := of_start ev
    have few : i < ps.length := hl ▸ (List.getElem?_eq_some_iff.mp at_v).1
    have name : ps[i]? = some y := by
      rw [← S.pre, List.getElem?_take_of_lt few]
      exact en
    obtain ⟨u, at_u, rel⟩ := r.get at_v
    exact ⟨u, rel, .inl ⟨S.locals y (List.mem_of_getElem? name), lookup_zip_rev unlike name at_u⟩⟩
  case cell =>
    rw [(one_cell e).2]
    exact ⟨cv, _, hk _ _ cBase, rfl⟩
  case freeC =>
    rw [(one_cell e).2]
    exact cFree
  case len =>
    show (vs.map some ++ List.replicate (N.length - vs.length) none).length = N.length
    rw [List.length_append, List.length_map, List.length_replicate, hl]
    omega
end
end Fo

namespace Fo
open PySem PySem.Spec PySem.Calls PyProof.Rows L2
/-- what the written part says of the class at C and of its __init__ at f -/
structure SupC (fl : Str) (K : PySem.W.Frag) (C f : Addr) (qual : Str) (st : Stmt) (fd : FuncData) (cda cc : Addr) : Prop where
  ex : ∃ (oc : Value) (od : Option Addr) (dV kV doc pm ct : Value) (an : Option Addr) (osl : Array (Option Value)),
    fd = PySem.W.ksFn "__init__" qual (defArgs st) (defBody st) (defScope st) dV kV doc pm an (.ref cda) ct cc ∧ K.lookup f = some ⟨oc, od, .func fd, osl⟩
  code : PySem.W.codeIn K (.ref cda) qual = true
  file : ∃ (ccl : Value) (cdd : Option Addr) (vs : Array Value) (ccs : Array (Option Value)) (tf : Tok), K.lookup cda = some ⟨ccl, cdd, .fields vs, ccs⟩ ∧ vs[2]? = some (.str fl tf)
  cell : ∃ (cl : Value) (cld : Option Addr) (csl : Array (Option Value)), K.lookup cc = some ⟨cl, cld, .cell (some (.ref C)), csl⟩
  head : ((defArgs st).posonlyargs ++ (defArgs st).args).head?.map (·.arg) = some "self"
  oex : OexC K C
  sup : PySem.W.ks_superIn K C C "__init__" = some (some (.builtin "ValueError.__init__"))
  ve : PySem.W.subIn K (.ref C) (.type "ValueError") = some true
  slf : PySem.W.mroIn K C (.ref C) = some true
  opq : PySem.W.nsIn K cStatics "thirdparty.any" = some none
structure POk (P : Program) (fl : Str) : Prop where
  file : ((P.main.file : Str) == fl) = true
  top : (P.main.scope.names.lookup ("super" : Str)).isSome = false
/-- ValueError.__init__ bound to an own error, called: the error's texts are laid anew -/
theorem wpAny_bound_veinit {prog : Program} {w : World} {A : Around} {hp : Heap} {gens : Array GenState} {dr : PySem.Drawn} {tk : Nat} {os : OsState} {E : Value → Shared → Prop} {nm q : Str} {C N e u t0 : Addr} {bs bm : List Value} {dct : Bool} {sn : List Str} {sub : List Value} {ab : Bool} {col : Option Bool} {dd : Option Addr} {k0 k1 k2 k3 k5 : Option Value} {texts : List Value} {Q : Value → Shared → Prop}
    (cls : hp.get? C = some (excClassObj nm q C N bs bm dct sn sub ab col dd k0 k1 k2 k3 k5 "ValueError.__new__")) (err : hp.get? e = some (PySem.W.excObj C t0 none .none)) (bound : hp.get? u = some (PySem.W.kxs_mw "ValueError.__init__" e)) (few : texts.length ≤ sizeLine)
    (goal : ∀ hp' t1, (∀ b o, b ≠ e → hp.get? b = some o → hp'.get? b = some o) → hp'.get? e = some (PySem.W.excObj C t1 none .none) → Q .none ⟨hp', gens, dr, tk, os⟩) :
    wpAny (model prog w) A (call (.ref u) texts) Q E ⟨hp, gens, dr, tk, os⟩ := by
  have base := PySem.F.excBase_ValueError
  have wrapper : (Value.type "method-wrapper" == Value.type "method" || Value.type "method-wrapper" == Value.type "builtin_function_or_method" || Value.type "method-wrapper" == Value.type "method-wrapper") = true := by decide
  have laid := fun (Γ : Around) (P : Fin → Shared → Prop) (Er : Value → Shared → Prop) (k : ∀ hp', (∀ b o, b ≠ e → hp.get? b = some o → hp'.get? b = some o) → hp'.get? e = some (PySem.W.excObj C hp.objs.size none .none) → P (.done (.ret .none)) ⟨hp', gens, dr, tk, os⟩) =>
    PySem.W.exc_init_tree (M := model prog w) (A := Γ) (E := Er) (P := P) (cls := .ref C) (t0 := t0) (dv := none) (c2 := .none) (c3 := .none) (b4 := .bool false) (rest := texts) err few fun hp' keep there _ => k hp' keep there
  refine wpAny_call (codeAny_of_tree (show wpAny _ A.in1 (callAny (.ref u) ⟨texts, []⟩) _ _ _ from ?_))
  simp only [callAny]
  refine wpAny_bind (wpAny_load bound ?_)
  simp only [PySem.W.kxs_mw, wrapper, if_true]
  exact PySem.W.KFB.if_so (by decide) (wpAny_bind (PySem.W.check_bound_init base.toExcCallFacts cls err rfl (wpAny_bind (wpAny_pure (wpAny_pure
    (And.intro (plainId_quiet base.init.plain _) (codeAny_builtin base.initEntry (laid _ _ _ fun hp' keep there => goal hp' _ keep there))))))))
section
variable {P : Program} {fl : Str} {w : World} {K : PySem.W.Frag} {mg : Str → Option Value} {base : Heap} {N ps : List Str} {qual : Str} {st : Stmt} {f cda cc C : Addr} {fd : FuncData} {A : Around} {outer : List Env} {s0 : Shared} {H0 : Hp} {E : XK}
theorem sup_stmt {σ : L2.St} {H : Hp} {s : Shared} {e : Addr} {z : Str} {p0 p1 p2 p3 p4 p5 : Pos} {ob : Nat} {body : List Stmt} (hP : POk P fl) (SC : SupC fl K C f qual st fd cda cc) (S : SupScope N ps (defScope st)) (hsup : mg "super" = none)
    (I : Inv (cxSup P w K mg base N qual (defScope st) f cda cc A outer s0 H0 E) [] σ H s) (hN : N[0]? = some ("self" : Str)) (hσ : σ[0]? = some (some (.ref e))) (he : H e = some (exo e C none)) {pl : Sem Bool} (hint : interactive (PySem.W.ksEnv qual (defScope st) s0.heap.objs.size f (.ref cda) cc) = false)
    (hsw : swapsWith (.Call (.Attribute (.Call (.Name "super" p0) [] [] p1) "__init__" p2) [.Constant (.str z) ob p3] [] p4) none p5.line (PySem.W.ksEnv qual (defScope st) s0.heap.objs.size f (.ref cda) cc) = pure false)
    (hform : eval (.Call (.Attribute (.Call (.Name "super" p0) [] [] p1) "__init__" p2) [.Constant (.str z) ob p3] [] p4) (PySem.W.ksEnv qual (defScope st) s0.heap.objs.size f (.ref cda) cc) = (do
      let ov ← attributeBase (.Call (.Name "super" p0) [] [] p1) "__init__" (PySem.W.ksEnv qual (defScope st) s0.heap.objs.size f (.ref cda) cc) (eval (.Call (.Name "super" p0) [] [] p1) (PySem.W.ksEnv qual (defScope st) s0.heap.objs.size f (.ref cda) cc))
      standAt p2.atName
      let (f', first) ← holding [ov] (getMethod ov "__init__" pl)
      callWith p4 f' first (backTo p4 (starEach [.Constant (.str z) ob p3] (PySem.W.ksEnv qual (defScope st) s0.heap.objs.size f (.ref cda) cc))) [])) :
    PySem.wpAt (model P w) (A.deeper (PySem.W.ksEnv qual (defScope st) s0.heap.objs.size f (.ref cda) cc)) (.func body (PySem.W.ksEnv qual (defScope st) s0.heap.objs.size f (.ref cda) cc))
      (exec (.Expr (.Call (.Attribute (.Call (.Name "super" p0) [] [] p1) "__init__" p2) [.Constant (.str z) ob p3] [] p4) p5) (PySem.W.ksEnv qual (defScope st) s0.heap.objs.size f (.ref cda) cc))
      (fun fl s' => fl = .next ∧ Inv (cxSup P w K mg base N qual (defScope st) f cda cc A outer s0 H0 E) [] σ H s') (fun _ _ => False) s := by
  obtain ⟨oc, od, dV, kV, doc, pm, ct, an, osl, efd, lk⟩ := SC.ex
  obtain ⟨ccl, cdd, vs, ccs, tf, lc, hvs⟩ := SC.file
  obtain ⟨cl, cld, csl, lcell⟩ := SC.cell
  obtain ⟨nm, q, NS, bs, bm, sn, sub, ab, col, dd, k0, k1, k2, k3, k5, hC, hbm⟩ := SC.oex.cls
  have X := I.kIn
  obtain ⟨ar, har, hself⟩ : ∃ ar, ((defArgs st).posonlyargs ++ (defArgs st).args).head? = some ar ∧ ar.arg = "self" := by
    have := SC.head
    cases q : ((defArgs st).posonlyargs ++ (defArgs st).args).head? with
    | none => rw [q] at this; cases this
    | some ar => rw [q] at this; exact ⟨ar, rfl, Option.some.inj this⟩
  have hks : (PySem.W.ksEnv qual (defScope st) s0.heap.objs.size f (.ref cda) cc).kindOf "super" = some .globalImplicit := S.sup
  have hkc : (PySem.W.ksEnv qual (defScope st) s0.heap.objs.size f (.ref cda) cc).kindOf "__class__" = some .free := S.cls
  have hka : (PySem.W.ksEnv qual (defScope st) s0.heap.objs.size f (.ref cda) cc).kindOf "self" = some .local := S.locals _ (List.mem_of_getElem? S.slf)
  have hcl : PySem.W.clsIn K C = some { name := nm, bases := bs, mro := .ref C :: bm, ns := NS, qualname := q, hasDict := true, slotNames := sn, subclasses := sub, abstract := ab, collection := col, hasDel := false } := by unfold PySem.W.clsIn; rw [hC] <;> rfl
  obtain ⟨t1, ho⟩ := exo_at I.hok he
  refine PySem.ks_wpAt_Expr_any (env := PySem.W.ksEnv qual (defScope st) s0.heap.objs.size f (.ref cda) cc) (PySem.ks_wpAt_MethodCall (pl := pl) ?_ hform) hint hsw
  refine PySem.ks_wpAt_super_base (env := PySem.W.ksEnv qual (defScope st) s0.heap.objs.size f (.ref cda) cc) hks hkc rfl rfl (X _ _ lk) rfl (by rw [efd]; exact har) rfl (X _ _ lc) rfl hvs hP.file hP.top ?_
  obtain ⟨mb, b1, b2⟩ := I.mod.blt
  refine PySem.W.ks_loadName_global S.kind hks (Calls.loadGlobal_builtin (I.mod.glob.keeps I.bk) hsup (b1.keeps I.bk) ((b2 _ (by decide)).trans (show bootBuiltins "super" = some (.type "super") by decide +kernel)) ⟨rfl, ?_⟩)
  refine wpAny_loadName_free S.kind hkc rfl ⟨_, X _ _ lcell, rfl⟩ ?_
  obtain ⟨m, hns, look⟩ := I.loc
  obtain ⟨u0, ru0, lk0⟩ := look 0 "self" _ hN hσ (.inl hka)
  obtain rfl : u0 = Value.ref e := ru0
  have hv : m "self" = some (.ref e) := by
    rcases lk0 with ⟨_, h⟩ | ⟨h, _⟩
    · exact h
    · rcases h with h | h
      · exact absurd (hka.symm.trans h) (fun z => nomatch z)
      · exact absurd (hka.symm.trans h) (fun z => nomatch z)
  rw [hself]
  refine wpAny_loadName_local S.kind hka hns hv ?_
  obtain ⟨h0, g, d, t, os⟩ := s
  have hD := X _ _ hC
  refine PySem.ks_wpAny_isType_cls hD rfl ⟨rfl, ?_⟩
  refine PySem.ks_wpAny_call_super hD rfl ho rfl (fun c => fun z => nomatch z) (PySem.W.looks_mroIn X SC.slf) (fun h1 e1 k1 => ?_)
  have I1 : Inv (cxSup P w K mg base N qual (defScope st) f cda cc A outer s0 H0 E) [] σ H ⟨h1, g, d, t, os⟩ := I.kept (t' := t) k1
  have X1 := I1.kIn
  have ia : PySem.W.InstAt h1 e { cls := .ref C, dict := none, data := .fields #[.ref t1, .none, .none, .none, .bool false, .none] } C none := ⟨k1 _ _ ho, rfl, rfl, trivial⟩
  have hso : PySem.W.alongIn K "__init__" (((Value.ref C :: bm).dropWhile (· != .ref C)).drop 1) = some (some (.builtin "ValueError.__init__")) := by
    have q := SC.sup
    unfold PySem.W.ks_superIn at q
    rw [hcl] at q
    exact q
  refine PySem.W.kxs_getMethod PySem.W.kxs_ValueError e1 (PySem.W.looks_opaque X1 SC.opq) (l₀ := .ref C :: bm) ((PySem.W.looks_clsIn X1 hcl).andThen .now) rfl X1 hso (ia.type.andThen (PySem.W.looks_subIn X1 SC.ve)) (PySem.W.ks_ne X1 ia hcl) (by decide) ?_
  have kp : ∀ b o, h1.get? b = some o → (h1.push (PySem.W.kxs_mw "ValueError.__init__" e)).get? b = some o := fun b o z => Heap.get?_push_of_some _ z
  have I2 : Inv (cxSup P w K mg base N qual (defScope st) f cda cc A outer s0 H0 E) [(h1.objs.size, PySem.W.kxs_mw "ValueError.__init__" e)] σ H ⟨h1.push (PySem.W.kxs_mw "ValueError.__init__" e), g, d, t + 1, os⟩ :=
    (I1.kept (t' := t + 1) kp).pins_of fun p hp => by
      rw [List.mem_singleton.mp hp]
      refine ⟨Heap.get?_push_size _ rfl, I1.hok.fresh (Nat.le_refl _), Nat.ne_of_gt I1.lt, I1.nofs (Nat.le_refl _), fun v z => nomatch z⟩
  show wpAny _ _ (callWith p4 (.ref h1.objs.size) [] (backTo p4 (starEach [.Constant (.str z) ob p3] (PySem.W.ksEnv qual (defScope st) s0.heap.objs.size f (.ref cda) cc))) []) _ _ _
  refine PySem.W.kxs_callWith (i := "ValueError.__init__") (x := e) rfl (evalArgs_plain ?_)
  have PAz : PA (cxSup P w K mg base N qual (defScope st) f cda cc A outer s0 H0 E).nox [.Constant (.str z) ob p3] _ := pa_cons pe_str pa_nil
  refine wpAny_mono (PAz.run p4 _ _ σ H (fun vs H' => vs = [.str z] ∧ H' = H) (I2.wish _) ⟨rfl, rfl⟩) (fun us s3 hq => ?_) fun _ _ y => y.elim
  obtain ⟨vs', H', I3, rv, rfl, rfl⟩ := hq
  obtain ⟨u3, rfl, _⟩ := vals1 rv
  have I3 := I3.unwish
  obtain ⟨hp3, _⟩ := I3.pin (h1.objs.size, PySem.W.kxs_mw "ValueError.__init__" e) (by simp)
  refine ⟨hp3, ?_⟩
  obtain ⟨t3, ho3⟩ := exo_at I3.hok he
  obtain ⟨h3, g3, d3, tk3, os3⟩ := s3
  refine wpAny_bound_veinit (I3.kIn _ _ hC) ho3 hp3 (by show 1 ≤ sizeLine; rw [sizeLine_eq]; decide) fun h4 t4 k4 e4 => ?_
  refine ⟨rfl, ?_⟩
  have J := I3.write (t' := tk3) (x := e) (e := e) (o := exo e C none) (by rw [he]; exact True.intro) (.inl rfl) k4 ⟨_, e4⟩ (exo_ok e4)
  have eu : upd H' e (exo e C none) = H' := by
    funext b
    by_cases hb : b = e
    · rw [hb, upd_same, he]
    · rw [upd_ne hb]
  rw [eu] at J
  exact J.pins_of fun p hp => nomatch hp
theorem fn_sup {k : Nat} {sp : Sp} {z : Str} {p0 p1 p2 p3 p4 p5 : Pos} {ob : Nat} {rest : List Stmt} (hP : POk P fl) (SC : SupC fl K C f qual st fd cda cc) (S : SupScope N ps (defScope st)) (hsup : mg "super" = none) (len : ∀ vs H Q E, sp vs H Q E → vs.length = ps.length)
    (hb : defBody st = .Expr (.Call (.Attribute (.Call (.Name "super" p0) [] [] p1) "__init__" p2) [.Constant (.str z) ob p3] [] p4) p5 :: rest)
    (fst : ∀ vs H Q E, sp vs H Q E → ∃ e, vs[0]? = some (.ref e) ∧ H e = some (exo e C none))
    {pl : Env → Sem Bool} (hsw : ∀ L, swapsWith (.Call (.Attribute (.Call (.Name "super" p0) [] [] p1) "__init__" p2) [.Constant (.str z) ob p3] [] p4) none p5.line (PySem.W.ksEnv qual (defScope st) L f (.ref cda) cc) = pure false)
    (hform : ∀ env : Env, eval (.Call (.Attribute (.Call (.Name "super" p0) [] [] p1) "__init__" p2) [.Constant (.str z) ob p3] [] p4) env = (do
      let ov ← attributeBase (.Call (.Name "super" p0) [] [] p1) "__init__" env (eval (.Call (.Name "super" p0) [] [] p1) env)
      standAt p2.atName
      let (f', first) ← holding [ov] (getMethod ov "__init__" (pl env))
      callWith p4 f' first (backTo p4 (starEach [.Constant (.str z) ob p3] env)) []))
    (hbody : ∀ (A : Around) (outer : List Env) (s : Shared) (H : Hp) (vs : List V) (Q : VK) (E : XK), Room k (A.deeper (PySem.W.ksEnv qual (defScope st) s.heap.objs.size f (.ref cda) cc)) → sp vs H Q E →
      ∃ t, PSs (cxSup P w K mg base N qual (defScope st) f cda cc A outer s H E).nox rest t ∧ t { nx := fun _ H' => Q .non H', rt := Q } (L2.start N vs) H) :
    FnOk P w K mg base CX0 (k + 1) f fd ps sp := by
  obtain ⟨oc, od, dV, kV, doc, pm, ct, an, osl, efd, lk⟩ := SC.ex
  refine ⟨len, fun A outer s H args us vs Q E hr e0 hbd r hsp => ?_⟩
  have hl := len _ _ _ _ hsp
  have there : ∀ b o, base.get? b = some o → s.heap.get? b = some o := fun b o z => (e0.bs b o z).1
  have KX := e0.mod.kin.keeps there
  have lim := e0.mod.nolimit.keeps there
  obtain ⟨cl, cld, csl, lcell⟩ := SC.cell
  have hloc : ∀ y ∈ ps.zip us, (defScope st).names.lookup y.1 = some .local := fun ⟨n, v⟩ hy => S.locals n (List.of_mem_zip hy).1
  have hint : ∀ L, interactive (PySem.W.ksEnv qual (defScope st) L f (.ref cda) cc) = false := fun L => by
    unfold interactive
    show ((defScope st).kind == .module && _) = false
    rw [S.kind]
    rfl
  subst efd
  refine PySem.ks_codeAny_call_defAt (body := defBody st) (binds := ps.zip us) hr.depth (KX _ _ lk) rfl lim (PySem.W.codeRec_of KX SC.code) rfl hbd S.without hloc (fun h0 hns hk0 => ?_) S.co S.gen S.kind
  show PySem.wpAt _ (A.deeper (PySem.W.ksEnv qual (defScope st) s.heap.objs.size f (.ref cda) cc)) (.func (defBody st) (PySem.W.ksEnv qual (defScope st) s.heap.objs.size f (.ref cda) cc)) (execs (defBody st) (PySem.W.ksEnv qual (defScope st) s.heap.objs.size f (.ref cda) cc)) _ _ _
  have I : Inv (cxSup P w K mg base N qual (defScope st) f cda cc A outer s H E) [] (L2.start N vs) H { s with heap := h0, toks := s.toks + (ps.zip us).length } := inv_sup S hr.hd e0 hl r lcell hns hk0
  obtain ⟨t, ht, hq⟩ := hbody A outer s H vs Q E (hr.deeper _) hsp
  obtain ⟨e, ev, he⟩ := fst _ _ _ _ hsp
  have hN : N[0]? = some ("self" : Str) := by
    have q := S.slf
    rw [← S.pre] at q
    have hp : 0 < ps.length := (List.getElem?_eq_some_iff.mp S.slf).1
    rw [List.getElem?_take_of_lt hp] at q
    exact q
  have hσ : (L2.start N vs)[0]? = some (some (.ref e)) := by
    unfold L2.start
    have hv : 0 < vs.length := (List.getElem?_eq_some_iff.mp ev).1
    rw [List.getElem?_append_left (by simpa using hv), List.getElem?_map, ev]
    rfl
  rw [hb]
  refine PySem.ks_wpAt_execs_cons (PySem.ks_wpAt_mono (sup_stmt hP SC S hsup I hN hσ he (hint _) (hsw _) (hform _)) (fun fl s' hs => ?_) (fun _ _ z => z.elim))
  obtain ⟨rfl, I'⟩ := hs
  refine PySem.wpAt_of_wpAny (wpAny_mono (ht.nox.run [] s' _ _ _ I' hq) (fun way s2 left => ?_) fun _ _ z => z)
  have answer : ∀ (τ : L2.St) (H2 : Hp) (v : V) (u : Value), Inv (cxSup P w K mg base N qual (defScope st) f cda cc A outer s H E) [] τ H2 s2 → RelV v u → Q v H2 → CE outer P w H s Q u s2 :=
    fun τ H2 v u J rel goal => ⟨v, H2, J.os, J.bare, J.base, J.hok, rel, goal⟩
  match way, left with
  | .ret u, ⟨v, τ, H2, J, rel, goal⟩ => exact answer τ H2 v u J rel goal
  | .next, ⟨τ, H2, J, goal⟩ => exact answer τ H2 .non .none J rfl goal
  | .brk, ⟨_, _, _, never⟩ => exact never.elim
  | .cont, ⟨_, _, _, never⟩ => exact never.elim
end
end Fo

namespace Fo
open PySem PySem.Spec PySem.Calls PyProof.Rows L2
/-! ### errors made, asked, read -/
/-- isinstance(e, c), e an error that was made -/
def rIsX (K : PySem.W.Frag) : List V → Hp → VK → Prop := fun xs H Q => ∃ (a D : Addr) (d : Option Addr) (c : V) (cv : Value) (b : Bool), xs = [.ref a, c] ∧ (∀ u, RelV c u → u = cv) ∧ H a = some (exo a D d) ∧ (∀ dx, d = some dx → ∃ fs, H dx = some (exd dx fs)) ∧ ExcC K D ∧ PySem.W.kitOne K (.ref D) cv = some b ∧ Q (.bl b) H
/-- e.f -/
def tXfld (K : PySem.W.Frag) (n : Str) (te : TE) : TE := fun σ H Q => te σ H fun x H1 => ∃ (a C dx : Addr) (fs : List (Str × V)) (v : V), x = .ref a ∧ H1 a = some (exo a C (some dx)) ∧ ExcC K C ∧ PySem.W.findIn K (.ref C) n = some none ∧ H1 dx = some (exd dx fs) ∧ fs.lookup n = some v ∧ Q v H1
/-- C(e), nothing of its own in C -/
def tNewP (C : Addr) (ta : TA) : TE := fun σ H Q => ta σ H fun vs H1 => vs.length ≤ 1000 ∧ ∀ a, H1 a = none → Q (.ref a) (upd H1 a (exo a C none))
/-- C(e), by C's __init__ -/
def tNewI (C : Addr) (sp : Sp) (ta : TA) : TE := fun σ H Q => ta σ H fun vs H1 => vs.length ≤ 1000 ∧ ∀ a, H1 a = none → sp (.ref a :: vs) (upd H1 a (exo a C none)) (fun v H2 => v = .non ∧ Q (.ref a) H2) E0
section
variable {X : Cx} {pins : List (Addr × Obj)} {σ : L2.St} {H : Hp} {s : Shared}
theorem inst_at {a C : Addr} {d : Option Addr} (I : Inv X pins σ H s) (made : H a = some (exo a C d)) (dct : ∀ dx, d = some dx → ∃ fs, H dx = some (exd dx fs)) :
    ∃ t1 od, PySem.W.InstAt s.heap a { cls := .ref C, dict := d, data := .fields #[.ref t1, .none, .none, .none, .bool false, .none] } C od := by
  obtain ⟨t1, here⟩ := exo_at I.hok made
  match d, dct with
  | none, _ => exact ⟨t1, none, here, rfl, rfl, trivial⟩
  | some dx, dct =>
    obtain ⟨fs, place⟩ := dct dx rfl
    obtain ⟨_, ⟨o, _, _, at_dx, _⟩, _⟩ := exd_at I.hok place
    exact ⟨t1, some o, here, rfl, rfl, at_dx⟩
theorem call_isX : CallR X (.builtin "isinstance") (rIsX X.K) := by
  intro pins s σ H xs us Q I vals asked
  obtain ⟨a, D, d, c, cv, b, rfl, class_at, made, dct, facts, answer, goal⟩ := asked
  match us, vals with
  | [_, u], .cons rfl (.cons rel .nil) =>
    cases class_at u rel
    obtain ⟨t1, od, inst⟩ := inst_at I made dct
    have is_class : (PySem.W.clsIn X.K D).isSome = true := by
      obtain ⟨cd, known, _⟩ := PySem.W.any_some facts.hd
      rw [known]
      rfl
    exact PySem.W.kia_one (PySem.W.kitx_exc is_class facts.hg facts.hk facts.hs facts.ha facts.hn facts.ht facts.hm) I.kIn inst answer (fun z => nomatch z) fun tk => ⟨.bl b, H, I.kept (t' := tk) fun _ _ z => z, rfl, goal⟩
theorem pe_xfld {e : Expr} {te : TE} {pos : Pos} {n : Str} (he : PE X e te) (hb : attributeBase e n X.env (eval e X.env) = eval e X.env := by rfl) : PE X (.Attribute e n pos) (tXfld X.K n te) := by
  refine ⟨fun pins s σ H Q I asked => attr_of hb (thn (he.run pins s σ H _ I asked) fun u s1 found => ?_)⟩
  obtain ⟨_, H1, I1, isref, a, C, dx, fs, v, rfl, made, facts, plain, place, value, goal⟩ := found
  cases (show u = Value.ref a from isref)
  obtain ⟨t1, here⟩ := exo_at I1.hok made
  obtain ⟨mA, names, rels⟩ := exd_at I1.hok place
  obtain ⟨od, dict_at, looked⟩ := lookIn_ns names
  have same := rels n
  rw [value] at same
  obtain ⟨u, named, rel⟩ := RelO.some_of same
  have inst : PySem.W.InstAt s1.heap a { cls := .ref C, dict := some dx, data := .fields #[.ref t1, .none, .none, .none, .bool false, .none] } C (some od) := ⟨here, rfl, rfl, dict_at⟩
  exact HandSPX.exc_get I1.kIn inst facts.hg facts.hk facts.hs (PySem.W.findObj_own facts.hd plain rfl ((looked n).trans (congrArg some named))) (handed_of rel) ⟨v, H1, I1.tok _, rel, goal⟩
variable {e : Expr} {es : List Expr} {ta : TA} {x : Str} {p pos : Pos} {C fI : Addr} {k : Nat} {fd : FuncData} {ps : List Str} {sp : Sp}
/-- the call of the class itself is all that is left of C(e, ..) -/
theorem pe_class {rest : List V → Hp → VK → Prop} (kp : PySem.W.keepIn X.K (.ref C) = true) (hg : Gl X x) (hm : X.mg x = some (.ref C)) (ha : PA X (e :: es) ta)
    (run : ∀ (pins : List (Addr × Obj)) (s : Shared) (σ : L2.St) (H : Hp) (us : List Value) (vs : List V) (Q : VK), Inv X pins σ H s → Vals vs us → rest vs H Q → wpAny (model X.prog X.w) X.A (call (.ref C) us) (EP X pins σ Q) X.xe s)
    (hdb : (x == ("__debug__" : Str)) = false) (he : starEach (e :: es) X.env = (false, eval e X.env) :: starEach es X.env) (hpl : (backTo pos (starEach es X.env)).any (·.1) = false) :
    PE X (.Call (.Name x p) (e :: es) [] pos) fun σ H Q => ta σ H fun vs H1 => rest vs H1 Q :=
  ⟨fun pins s σ H _ I asked => wpAny_Call_Name_kw (ld_glob I hg hm (PySem.W.callWith_K (h₀ := X.base) I.ok.mod.kin kp (thn (ha.run pos pins s σ H _ I asked) fun us s1 ⟨vs, H1, J, vals, goal⟩ => ⟨J.kIn, run pins s1 σ H1 us vs _ J vals goal⟩) he hpl) hdb)⟩
theorem few_of {us : List Value} {vs : List V} (vals : Vals vs us) (few : vs.length ≤ 1000) : us.length ≤ sizeLine := by
  have := vals.length
  rw [sizeLine_eq]
  omega
theorem pe_newP (T : OexC X.K C) (iC : PySem.W.findIn X.K (.ref C) "__init__" = some (some (.builtin "ValueError.__init__"))) (hg : Gl X x) (hm : X.mg x = some (.ref C)) (ha : PA X (e :: es) ta)
    (hdb : (x == ("__debug__" : Str)) = false := by decide) (he : starEach (e :: es) X.env = (false, eval e X.env) :: starEach es X.env := by rfl) (hpl : (backTo pos (starEach es X.env)).any (·.1) = false := by rfl) :
    PE X (.Call (.Name x p) (e :: es) [] pos) (tNewP C ta) := by
  refine pe_class (rest := fun vs H Q => vs.length ≤ 1000 ∧ ∀ a, H a = none → Q (.ref a) (upd H a (exo a C none))) T.kC hg hm ha (fun pins s σ H us vs Q I vals asked => ?_) hdb he hpl
  rcases asked with ⟨few, goal⟩
  rcases T.cls with ⟨_, _, _, _, bm, _, _, _, _, _, _, _, _, _, _, known, tail⟩
  rcases s with ⟨hp, gens, dr, tk, os⟩
  refine PySem.W.call_B PySem.F.excBase_ValueError (fun T => PySem.HandSPX.refsVE_contains T bm tail) (I.kIn _ _ known) (PySem.W.looks_findIn I.kIn iC) (few_of vals few) fun hp' keep there _ => ?_
  exact ⟨V.ref (hp.objs.size + 1), _, I.laid (t' := tk) keep (Nat.le_succ _) (exo_ok there), rfl, goal _ (I.hok.fresh (Nat.le_succ _))⟩
/-- the error as it lies when __init__ begins -/
theorem err_laid {hp : Heap} {gens : Array GenState} {dr : PySem.Drawn} {tk : Nat} {os : OsState} (I : Inv X pins σ H ⟨hp, gens, dr, tk, os⟩) (C : Addr) (us : List Value) :
    Inv X pins σ (upd H (hp.objs.size + 1) (exo (hp.objs.size + 1) C none)) ⟨(hp.push (PySem.W.kdv_tup us)).push (PySem.HandSPX.excO C hp.objs.size), gens, dr, tk, os⟩ := by
  refine I.laid (t' := tk) (fun b o here => ?_) (Nat.le_succ _) (exo_ok (t1 := hp.objs.size) ?_)
  · exact Heap.get?_push_of_some _ (Heap.get?_push_of_some _ here)
  · heap_get
theorem pe_newI (T : OexC X.K C) (iC : PySem.W.findIn X.K (.ref C) "__init__" = some (some (.ref fI))) (tI : PySem.W.typeIn X.K (.ref fI) = some (.type "function"))
    (init : FnOk X.prog X.w X.K X.mg X.base CX0 k fI fd ps sp) (room : Room (k + 1) X.A) (binds : Binds X.K fd ps []) (hg : Gl X x) (hm : X.mg x = some (.ref C)) (ha : PA X (e :: es) ta)
    (hdb : (x == ("__debug__" : Str)) = false := by decide) (he : starEach (e :: es) X.env = (false, eval e X.env) :: starEach es X.env := by rfl) (hpl : (backTo pos (starEach es X.env)).any (·.1) = false := by rfl) :
    PE X (.Call (.Name x p) (e :: es) [] pos) (tNewI C sp ta) := by
  refine pe_class (rest := fun vs H Q => vs.length ≤ 1000 ∧ ∀ a, H a = none → sp (.ref a :: vs) (upd H a (exo a C none)) (fun v H2 => v = .non ∧ Q (.ref a) H2) E0) T.kC hg hm ha (fun pins s σ H us vs Q I vals asked => ?_) hdb he hpl
  rcases asked with ⟨few, promise⟩
  rcases T.cls with ⟨_, _, _, _, bm, _, _, _, _, _, _, _, _, _, _, known, tail⟩
  rcases s with ⟨hp, gens, dr, tk, os⟩
  have kept := promise (hp.objs.size + 1) (I.hok.fresh (Nat.le_succ _))
  have J := err_laid I C us
  have all : Vals (V.ref (hp.objs.size + 1) :: vs) (Value.ref (hp.objs.size + 1) :: us ++ []) := by
    rw [List.append_nil]
    exact Paired.cons rfl vals
  have bound := binds _ (Value.ref (hp.objs.size + 1) :: us) J.kIn (all.length.symm.trans (init.len _ _ _ _ kept))
  refine wpAny_call (PySem.HandSPX.call_own PySem.F.excBase_ValueError (fun T => PySem.HandSPX.refsVE_contains T bm tail) (I.kIn _ _ known) (PySem.W.looks_findIn I.kIn iC) (fun own => PySem.W.bind_fn I.kIn own tI) (few_of vals few) ?_)
  refine codeAny_mono (init.run _ X.stack _ _ ⟨Value.ref (hp.objs.size + 1) :: us, []⟩ _ _ _ E0 (room.make C us []) (J.env0.make C us []) bound all kept) fun way s2 left => ?_
  match way, left with
  | .ok (.ret u), left =>
    obtain ⟨_, H2, J2, rel, rfl, goal⟩ := J.after left
    exact And.intro rel ⟨V.ref (hp.objs.size + 1), H2, J2, rfl, goal⟩
end
end Fo

namespace Fo
open PySem PySem.Spec PySem.Calls PyProof.Rows L2
/-! ### what the written part says of own errors, as one test -/
structure ErrK (K : PySem.W.Frag) (C : Addr) : Prop where
  oex : OexC K C
  exc : ExcC K C
def errB (K : PySem.W.Frag) (C : Addr) : Bool :=
  decide (PySem.W.findIn K (.ref C) "__setattr__" = some (some (.builtin "object.__setattr__"))) && (decide (PySem.W.subIn K (.ref C) (.type "BaseException") = some true) && (decide (PySem.W.typeIn K (.ref C) = some (.type "type")) && (PySem.W.keepIn K (.ref C) &&
  (decide (PySem.W.findIn K (.ref C) "__getattribute__" = some (some (.builtin "BaseException.__getattribute__"))) && (decide (PySem.W.findIn K (.ref C) "__getattr__" = some none) && (PySem.W.hasDictIn K C && (decide (PySem.W.findIn K (.ref C) "__class__" = some (some (.builtin "object.__class__"))) &&
  (decide (PySem.W.specialIn K (.builtin "object.__class__") "__get__" = some (some (.builtin "getset_descriptor.__get__"))) && (decide (PySem.W.takesIn K (.builtin "object.__class__") = some true) && decide (PySem.W.mroIn K C (.type "object") = some true))))))))))
theorem errK_of {K : PySem.W.Frag} {C : Addr} {nm q : Str} {N : Addr} {bs bm : List Value} {sn : List Str} {sub : List Value} {ab : Bool} {col : Option Bool} {dd : Option Addr} {k0 k1 k2 k3 k5 : Option Value}
    (lc : K.lookup C = some (excClassObj nm q C N bs bm true sn sub ab col dd k0 k1 k2 k3 k5 "ValueError.__new__")) (rv : PySem.HandSPX.refsVE bm = true) (h : errB K C = true) : ErrK K C := by
  simp only [errB, Bool.and_eq_true, decide_eq_true_eq] at h
  obtain ⟨h1, h2, h3, h4, h5, h6, h7, h8, h9, h10, h11⟩ := h
  exact ⟨⟨⟨_, _, _, _, _, _, _, _, _, _, _, _, _, _, _, lc, rv⟩, h1, h2, h3, h4⟩, ⟨h5, h6, h2, h7, h8, h9, h10, h11⟩⟩
def supB (K : PySem.W.Frag) (C : Addr) : Bool :=
  decide (PySem.W.ks_superIn K C C "__init__" = some (some (.builtin "ValueError.__init__"))) && (decide (PySem.W.subIn K (.ref C) (.type "ValueError") = some true) && (decide (PySem.W.mroIn K C (.ref C) = some true) && decide (PySem.W.nsIn K cStatics "thirdparty.any" = some none)))
theorem supC_of {fl : Str} {K : PySem.W.Frag} {C f cda cc : Addr} {qual : Str} {st : Stmt} {fd : FuncData} (E : ErrK K C) (h : supB K C = true)
    (ex : ∃ (oc : Value) (od : Option Addr) (dV kV doc pm ct : Value) (an : Option Addr) (osl : Array (Option Value)),
      fd = PySem.W.ksFn "__init__" qual (defArgs st) (defBody st) (defScope st) dV kV doc pm an (.ref cda) ct cc ∧ K.lookup f = some ⟨oc, od, .func fd, osl⟩)
    (code : PySem.W.codeIn K (.ref cda) qual = true) (file : ∃ (ccl : Value) (cdd : Option Addr) (vs : Array Value) (ccs : Array (Option Value)) (tf : Tok), K.lookup cda = some ⟨ccl, cdd, .fields vs, ccs⟩ ∧ vs[2]? = some (.str fl tf))
    (cell : ∃ (cl : Value) (cld : Option Addr) (csl : Array (Option Value)), K.lookup cc = some ⟨cl, cld, .cell (some (.ref C)), csl⟩) (head : ((defArgs st).posonlyargs ++ (defArgs st).args).head?.map (·.arg) = some ("self" : Str)) : SupC fl K C f qual st fd cda cc := by
  simp only [supB, Bool.and_eq_true, decide_eq_true_eq] at h
  obtain ⟨h1, h2, h3, h4⟩ := h
  exact ⟨ex, code, file, cell, head, E.oex, h1, h2, h3, h4⟩
/-- which of these classes an error of the i-th is: its own alone; and an error of H, a ValueError -/
def kindsB (K : PySem.W.Frag) (Hc : Addr) (Cs : List Addr) : Bool :=
  (List.range Cs.length).all fun i => decide (PySem.W.kitOne K (.ref (Cs.getD i 0)) (.ref Hc) = some true) && (decide (PySem.W.kitOne K (.ref (Cs.getD i 0)) (.type "ValueError") = some true) &&
    (List.range Cs.length).all fun j => decide (PySem.W.kitOne K (.ref (Cs.getD i 0)) (.ref (Cs.getD j 0)) = some (i == j)))
theorem kinds_of {K : PySem.W.Frag} {Hc : Addr} {Cs : List Addr} (h : kindsB K Hc Cs = true) {i : Nat} (hi : i < Cs.length) :
    PySem.W.kitOne K (.ref (Cs.getD i 0)) (.ref Hc) = some true ∧ PySem.W.kitOne K (.ref (Cs.getD i 0)) (.type "ValueError") = some true ∧ ∀ j, j < Cs.length → PySem.W.kitOne K (.ref (Cs.getD i 0)) (.ref (Cs.getD j 0)) = some (i == j) := by
  have h1 := List.all_eq_true.mp h i (List.mem_range.mpr hi)
  obtain ⟨h2, h1⟩ := Bool.and_eq_true_iff.mp h1
  obtain ⟨h3, h1⟩ := Bool.and_eq_true_iff.mp h1
  exact ⟨of_decide_eq_true h2, of_decide_eq_true h3, fun j hj => of_decide_eq_true (List.all_eq_true.mp h1 j (List.mem_range.mpr hj))⟩
theorem free_of {sc : Scope} (h : sc.names.all (fun p => decide (p.2 ≠ .free) || decide (p.1 = ("__class__" : Str))) = true) : ∀ y, sc.names.lookup y = some .free → y = ("__class__" : Str) := fun y hy => by
  have q := List.all_eq_true.mp h _ (PySem.mem_of_lookup hy)
  rcases Bool.or_eq_true_iff.mp q with z | z
  · exact absurd rfl (of_decide_eq_true z)
  · exact of_decide_eq_true z
/-- the i-th def in a class -/
def inner (st : Stmt) (i : Nat) : Stmt := match st with
  | .ClassDef (body := b) .. => b.getD i (.Pass ⟨0, 0, 0, 0⟩)
  | _ => .Pass ⟨0, 0, 0, 0⟩
section
variable {X : Cx} {K : PySem.W.Frag} {e : Expr} {te : TE} {pos : Pos} {n : Str}
theorem kIsX (K : PySem.W.Frag) (eK : X.K = K) : CallR X (.builtin "isinstance") (rIsX K) := by subst eK; exact call_isX
theorem kFld (K : PySem.W.Frag) (eK : X.K = K) (h : PE X e (tXfld X.K n te)) : PE X e (tXfld K n te) := by subst eK; exact h
theorem kOst (K : PySem.W.Frag) (eK : X.K = K) {st : Stmt} {f : Str} {to te : TE} (h : PS X st (tOst X.K f to te)) : PS X st (tOst K f to te) := by subst eK; exact h
end
end Fo

-- @classes
namespace Kx
open PySem PySem.Spec PyProof.Rows L2 Fo
def topS (i : Nat) : Stmt := PySem.Challenge.pw_foeholes_k14_refusals_made_by_hand.main.body.getD i (.Pass ⟨0, 0, 0, 0⟩)
abbrev s_copied : Stmt := topS 15
theorem sc_copied : FnScope ["thing", "part", "key"] ["thing"] (defScope s_copied) :=
  ⟨rfl, rfl, rfl, by decide +kernel, rfl, by decide +kernel, by decide +kernel⟩
abbrev s__law_open : Stmt := topS 17
theorem sc__law_open : FnScope ["script", "cells", "k", "cell"] ["script"] (defScope s__law_open) :=
  ⟨rfl, rfl, rfl, by decide +kernel, rfl, by decide +kernel, by decide +kernel⟩
abbrev s__law_spread : Stmt := topS 18
theorem sc__law_spread : FnScope ["cell", "at", "primes", "one", "two", "three"] ["cell", "at"] (defScope s__law_spread) :=
  ⟨rfl, rfl, rfl, by decide +kernel, rfl, by decide +kernel, by decide +kernel⟩
abbrev s__law_take : Stmt := topS 19
theorem sc__law_take : FnScope ["pen", "amount", "at", "cell", "found"] ["pen", "amount"] (defScope s__law_take) :=
  ⟨rfl, rfl, rfl, by decide +kernel, rfl, by decide +kernel, by decide +kernel⟩
abbrev s__law_same : Stmt := topS 20
theorem sc__law_same : FnScope ["found", "due", "one", "other"] ["found", "due"] (defScope s__law_same) :=
  ⟨rfl, rfl, rfl, by decide +kernel, rfl, by decide +kernel, by decide +kernel⟩
abbrev s__law_kinds : Stmt := topS 21
theorem sc__law_kinds : FnScope ["one", "found"] ["one"] (defScope s__law_kinds) :=
  ⟨rfl, rfl, rfl, by decide +kernel, rfl, by decide +kernel, by decide +kernel⟩
abbrev s_law : Stmt := topS 22
theorem sc_law : FnScope ["script", "pen", "turn", "word", "hole", "name", "thing", "some", "k", "one", "fields", "j"] ["script"] (defScope s_law) :=
  ⟨rfl, rfl, rfl, by decide +kernel, rfl, by decide +kernel, by decide +kernel⟩
abbrev s_NoWord : Stmt := inner (topS 2) 0
theorem sc_NoWord : SupScope ["self", "hole"] ["self", "hole"] (defScope s_NoWord) :=
  ⟨rfl, rfl, rfl, by decide +kernel, rfl, by decide +kernel, by decide +kernel, free_of (by decide +kernel), by decide +kernel, by decide +kernel, rfl⟩
abbrev s_NoName : Stmt := inner (topS 3) 0
theorem sc_NoName : SupScope ["self", "name"] ["self", "name"] (defScope s_NoName) :=
  ⟨rfl, rfl, rfl, by decide +kernel, rfl, by decide +kernel, by decide +kernel, free_of (by decide +kernel), by decide +kernel, by decide +kernel, rfl⟩
abbrev s_Taken : Stmt := inner (topS 4) 0
theorem sc_Taken : SupScope ["self", "name"] ["self", "name"] (defScope s_Taken) :=
  ⟨rfl, rfl, rfl, by decide +kernel, rfl, by decide +kernel, by decide +kernel, free_of (by decide +kernel), by decide +kernel, by decide +kernel, rfl⟩
abbrev s_Held : Stmt := inner (topS 5) 0
theorem sc_Held : SupScope ["self", "name"] ["self", "name"] (defScope s_Held) :=
  ⟨rfl, rfl, rfl, by decide +kernel, rfl, by decide +kernel, by decide +kernel, free_of (by decide +kernel), by decide +kernel, by decide +kernel, rfl⟩
abbrev s_Full : Stmt := inner (topS 6) 0
theorem sc_Full : SupScope ["self", "most"] ["self", "most"] (defScope s_Full) :=
  ⟨rfl, rfl, rfl, by decide +kernel, rfl, by decide +kernel, by decide +kernel, free_of (by decide +kernel), by decide +kernel, by decide +kernel, rfl⟩
structure Top (K : PySem.W.Frag) (mg : Str → Option Value) where
  f_copied : Addr
  fd_copied : FuncData
  F_copied : Fun K "copied" "copied" s_copied f_copied fd_copied
  b_copied : Binds K fd_copied ["thing"] []
  g_copied : mg "copied" = some (.ref f_copied)
  f__law_open : Addr
  fd__law_open : FuncData
  F__law_open : Fun K "_law_open" "_law_open" s__law_open f__law_open fd__law_open
  b__law_open : Binds K fd__law_open ["script"] []
  g__law_open : mg "_law_open" = some (.ref f__law_open)
  f__law_spread : Addr
  fd__law_spread : FuncData
  F__law_spread : Fun K "_law_spread" "_law_spread" s__law_spread f__law_spread fd__law_spread
  b__law_spread : Binds K fd__law_spread ["cell", "at"] []
  g__law_spread : mg "_law_spread" = some (.ref f__law_spread)
  f__law_take : Addr
  fd__law_take : FuncData
  F__law_take : Fun K "_law_take" "_law_take" s__law_take f__law_take fd__law_take
  b__law_take : Binds K fd__law_take ["pen", "amount"] []
  g__law_take : mg "_law_take" = some (.ref f__law_take)
  f__law_same : Addr
  fd__law_same : FuncData
  F__law_same : Fun K "_law_same" "_law_same" s__law_same f__law_same fd__law_same
  b__law_same : Binds K fd__law_same ["found", "due"] []
  g__law_same : mg "_law_same" = some (.ref f__law_same)
  f__law_kinds : Addr
  fd__law_kinds : FuncData
  F__law_kinds : Fun K "_law_kinds" "_law_kinds" s__law_kinds f__law_kinds fd__law_kinds
  b__law_kinds : Binds K fd__law_kinds ["one"] []
  g__law_kinds : mg "_law_kinds" = some (.ref f__law_kinds)
  f_law : Addr
  fd_law : FuncData
  F_law : Fun K "law" "law" s_law f_law fd_law
  b_law : Binds K fd_law ["script"] []
  g_law : mg "law" = some (.ref f_law)
  fl : Str
  C_HoleError : Addr
  g_HoleError : mg "HoleError" = some (.ref C_HoleError)
  C_NoWord : Addr
  g_NoWord : mg "NoWord" = some (.ref C_NoWord)
  E_NoWord : ErrK K C_NoWord
  f_NoWord : Addr
  fd_NoWord : FuncData
  cda_NoWord : Addr
  cc_NoWord : Addr
  S_NoWord : SupC fl K C_NoWord f_NoWord "NoWord.__init__" s_NoWord fd_NoWord cda_NoWord cc_NoWord
  i_NoWord : PySem.W.findIn K (.ref C_NoWord) "__init__" = some (some (.ref f_NoWord))
  t_NoWord : PySem.W.typeIn K (.ref f_NoWord) = some (.type "function")
  b_NoWord : Binds K fd_NoWord ["self", "hole"] []
  n_NoWord : PySem.W.findIn K (.ref C_NoWord) "hole" = some none
  C_NoName : Addr
  g_NoName : mg "NoName" = some (.ref C_NoName)
  E_NoName : ErrK K C_NoName
  f_NoName : Addr
  fd_NoName : FuncData
  cda_NoName : Addr
  cc_NoName : Addr
  S_NoName : SupC fl K C_NoName f_NoName "NoName.__init__" s_NoName fd_NoName cda_NoName cc_NoName
  i_NoName : PySem.W.findIn K (.ref C_NoName) "__init__" = some (some (.ref f_NoName))
  t_NoName : PySem.W.typeIn K (.ref f_NoName) = some (.type "function")
  b_NoName : Binds K fd_NoName ["self", "name"] []
  n_NoName : PySem.W.findIn K (.ref C_NoName) "name" = some none
  C_Taken : Addr
  g_Taken : mg "Taken" = some (.ref C_Taken)
  E_Taken : ErrK K C_Taken
  f_Taken : Addr
  fd_Taken : FuncData
  cda_Taken : Addr
  cc_Taken : Addr
  S_Taken : SupC fl K C_Taken f_Taken "Taken.__init__" s_Taken fd_Taken cda_Taken cc_Taken
  i_Taken : PySem.W.findIn K (.ref C_Taken) "__init__" = some (some (.ref f_Taken))
  t_Taken : PySem.W.typeIn K (.ref f_Taken) = some (.type "function")
  b_Taken : Binds K fd_Taken ["self", "name"] []
  n_Taken : PySem.W.findIn K (.ref C_Taken) "name" = some none
  C_Held : Addr
  g_Held : mg "Held" = some (.ref C_Held)
  E_Held : ErrK K C_Held
  f_Held : Addr
  fd_Held : FuncData
  cda_Held : Addr
  cc_Held : Addr
  S_Held : SupC fl K C_Held f_Held "Held.__init__" s_Held fd_Held cda_Held cc_Held
  i_Held : PySem.W.findIn K (.ref C_Held) "__init__" = some (some (.ref f_Held))
  t_Held : PySem.W.typeIn K (.ref f_Held) = some (.type "function")
  b_Held : Binds K fd_Held ["self", "name"] []
  n_Held : PySem.W.findIn K (.ref C_Held) "name" = some none
  C_Full : Addr
  g_Full : mg "Full" = some (.ref C_Full)
  E_Full : ErrK K C_Full
  f_Full : Addr
  fd_Full : FuncData
  cda_Full : Addr
  cc_Full : Addr
  S_Full : SupC fl K C_Full f_Full "Full.__init__" s_Full fd_Full cda_Full cc_Full
  i_Full : PySem.W.findIn K (.ref C_Full) "__init__" = some (some (.ref f_Full))
  t_Full : PySem.W.typeIn K (.ref f_Full) = some (.type "function")
  b_Full : Binds K fd_Full ["self", "most"] []
  n_Full : PySem.W.findIn K (.ref C_Full) "most" = some none
  C_NoWay : Addr
  g_NoWay : mg "NoWay" = some (.ref C_NoWay)
  E_NoWay : ErrK K C_NoWay
  i_NoWay : PySem.W.findIn K (.ref C_NoWay) "__init__" = some (some (.builtin "ValueError.__init__"))
  C_NoHole : Addr
  g_NoHole : mg "NoHole" = some (.ref C_NoHole)
  E_NoHole : ErrK K C_NoHole
  i_NoHole : PySem.W.findIn K (.ref C_NoHole) "__init__" = some (some (.builtin "ValueError.__init__"))
  C_NoNumber : Addr
  g_NoNumber : mg "NoNumber" = some (.ref C_NoNumber)
  E_NoNumber : ErrK K C_NoNumber
  i_NoNumber : PySem.W.findIn K (.ref C_NoNumber) "__init__" = some (some (.builtin "ValueError.__init__"))
  C_NoBook : Addr
  g_NoBook : mg "NoBook" = some (.ref C_NoBook)
  E_NoBook : ErrK K C_NoBook
  i_NoBook : PySem.W.findIn K (.ref C_NoBook) "__init__" = some (some (.builtin "ValueError.__init__"))
  C_NoGuide : Addr
  g_NoGuide : mg "NoGuide" = some (.ref C_NoGuide)
  E_NoGuide : ErrK K C_NoGuide
  i_NoGuide : PySem.W.findIn K (.ref C_NoGuide) "__init__" = some (some (.builtin "ValueError.__init__"))
  C_NoReader : Addr
  g_NoReader : mg "NoReader" = some (.ref C_NoReader)
  E_NoReader : ErrK K C_NoReader
  i_NoReader : PySem.W.findIn K (.ref C_NoReader) "__init__" = some (some (.builtin "ValueError.__init__"))
  C_NoWeb : Addr
  g_NoWeb : mg "NoWeb" = some (.ref C_NoWeb)
  E_NoWeb : ErrK K C_NoWeb
  i_NoWeb : PySem.W.findIn K (.ref C_NoWeb) "__init__" = some (some (.builtin "ValueError.__init__"))
  C_NoFrame : Addr
  g_NoFrame : mg "NoFrame" = some (.ref C_NoFrame)
  E_NoFrame : ErrK K C_NoFrame
  i_NoFrame : PySem.W.findIn K (.ref C_NoFrame) "__init__" = some (some (.builtin "ValueError.__init__"))
  kinds : kindsB K C_HoleError [C_NoWord, C_NoName, C_Taken, C_Held, C_Full, C_NoWay, C_NoHole, C_NoNumber, C_NoBook, C_NoGuide, C_NoReader, C_NoWeb, C_NoFrame] = true
  m_ValueError : mg "ValueError" = none
  m_bool : mg "bool" = none
  m_dict : mg "dict" = none
  m_enumerate : mg "enumerate" = none
  m_int : mg "int" = none
  m_isinstance : mg "isinstance" = none
  m_len : mg "len" = none
  m_list : mg "list" = none
  m_range : mg "range" = none
  m_str : mg "str" = none
  m_super : mg "super" = none
  m_tuple : mg "tuple" = none
  m_zip : mg "zip" = none
end Kx

namespace Kx
open PySem PySem.Spec PyProof.Rows L2 Fo
section
variable {P : Program} {w : World} {K : PySem.W.Frag} {mg : Str → Option Value} {base : Heap}
def primes : List Int := [2147483629, 2147483587, 2147483579, 2147483563, 2147483549, 2147483543, 2147483497, 2147483489, 2147483477, 2147483423, 2147483399, 2147483353, 2147483323]
theorem primes_in : ∀ p ∈ primes, 0 < p ∧ p < 2147483648 := by decide
theorem prime_at {i : Int} : ∃ v : Int, atI (primes.map V.int) (i.fmod 13) = some (.int v) ∧ 0 < v ∧ v < 2147483648 := by
  have f := fmod_in (a := i) (b := 13) (by decide)
  obtain ⟨v, e, m⟩ := at_int (xs := primes) f.1 f.2
  exact ⟨v, e, primes_in v m⟩
theorem pow17 (k : Nat) : (10 : Int) ^ Int.toNat 17 + (k : Int) ≠ 0 := by
  have : (0 : Int) < 10 ^ Int.toNat 17 := by decide
  omega
def sp_spread (K : PySem.W.Frag) : Sp := fun vs H Q _ => ∃ (cell : Int) (k : Nat), vs = [.int cell, .int k] ∧ k ≤ 1048576 ∧ ∀ H' r, Same H H' → Q (.int r) H'
theorem ok_spread (T : Top K mg) : FnOk P w K mg base CX0 1 T.f__law_spread T.fd__law_spread ["cell", "at"] (sp_spread K) := by
  refine T.F__law_spread.ok sc__law_spread (fun vs H Q E h => ?_) (fun cdv A outer s H vs Q E hr h => ?_)
  · obtain ⟨a, ns, rfl, _⟩ := h
    rfl
  obtain ⟨cell, k, rfl, hk, q⟩ := h
  refine ⟨_, (pss_cons (ps_if (pt_cmpR op_geG (pv 0) (pe_op op_pow pe_int pe_int) (nomark _)) (pss_one (ps_ret (pv 0))) pss_nil)
    (pss_cons (ps_set (i := 2) sc__law_spread.nd rfl (Or.inl rfl) (pe_lstN (pa_cons pe_int (pa_cons pe_int (pa_cons pe_int (pa_cons pe_int (pa_cons pe_int (pa_cons pe_int (pa_cons pe_int (pa_cons pe_int pa_nil))))))))))
    (pss_cons (ps_set (i := 2) sc__law_spread.nd rfl (Or.inl rfl) (pe_op op_addG (pv 2) (pe_lstN (pa_cons pe_int (pa_cons pe_int (pa_cons pe_int (pa_cons pe_int (pa_cons pe_int pa_nil))))))))
    (pss_cons (ps_set (i := 3) sc__law_spread.nd rfl (Or.inl rfl) (pe_op op_modN (pe_op op_pow (pe_op op_addG (pe_op op_addG (pe_op op_mulG (pe_op op_modN (pv 0) pe_int) (pe_op op_addG (pe_op op_mulG pe_int (pv 1)) pe_int)) (pe_op op_mulG (pv 1) pe_int)) pe_int) pe_int) (pe_ix (kIx K rfl) (pv 2) (pe_op op_modN (pv 1) pe_int) (fun _ _ => rfl))))
    (pss_cons (ps_set (i := 4) sc__law_spread.nd rfl (Or.inl rfl) (pe_op op_modN (pe_op op_pow (pe_op op_addG (pe_op op_addG (pe_op op_mulG (pv 3) (pe_op op_addG (pv 1) pe_int)) (pe_op op_modN (pv 0) pe_int)) pe_int) pe_int) (pe_ix (kIx K rfl) (pv 2) (pe_op op_modN (pe_op op_addG (pv 1) pe_int) pe_int) (fun _ _ => rfl))))
    (pss_cons (ps_set (i := 5) sc__law_spread.nd rfl (Or.inl rfl) (pe_op op_modN (pe_op op_pow (pe_op op_addG (pe_op op_addG (pv 4) (pe_op op_modN (pv 3) pe_int)) (pv 1)) pe_int) (pe_ix (kIx K rfl) (pv 2) (pe_op op_modN (pe_op op_addG (pv 1) pe_int) pe_int) (fun _ _ => rfl))))
    (pss_one (ps_ret (pe_op op_addG (pe_op op_mulG (pe_op op_addG (pe_op op_mulG (pv 3) pe_int) (pv 4)) pe_int) (pv 5)))))))))), ?_⟩
  refine ⟨_, rfl, _, _, rfl, rfl, ⟨by decide, by decide, by decide⟩, _, _, rfl, rfl, _, rfl, ite2 (fun _ => ?_) (fun _ => ?_)⟩
  · exact ⟨_, rfl, q _ _ (Same.refl _)⟩
  refine ⟨by decide, fun l H1 nl s1 e1 => ?_⟩
  refine ⟨_, rfl, by decide, fun l2 H2 nl2 s2 e2 => ?_⟩
  refine Or.inr (Or.inr (Or.inl ⟨_, _, _, _, rfl, rfl, s2 _ _ e1, e2, by decide, fun l3 H3 nl3 s3 e3 => ?_⟩))
  have hl : H3 l3 = some (.lst (primes.map V.int)) := e3
  have c1 := fmod_in (a := cell) (b := 1000000007) (by decide)
  have c2 := fmod_in (a := cell) (b := 65537) (by decide)
  obtain ⟨p1, i1, a1, b1⟩ := prime_at (i := k)
  obtain ⟨p2, i2, a2, b2⟩ := prime_at (i := (k : Int) + 5)
  obtain ⟨p3, i3, a3, b3⟩ := prime_at (i := (k : Int) + 7)
  -- one
  refine ⟨_, rfl, ?_⟩; (first | refine ⟨_, _, rfl, rfl, (by omega), ?_⟩ | refine Or.inl ⟨_, _, rfl, rfl, (by omega), ?_⟩); refine ⟨_, rfl, ?_⟩; (first | refine ⟨_, _, rfl, rfl, (mulR (by omega)), ?_⟩ | refine Or.inl ⟨_, _, rfl, rfl, (mulR (by omega)), ?_⟩); (first | refine Or.inl ⟨_, _, rfl, rfl, ?_⟩ | refine ⟨_, _, rfl, rfl, ?_⟩)
  (first | refine ⟨_, _, rfl, rfl, (mulL (by omega)), ?_⟩ | refine Or.inl ⟨_, _, rfl, rfl, (mulL (by omega)), ?_⟩); refine ⟨_, rfl, ?_⟩; (first | refine ⟨_, _, rfl, rfl, (mulR (by decide)), ?_⟩ | refine Or.inl ⟨_, _, rfl, rfl, (mulR (by decide)), ?_⟩); (first | refine Or.inl ⟨_, _, rfl, rfl, ?_⟩ | refine ⟨_, _, rfl, rfl, ?_⟩); (first | refine Or.inl ⟨_, _, rfl, rfl, ?_⟩ | refine ⟨_, _, rfl, rfl, ?_⟩)
  have m1 := mul_in (a := cell.fmod 1000000007) (b := 2 * (k : Int) + 69069) (A := 1000000007) (B := 2200000) c1.1 c1.2 (by omega) (by omega)
  refine ⟨_, _, rfl, rfl, ⟨by decide, by decide, (by show Int.natAbs _ < _; omega)⟩, ?_⟩
  refine ⟨_, rfl, ?_⟩; refine ⟨_, rfl, ?_⟩; (first | refine ⟨_, _, rfl, rfl, (by omega), ?_⟩ | refine Or.inl ⟨_, _, rfl, rfl, (by omega), ?_⟩); refine Or.inl ⟨_, _, _, _, rfl, rfl, SqL.of hl, i1, ?_⟩
  refine modL rfl rfl a1 (fun one o0 o1 => ?_)
  -- two
  refine ⟨_, rfl, ?_⟩; refine ⟨_, rfl, ?_⟩; (first | refine Or.inl ⟨_, _, rfl, rfl, ?_⟩ | refine ⟨_, _, rfl, rfl, ?_⟩); (first | refine ⟨_, _, rfl, rfl, (mulL (by omega)), ?_⟩ | refine Or.inl ⟨_, _, rfl, rfl, (mulL (by omega)), ?_⟩); refine ⟨_, rfl, ?_⟩; (first | refine ⟨_, _, rfl, rfl, (by omega), ?_⟩ | refine Or.inl ⟨_, _, rfl, rfl, (by omega), ?_⟩); (first | refine Or.inl ⟨_, _, rfl, rfl, ?_⟩ | refine ⟨_, _, rfl, rfl, ?_⟩); (first | refine Or.inl ⟨_, _, rfl, rfl, ?_⟩ | refine ⟨_, _, rfl, rfl, ?_⟩)
  have m2 := mul_in (a := one) (b := (k : Int) + 3) (A := 2147483648) (B := 1048580) o0 (by omega) (by omega) (by omega)
  refine ⟨_, _, rfl, rfl, ⟨by decide, by decide, (by show Int.natAbs _ < _; omega)⟩, ?_⟩
  refine ⟨_, rfl, ?_⟩; refine ⟨_, rfl, ?_⟩; (first | refine Or.inl ⟨_, _, rfl, rfl, ?_⟩ | refine ⟨_, _, rfl, rfl, ?_⟩); (first | refine ⟨_, _, rfl, rfl, (by omega), ?_⟩ | refine Or.inl ⟨_, _, rfl, rfl, (by omega), ?_⟩); refine Or.inl ⟨_, _, _, _, rfl, rfl, SqL.of hl, i2, ?_⟩
  refine modL rfl rfl a2 (fun two t0 t1 => ?_)
  -- three
  have c3 := fmod_in (a := one) (b := 1009) (by decide)
  refine ⟨_, rfl, ?_⟩; refine ⟨_, rfl, ?_⟩; (first | refine ⟨_, _, rfl, rfl, (by omega), ?_⟩ | refine Or.inl ⟨_, _, rfl, rfl, (by omega), ?_⟩); (first | refine Or.inl ⟨_, _, rfl, rfl, ?_⟩ | refine ⟨_, _, rfl, rfl, ?_⟩); refine ⟨_, rfl, ?_⟩; (first | refine Or.inl ⟨_, _, rfl, rfl, ?_⟩ | refine ⟨_, _, rfl, rfl, ?_⟩)
  refine ⟨_, _, rfl, rfl, ⟨by decide, by decide, (by show Int.natAbs _ < _; omega)⟩, ?_⟩
  refine ⟨_, rfl, ?_⟩; refine ⟨_, rfl, ?_⟩; (first | refine Or.inl ⟨_, _, rfl, rfl, ?_⟩ | refine ⟨_, _, rfl, rfl, ?_⟩); (first | refine ⟨_, _, rfl, rfl, (by omega), ?_⟩ | refine Or.inl ⟨_, _, rfl, rfl, (by omega), ?_⟩); refine Or.inl ⟨_, _, _, _, rfl, rfl, SqL.of hl, i3, ?_⟩; refine modL rfl rfl a3 (fun r r0 r1 => ?_)
  -- the end
  refine ⟨_, rfl, ?_⟩; (first | refine ⟨_, _, rfl, rfl, (mulR (by decide)), ?_⟩ | refine Or.inl ⟨_, _, rfl, rfl, (mulR (by decide)), ?_⟩); refine ⟨_, rfl, ?_⟩; (first | refine Or.inl ⟨_, _, rfl, rfl, ?_⟩ | refine ⟨_, _, rfl, rfl, ?_⟩); (first | refine ⟨_, _, rfl, rfl, (mulR (by decide)), ?_⟩ | refine Or.inl ⟨_, _, rfl, rfl, (mulR (by decide)), ?_⟩); refine ⟨_, rfl, ?_⟩; (first | refine Or.inl ⟨_, _, rfl, rfl, ?_⟩ | refine ⟨_, _, rfl, rfl, ?_⟩)
  exact q _ _ ((s1.trans s2).trans s3)
def sp_take (K : PySem.W.Frag) : Sp := fun vs H Q _ => ∃ (p c : Addr) (n : Nat) (m : Int), vs = [.ref p, .int m] ∧ Pen H p c (n + 1) ∧ 0 < m ∧ m < 1000000 ∧ ∀ H' r, But p H H' → Pen H' p c n → 0 ≤ r → r < m → Q (.int r) H'
theorem ok_take (T : Top K mg) : FnOk P w K mg base CX0 2 T.f__law_take T.fd__law_take ["pen", "amount"] (sp_take K) := by
  have G__law_spread := ok_spread (P := P) (w := w) (base := base) T
  refine T.F__law_take.ok sc__law_take (fun vs H Q E h => ?_) (fun cdv A outer s H vs Q E hr h => ?_)
  · obtain ⟨a, c, ns, m, rfl, _⟩ := h
    rfl
  obtain ⟨p, c, n, m, rfl, hp, hm, hm2, q⟩ := h
  obtain ⟨cs, k, left, h1, h2, h3, h4, h5⟩ := hp
  refine ⟨_, (pss_cons (ps_if (pt_cmpR op_ltG (pe_ix (kIx K rfl) (pv 0) pe_int (fun _ _ => rfl)) (pv 1) (nomark _)) (pss_cons (ps_set (i := 2) sc__law_take.nd rfl (Or.inl rfl) (pe_ix (kIx K rfl) (pv 0) pe_int (fun _ _ => rfl)))
    (pss_cons (ps_set (i := 3) sc__law_take.nd rfl (Or.inl rfl) pe_int)
    (pss_cons (ps_if (pt_cmpR op_ltG (pv 2) (pe_callB (kLen K rfl) (by rfl) T.m_len PySem.boot_len (pa_cons (pe_ix (kIx K rfl) (pv 0) pe_int (fun _ _ => rfl)) pa_nil)) (nomark _)) (pss_one (ps_set (i := 3) sc__law_take.nd rfl (Or.inl rfl) (pe_ix (kIx K rfl) (pe_ix (kIx K rfl) (pv 0) pe_int (fun _ _ => rfl)) (pv 2) (fun _ _ => rfl)))) (pss_one (ps_if (pt_cmpR op_gtG (pe_callB (kLen K rfl) (by rfl) T.m_len PySem.boot_len (pa_cons (pe_ix (kIx K rfl) (pv 0) pe_int (fun _ _ => rfl)) pa_nil)) pe_int (nomark _)) (pss_one (ps_set (i := 3) sc__law_take.nd rfl (Or.inl rfl) (pe_op op_modN (pe_ix (kIx K rfl) (pe_ix (kIx K rfl) (pv 0) pe_int (fun _ _ => rfl)) (pe_op op_modN (pe_op op_addG (pe_op op_mulG (pv 2) pe_int) pe_int) (pe_callB (kLen K rfl) (by rfl) T.m_len PySem.boot_len (pa_cons (pe_ix (kIx K rfl) (pv 0) pe_int (fun _ _ => rfl)) pa_nil))) (fun _ _ => rfl)) (pe_op op_addG (pe_op op_pow pe_int pe_int) (pv 2))))) pss_nil)))
    (pss_cons (ps_asg (pe_op op_addG (pv 2) pe_int) (pg_sub (pv 0) pe_int set_listN))
    (pss_one (ps_asg (pe_call G__law_spread (hr.mono (by first | decide | omega)) (by rfl) T.g__law_spread T.F__law_spread.kp T.b__law_spread .nil pass0 (pa_cons (pv 3) (pa_cons (pv 2) pa_nil))) (pg_sub (pv 0) pe_int set_listN))))))) pss_nil)
    (pss_cons (ps_set (i := 4) sc__law_take.nd rfl (Or.inl rfl) (pe_op op_modN (pe_ix (kIx K rfl) (pv 0) pe_int (fun _ _ => rfl)) (pv 1)))
    (pss_cons (ps_asg (pe_op op_fdivN (pe_ix (kIx K rfl) (pv 0) pe_int (fun _ _ => rfl)) (pv 1)) (pg_sub (pv 0) pe_int set_listN))
    (pss_one (ps_ret (pv 4)))))), ?_⟩
  -- the end, from any state with pen[2] = left2
  have fin : ∀ (H2 : Hp) (k2 : Nat) (left2 : Int) (σ2 σ3 : Option V), But p H H2 → H2 p = some (.lst [.ref c, .int k2, .int left2]) → H2 c = some (.lst (cs.map V.int)) → k2 + n ≤ 1048576 →
      (tSeq (tAsg (tOp (rI (fun _ j => j ≠ 0) fun i j => .int (i.fmod j)) (tOp (rIx K) (tVar 0) (tC (.int 2))) (tVar 1)) (gName 4))
        (tSeq (tAsg (tOp (rI CDivN fun i j => .int (i.fdiv j)) (tOp (rIx K) (tVar 0) (tC (.int 2))) (tVar 1)) (gSub (tVar 0) (tC (.int 2)) rSetN)) (tRet (tVar 4))))
        { nx := fun _ H' => Q .non H', rt := Q } [some (.ref p), some (.int m), σ2, σ3, none] H2 := by
    intro H2 k2 left2 σ2 σ3 b2 e1 e2 hk2
    refine ⟨_, rfl, ?_⟩; refine Or.inl ⟨_, _, _, _, rfl, rfl, SqL.of e1, rfl, ?_⟩; refine ⟨_, rfl, ?_⟩; (first | refine ⟨_, _, rfl, rfl, (by omega), ?_⟩ | refine Or.inl ⟨_, _, rfl, rfl, (by omega), ?_⟩)
    have f := fmod_in (a := left2) hm
    refine ⟨_, rfl, ?_⟩; refine Or.inl ⟨_, _, _, _, rfl, rfl, SqL.of e1, rfl, ?_⟩; refine ⟨_, rfl, ?_⟩; (first | refine ⟨_, _, rfl, rfl, ⟨by omega, by omega⟩, ?_⟩ | refine Or.inl ⟨_, _, rfl, rfl, ⟨by omega, by omega⟩, ?_⟩)
    refine ⟨_, rfl, _, _, _, _, rfl, rfl, e1, rfl, fun H3 b3 e3 => ?_⟩
    refine ⟨_, rfl, ?_⟩
    exact q _ _ (b2.trans b3) ⟨cs, k2, _, e3, b3 _ _ h5 e2, h3, hk2, h5⟩ f.1 f.2
  refine ⟨_, rfl, ?_⟩; refine Or.inl ⟨_, _, _, _, rfl, rfl, SqL.of h1, rfl, ?_⟩; refine ⟨_, rfl, ?_⟩; (first | refine Or.inl ⟨_, _, rfl, rfl, ?_⟩ | refine ⟨_, _, rfl, rfl, ?_⟩); refine ⟨_, rfl, ?_⟩
  refine ite2 (fun _ => ?_) (fun _ => ?_)
  · refine ⟨_, rfl, ?_⟩; refine Or.inl ⟨_, _, _, _, rfl, rfl, SqL.of h1, rfl, ?_⟩; refine ⟨_, rfl, ?_⟩
    -- the cell: any int
    have cell : ∀ (z : Int) (D : Ends), (∀ (H' : Hp) (left2 : Int), But p H H' → H' p = some (.lst [.ref c, .int ((k + 1 : Nat) : Int), .int left2]) → H' c = some (.lst (cs.map V.int)) → D.nx [some (.ref p), some (.int m), some (.int k), some (.int z), none] H') →
      (tSeq (tAsg (tOp rAddG (tVar 2) (tC (.int 1))) (gSub (tVar 0) (tC (.int 1)) rSetN)) (tAsg (tCall (sp_spread K) [] E0 (tCons (tVar 3) (tCons (tVar 2) tNil))) (gSub (tVar 0) (tC (.int 2)) rSetN)))
        D [some (.ref p), some (.int m), some (.int k), some (.int z), none] H := by
      intro z D hD
      refine ⟨_, rfl, ?_⟩; (first | refine Or.inl ⟨_, _, rfl, rfl, ?_⟩ | refine ⟨_, _, rfl, rfl, ?_⟩)
      refine ⟨_, rfl, _, _, _, _, rfl, rfl, h1, rfl, fun H3 b3 e3 => ?_⟩
      refine ⟨_, rfl, ?_⟩; refine ⟨_, rfl, ?_⟩
      refine ⟨_, _, rfl, by omega, fun H4 r s4 => ?_⟩
      refine ⟨_, rfl, _, _, _, _, rfl, rfl, s4 _ _ e3, rfl, fun H5 b5 e5 => ?_⟩
      exact hD _ r ((b3.trans (same_but p s4)).trans b5) (by rw [e5]; rfl) (b5 _ _ h5 (s4 _ _ (b3 _ _ h5 h2)))
    have goon : ∀ (z : Int) (H' : Hp) (left2 : Int), But p H H' → H' p = some (.lst [.ref c, .int ((k + 1 : Nat) : Int), .int left2]) → H' c = some (.lst (cs.map V.int)) → _ := fun z H' l2 b e1 e2 => fin H' (k + 1) l2 (some (.int k)) (some (.int z)) b e1 e2 (by omega)
    refine ⟨_, rfl, ?_⟩; refine Or.inl ⟨_, _, _, _, rfl, rfl, SqL.of h1, rfl, ?_⟩
    refine ⟨_, _, rfl, .inl ⟨_, SqL.of h2, rfl⟩, ?_⟩
    (first | refine Or.inl ⟨_, _, rfl, rfl, ?_⟩ | refine ⟨_, _, rfl, rfl, ?_⟩); refine ⟨_, rfl, ?_⟩
    refine ite2 (fun t1 => ?_) (fun t1 => ?_)
    · have hk : k < cs.length := by
        have := of_decide_eq_true t1
        rw [List.length_map] at this
        omega
      obtain ⟨v, hv, _⟩ := at_int (xs := cs) (i := (k : Int)) (by omega) (by omega)
      refine ⟨_, rfl, ?_⟩; refine Or.inl ⟨_, _, _, _, rfl, rfl, SqL.of h1, rfl, ?_⟩; refine ⟨_, rfl, ?_⟩; refine Or.inl ⟨_, _, _, _, rfl, rfl, SqL.of h2, hv, ?_⟩
      exact cell v _ (goon v)
    · refine ⟨_, rfl, ?_⟩; refine Or.inl ⟨_, _, _, _, rfl, rfl, SqL.of h1, rfl, ?_⟩
      refine ⟨_, _, rfl, .inl ⟨_, SqL.of h2, rfl⟩, ?_⟩
      (first | refine Or.inl ⟨_, _, rfl, rfl, ?_⟩ | refine ⟨_, _, rfl, rfl, ?_⟩); refine ⟨_, rfl, ?_⟩
      refine ite2 (fun t2 => ?_) (fun t2 => ?_)
      · have hn : 0 < ((cs.map V.int).length : Int) := of_decide_eq_true t2
        refine ⟨_, rfl, ?_⟩; refine Or.inl ⟨_, _, _, _, rfl, rfl, SqL.of h1, rfl, ?_⟩; refine ⟨_, rfl, ?_⟩; (first | refine ⟨_, _, rfl, rfl, (mulR (by decide)), ?_⟩ | refine Or.inl ⟨_, _, rfl, rfl, (mulR (by decide)), ?_⟩); (first | refine Or.inl ⟨_, _, rfl, rfl, ?_⟩ | refine ⟨_, _, rfl, rfl, ?_⟩); refine ⟨_, rfl, ?_⟩; refine Or.inl ⟨_, _, _, _, rfl, rfl, SqL.of h1, rfl, ?_⟩
        refine ⟨_, _, rfl, .inl ⟨_, SqL.of h2, rfl⟩, ?_⟩
        refine modL rfl rfl hn (fun r r0 r1 => ?_)
        rw [List.length_map] at r1
        obtain ⟨v, hv, _⟩ := at_int (xs := cs) (i := r) (by omega) (by omega)
        refine Or.inl ⟨_, _, _, _, rfl, rfl, SqL.of h2, hv, ?_⟩
        refine ⟨_, _, rfl, rfl, ⟨by decide, by decide, (by decide)⟩, ?_⟩
        refine ⟨_, rfl, ?_⟩; (first | refine Or.inl ⟨_, _, rfl, rfl, ?_⟩ | refine ⟨_, _, rfl, rfl, ?_⟩)
        (first | refine ⟨_, _, rfl, rfl, (pow17 k), ?_⟩ | refine Or.inl ⟨_, _, rfl, rfl, (pow17 k), ?_⟩)
        exact cell _ _ (goon _)
      · exact cell 0 _ (goon 0)
  · exact fin H k left _ _ (But.refl _ _) h1 h2 (by omega)
def sp_open (K : PySem.W.Frag) : Sp := fun vs H Q _ => ∃ (a : Addr) (ns : List Int), vs = [.ref a] ∧ SqL K H a (ns.map V.int) ∧ ns.length ≤ 63 ∧ ∀ p c H', H p = none → H c = none → Same H H' → Pen H' p c 1048576 → Q (.ref p) H'
theorem ok_open (T : Top K mg) : FnOk P w K mg base CX0 1 T.f__law_open T.fd__law_open ["script"] (sp_open K) := by
  refine T.F__law_open.ok sc__law_open (fun vs H Q E h => ?_) (fun cdv A outer s H vs Q E hr h => ?_)
  · obtain ⟨a, ns, rfl, _⟩ := h
    rfl
  obtain ⟨a, ns, rfl, hS, hlen, q⟩ := h
  refine ⟨_, (pss_cons (ps_set (i := 1) sc__law_open.nd rfl (Or.inl rfl) (pe_callTy (kList K rfl rfl) (by rfl) T.m_list (by decide +kernel) (pa_cons (pe_slice (kSl K rfl) (pv 0) po_none (po_some pe_int)) pa_nil)))
    (pss_cons (ps_for PassesOwn.never rfl (pi_enum (by rfl) T.m_enumerate (pa_cons (pe_slice (kSl K rfl) (pv 0) (po_some pe_int) (po_some pe_int)) pa_nil)) (kTg K rfl (n := 2) rfl (pgs_cons (pg_name (i := 2) sc__law_open.nd rfl (Or.inl rfl)) (pgs_cons (pg_name (i := 3) sc__law_open.nd rfl (Or.inl rfl)) pgs_nil))) (pss_one (ps_asg (pe_op op_addG (pe_ix (kIx K rfl) (pv 1) (pe_op op_modN (pv 2) pe_int) (fun _ _ => rfl)) (pv 3)) (pg_sub (pv 1) (pe_op op_modN (pv 2) pe_int) set_listN))))
    (pss_one (ps_ret (pe_lstN (pa_cons (pv 1) (pa_cons pe_int (pa_cons pe_int pa_nil)))))))), ?_⟩
  refine ⟨_, rfl, ?_⟩; refine ⟨_, rfl, ?_⟩
  refine Or.inl ⟨_, _, rfl, hS, fun l1 H1 n1 s1 e1 => ?_⟩
  refine Or.inl ⟨_, _, rfl, .inl (SqL.of e1), fun l2 H2 n2 s2 e2 => ?_⟩
  have s02 := s1.trans s2
  rw [show (12 : Int) = ((12 : Nat) : Int) from rfl, cut_hi, ← List.map_take] at e2
  refine ⟨_, rfl, ?_⟩; refine ⟨_, rfl, ?_⟩; refine ⟨_, rfl, ?_⟩
  refine Or.inl ⟨_, _, rfl, s02.seq hS, fun l3 H3 n3 s3 e3 => ?_⟩
  rw [show (12 : Int) = ((12 : Nat) : Int) from rfl, show (63 : Int) = ((63 : Nat) : Int) from rfl, cut_lohi, ← List.map_drop, ← List.map_take] at e3
  have n2' : H l2 = none := s1.free n2
  have n3' : H l3 = none := s02.free n3
  have l23 : l2 ≠ l3 := ne_of_none e2 n3
  generalize hrs : List.take (63 - 12) (List.drop 12 ns) = rs at e3
  have full : 0 < rs.length → (ns.take 12).length = 12 := fun h => by
    have z : rs.length ≤ (ns.drop 12).length := by
      rw [← hrs, List.length_take]
      omega
    rw [List.length_drop] at z
    rw [List.length_take]
    omega
  refine ⟨_, _, rfl, SqL.of e3, for_it (walkPair (walk_enum (xs := rs.map V.int))) (fun i σ H' => ∃ (cs : List Int) (kv cv : Option V), σ = [some (.ref a), some (.ref l2), kv, cv] ∧ Same H H' ∧ H' l3 = some (.lst (rs.map V.int)) ∧ H' l2 = some (.lst (cs.map V.int)) ∧ cs.length = (ns.take 12).length)
    ⟨_, none, none, rfl, s02.trans s3, e3, s3 _ _ e2, rfl⟩ (fun i σ H' _ p => ?_) (fun i x σ H4 H5 hi p y => ?_) (fun σ H' p => ?_)⟩
  · obtain ⟨cs, kv, cv, _, _, e, _, _⟩ := p
    exact SqL.of e
  · obtain ⟨cs, kv, cv, rfl, s4, e4, c4, hc⟩ := p
    obtain ⟨U, x1, x2, rfl, s5, eU, ex1, ex2⟩ := y
    cases ex1
    rw [List.length_map] at hi
    have h12 := full (by omega)
    obtain ⟨z, _, rfl⟩ := get_map (f := V.int) ex2
    have f := fmod_in (a := (i : Int)) (b := 12) (by decide)
    obtain ⟨v, hv, _⟩ := at_int (xs := cs) (i := (i : Int).fmod 12) f.1 (by omega)
    refine ⟨U, _, rfl, SqT.of eU, rfl, _, _, rfl, _, _, rfl, rfl, ?_⟩
    refine ⟨_, rfl, ?_⟩; refine ⟨_, rfl, ?_⟩; (first | refine ⟨_, _, rfl, rfl, (by omega), ?_⟩ | refine Or.inl ⟨_, _, rfl, rfl, (by omega), ?_⟩); refine Or.inl ⟨_, _, _, _, rfl, rfl, SqL.of (s5 _ _ c4), hv, ?_⟩; refine ⟨_, rfl, ?_⟩; (first | refine Or.inl ⟨_, _, rfl, rfl, ?_⟩ | refine ⟨_, _, rfl, rfl, ?_⟩)
    refine ⟨_, rfl, ?_⟩; refine ⟨_, rfl, ?_⟩; (first | refine ⟨_, _, rfl, rfl, (by omega), ?_⟩ | refine Or.inl ⟨_, _, rfl, rfl, (by omega), ?_⟩)
    refine ⟨_, _, _, _, rfl, rfl, s5 _ _ c4, ixN_of f.1 (by rw [List.length_map]; omega), fun H6 b6 e6 => ?_⟩
    refine ⟨_, _, _, rfl, fun b o e => ?_, b6 _ _ (Ne.symm l23) (s5 _ _ e4), by rw [e6, ← List.map_set], by rw [List.length_set]; exact hc⟩
    exact b6 _ _ (ne_of_none e n2') (s5 _ _ (s4 _ _ e))
  · obtain ⟨cs, kv, cv, rfl, s4, e4, c4, hc⟩ := p
    refine ⟨_, rfl, ?_⟩
    refine ⟨szS, fun p H5 n5 s5 e5 => ?_⟩
    refine q p l2 H5 (s4.free n5) n2' (s4.trans s5) ⟨cs, 0, 0, e5, s5 _ _ c4, by rw [hc, List.length_take]; omega, by omega, ne_of_none c4 n5⟩
end
end Kx

namespace Kx
open PySem PySem.Spec PyProof.Rows L2 Fo
section
variable {P : Program} {w : World} {K : PySem.W.Frag} {mg : Str → Option Value} {base : Heap}
def sp_same (n : Nat) : Sp := fun vs H Q _ => ∃ (x y : V) (d : PyData), vs = [x, y] ∧ Lv H x d ∧ Lv H y d ∧ SD n d ∧ ∀ H', Same H H' → Q (.bl true) H'
theorem ok_same_s {n : Nat} (T : Top K mg) (G__law_same : FnOk P w K mg base CX0 n T.f__law_same T.fd__law_same ["found", "due"] (sp_same n)) : FnOk P w K mg base CX0 (n + 1) T.f__law_same T.fd__law_same ["found", "due"] (sp_same (n + 1)) := by
  refine T.F__law_same.ok sc__law_same (fun vs H Q E h => ?_) (fun cdv A outer s H vs Q E hr h => ?_)
  · obtain ⟨x, y, d, rfl, _⟩ := h
    rfl
  obtain ⟨x, y, d, rfl, hx, hy, hd, q⟩ := h
  refine ⟨_, (pss_cons (ps_if (PW.pt (pw_or (pt_cmpR op_isN (pv 1) pe_non (nomark _)) (pw_or1 (pt_cmpR op_isN (pv 0) pe_non (nomark _))))) (pss_one (ps_ret (pe_and (pe_cmpR op_isN (pv 1) pe_non (nomark _)) (pe_one (pe_cmpR op_isN (pv 0) pe_non (nomark _)))))) pss_nil)
    (pss_cons (ps_if (PW.pt (pw_or (pt_val (pe_callB (kIsi K rfl) (by rfl) T.m_isinstance (by decide +kernel) (pa_cons (pv 1) (pa_cons (pe_bltn (v := .ty "bool") (by rfl) T.m_bool (by decide +kernel) rfl) pa_nil)))) (pw_or1 (pt_val (pe_callB (kIsi K rfl) (by rfl) T.m_isinstance (by decide +kernel) (pa_cons (pv 0) (pa_cons (pe_bltn (v := .ty "bool") (by rfl) T.m_bool (by decide +kernel) rfl) pa_nil))))))) (pss_one (ps_ret (pe_and (pe_callB (kIsi K rfl) (by rfl) T.m_isinstance (by decide +kernel) (pa_cons (pv 1) (pa_cons (pe_bltn (v := .ty "bool") (by rfl) T.m_bool (by decide +kernel) rfl) pa_nil))) (pe_and (pe_callB (kIsi K rfl) (by rfl) T.m_isinstance (by decide +kernel) (pa_cons (pv 0) (pa_cons (pe_bltn (v := .ty "bool") (by rfl) T.m_bool (by decide +kernel) rfl) pa_nil))) (pe_one (pe_cmpR (kEq K rfl hr.units) (pv 0) (pv 1) (nomark _))))))) pss_nil)
    (pss_cons (ps_if (pt_val (pe_callB (kIsi K rfl) (by rfl) T.m_isinstance (by decide +kernel) (pa_cons (pv 1) (pa_cons (pe_tupN (pa_cons (pe_bltn (v := .ty "int") (by rfl) T.m_int (by decide +kernel) rfl) (pa_cons (pe_bltn (v := .ty "str") (by rfl) T.m_str (by decide +kernel) rfl) pa_nil))) pa_nil)))) (pss_cons (ps_if (pt_cmpR (kNe K rfl hr.units) (pe_callB (kIsi K rfl) (by rfl) T.m_isinstance (by decide +kernel) (pa_cons (pv 0) (pa_cons (pe_bltn (v := .ty "int") (by rfl) T.m_int (by decide +kernel) rfl) pa_nil))) (pe_callB (kIsi K rfl) (by rfl) T.m_isinstance (by decide +kernel) (pa_cons (pv 1) (pa_cons (pe_bltn (v := .ty "int") (by rfl) T.m_int (by decide +kernel) rfl) pa_nil))) (nomark _)) (pss_one (ps_ret pe_bl)) pss_nil)
    (pss_one (ps_ret (pe_and (pe_callB (kIsi K rfl) (by rfl) T.m_isinstance (by decide +kernel) (pa_cons (pv 0) (pa_cons (pe_tupN (pa_cons (pe_bltn (v := .ty "int") (by rfl) T.m_int (by decide +kernel) rfl) (pa_cons (pe_bltn (v := .ty "str") (by rfl) T.m_str (by decide +kernel) rfl) pa_nil))) pa_nil))) (pe_one (pe_cmpR (kEq K rfl hr.units) (pv 0) (pv 1) (nomark _))))))) pss_nil)
    (pss_cons (ps_if (PW.pt (pw_or (pt_cmpR (kNe K rfl hr.units) (pe_callB (kIsi K rfl) (by rfl) T.m_isinstance (by decide +kernel) (pa_cons (pv 1) (pa_cons (pe_bltn (v := .ty "tuple") (by rfl) T.m_tuple (by decide +kernel) rfl) pa_nil))) (pe_callB (kIsi K rfl) (by rfl) T.m_isinstance (by decide +kernel) (pa_cons (pv 0) (pa_cons (pe_bltn (v := .ty "tuple") (by rfl) T.m_tuple (by decide +kernel) rfl) pa_nil))) (nomark _)) (pw_or1 (pt_cmpR (kNe K rfl hr.units) (pe_callB (kIsi K rfl) (by rfl) T.m_isinstance (by decide +kernel) (pa_cons (pv 1) (pa_cons (pe_bltn (v := .ty "list") (by rfl) T.m_list (by decide +kernel) rfl) pa_nil))) (pe_callB (kIsi K rfl) (by rfl) T.m_isinstance (by decide +kernel) (pa_cons (pv 0) (pa_cons (pe_bltn (v := .ty "list") (by rfl) T.m_list (by decide +kernel) rfl) pa_nil))) (nomark _))))) (pss_one (ps_ret pe_bl)) pss_nil)
    (pss_cons (ps_if (pt_cmpR (kNe K rfl hr.units) (pe_callB (kLen K rfl) (by rfl) T.m_len PySem.boot_len (pa_cons (pv 0) pa_nil)) (pe_callB (kLen K rfl) (by rfl) T.m_len PySem.boot_len (pa_cons (pv 1) pa_nil)) (nomark _)) (pss_one (ps_ret pe_bl)) pss_nil)
    (pss_one (ps_ret (pe_cmpR (kNin K rfl) pe_bl (pe_lc (own := [("one", 2), ("other", 3)]) (tt := tYes) rfl sc__law_same.nd (RZ.pi_zipA (by rfl) T.m_zip (pa_cons (pv 0) (pa_cons (pv 1) pa_nil))) (blkOk_by (N := ["found", "due", "one", "other"]) (sc := defScope s__law_same) (by decide +kernel)) (fun _ _ _ _ _ => (kTg K rfl (n := 2) rfl (pgs_cons (pg_name (i := 2) sc__law_same.nd rfl (Or.inl rfl)) (pgs_cons (pg_name (i := 3) sc__law_same.nd rfl (Or.inl rfl)) pgs_nil)))) (fun _ _ _ _ _ => pts_nil) (fun _ _ _ _ _ => (pe_call G__law_same (hr.mono (by first | decide | omega)) (by rfl) T.g__law_same T.F__law_same.kp T.b__law_same .nil pass0 (pa_cons (pv 2) (pa_cons (pv 3) pa_nil))))) rfl)))))))), ?_⟩
  cases d with
  | none =>
    cases hx; cases hy
    refine ⟨_, rfl, rfl, _, rfl, ?_⟩; refine iteT ?_
    refine ⟨_, rfl, rfl, _, rfl, iteT ⟨_, rfl, rfl, ?_⟩⟩
    exact q _ (Same.refl _)
  | bool b =>
    cases hx; cases hy
    refine ⟨_, rfl, rfl, _, rfl, ?_⟩; refine iteF ?_; refine ⟨_, rfl, rfl, _, rfl, ?_⟩; refine iteF ?_
    refine ⟨_, rfl, isi1 (.base (.bl b)) (by decide +kernel) ⟨_, rfl, iteT ?_⟩⟩
    refine ⟨_, rfl, isi1 (.base (.bl b)) (by decide +kernel) ⟨_, rfl, iteT ?_⟩⟩
    refine ⟨_, rfl, isi1 (.base (.bl b)) (by decide +kernel) ⟨_, rfl, iteT ?_⟩⟩
    refine ⟨_, rfl, _, rfl, .inl ⟨rfl, ?_⟩⟩
    rw [decide_eq_true rfl]
    exact q _ (Same.refl _)
  | int i =>
    cases hx; cases hy
    refine ⟨_, rfl, rfl, _, rfl, ?_⟩; refine iteF ?_; refine ⟨_, rfl, rfl, _, rfl, ?_⟩; refine iteF ?_
    refine ⟨_, rfl, isi1 (.base (.int i)) (by decide +kernel) ⟨_, rfl, iteF ?_⟩⟩
    refine ⟨_, rfl, isi1 (.base (.int i)) (by decide +kernel) ⟨_, rfl, iteF ?_⟩⟩
    refine ⟨_, rfl, szS, fun tp H1 n1 s1 e1 => isi2 (b := true) (b' := false) e1 (.base (.int i)) (by decide +kernel) (by decide +kernel) ⟨_, rfl, iteT ?_⟩⟩
    refine ⟨_, rfl, isi1 (b := true) (.base (.int i)) (by decide +kernel) ?_⟩
    refine ⟨_, rfl, isi1 (b := true) (.base (.int i)) (by decide +kernel) ?_⟩
    refine .inl ⟨rfl, _, rfl, iteF ?_⟩
    refine ⟨_, rfl, szS, fun tp2 H2 n2 s2 e2 => isi2 (b := true) (b' := false) e2 (.base (.int i)) (by decide +kernel) (by decide +kernel) ⟨_, rfl, iteT ?_⟩⟩
    refine ⟨_, rfl, _, rfl, .inl ⟨rfl, ?_⟩⟩
    rw [decide_eq_true rfl]
    exact q _ (s1.trans s2)
  | str z =>
    cases hx; cases hy
    refine ⟨_, rfl, rfl, _, rfl, ?_⟩; refine iteF ?_; refine ⟨_, rfl, rfl, _, rfl, ?_⟩; refine iteF ?_
    refine ⟨_, rfl, isi1 (.base (.str z)) (by decide +kernel) ⟨_, rfl, iteF ?_⟩⟩
    refine ⟨_, rfl, isi1 (.base (.str z)) (by decide +kernel) ⟨_, rfl, iteF ?_⟩⟩
    refine ⟨_, rfl, szS, fun tp H1 n1 s1 e1 => isi2 (b := false) (b' := true) e1 (.base (.str z)) (by decide +kernel) (by decide +kernel) ⟨_, rfl, iteT ?_⟩⟩
    refine ⟨_, rfl, isi1 (b := false) (.base (.str z)) (by decide +kernel) ?_⟩
    refine ⟨_, rfl, isi1 (b := false) (.base (.str z)) (by decide +kernel) ?_⟩
    refine .inl ⟨rfl, _, rfl, iteF ?_⟩
    refine ⟨_, rfl, szS, fun tp2 H2 n2 s2 e2 => isi2 (b := false) (b' := true) e2 (.base (.str z)) (by decide +kernel) (by decide +kernel) ⟨_, rfl, iteT ?_⟩⟩
    refine ⟨_, rfl, _, rfl, .inl ⟨rfl, ?_⟩⟩
    rw [decide_eq_true rfl]
    exact q _ (s1.trans s2)
  | dict _ => exact hd.elim
  | tuple ds =>
    cases hx with
    | @tup a xs _ a1 a2 =>
    cases hy with
    | @tup b ys _ b1 b2 =>
    refine ⟨_, rfl, rfl, _, rfl, ?_⟩; refine iteF ?_; refine ⟨_, rfl, rfl, _, rfl, ?_⟩; refine iteF ?_
    refine ⟨_, rfl, isi1 (.base (.tup b1)) (by decide +kernel) ⟨_, rfl, iteF ?_⟩⟩
    refine ⟨_, rfl, isi1 (.base (.tup a1)) (by decide +kernel) ⟨_, rfl, iteF ?_⟩⟩
    refine ⟨_, rfl, szS, fun tp H1 n1 s1 e1 => isi2 (b := false) (b' := false) e1 (.base (.tup (s1 _ _ b1))) (by decide +kernel) (by decide +kernel) ⟨_, rfl, iteF ?_⟩⟩
    have a1' := s1 _ _ a1
    have b1' := s1 _ _ b1
    refine ⟨_, rfl, isi1 (b := true) (.base (.tup b1')) (by decide +kernel) ?_⟩
    refine ⟨_, rfl, isi1 (b := true) (.base (.tup a1')) (by decide +kernel) ?_⟩
    refine .inl ⟨rfl, _, rfl, iteF ?_⟩
    refine ⟨_, rfl, isi1 (b := false) (.base (.tup b1')) (by decide +kernel) ?_⟩
    refine ⟨_, rfl, isi1 (b := false) (.base (.tup a1')) (by decide +kernel) ?_⟩
    refine .inl ⟨rfl, _, rfl, iteF ?_⟩
    refine ⟨_, rfl, _, ds.length, rfl, .inr ⟨_, SqT.of a1', a2.len.symm⟩, ?_⟩
    refine ⟨_, rfl, _, ds.length, rfl, .inr ⟨_, SqT.of b1', b2.len.symm⟩, ?_⟩
    refine .inl ⟨rfl, _, rfl, ?_⟩
    rw [decide_eq_true rfl]
    refine iteF ?_
    refine ⟨_, rfl, _, rfl, _, _, _, _, rfl, .inr ⟨SqT.of a1', SqT.of b1', fun D hD => ?_⟩⟩
    refine lcN0 (walkPair (walk_zipT (xs := xs) (ys := ys) (n := ds.length) (by rw [a2.len, b2.len, Nat.min_self]))) hD (fun i acc H' => Same H1 H' ∧ acc = List.replicate i (.bl true))
      (fun H2 s2 e2 => ⟨s2, rfl⟩) (fun _ _ _ _ p => ⟨SqT.of (p.1 _ _ a1'), SqT.of (p.1 _ _ b1')⟩) (fun i x acc H2 H3 hi hl pv eD y => ?_) (fun acc H2 hl pv eD => ?_)
    · obtain ⟨s2, rfl⟩ := pv
      obtain ⟨U, x1, x2, rfl, s3, eU, ex1, ex2⟩ := y
      have sm := (s1.trans s2).trans s3
      obtain ⟨d, hd1, lx⟩ := (LvA.sm sm _ _ a2).at ex1
      obtain ⟨d', hd2, ly⟩ := (LvA.sm sm _ _ b2).at ex2
      cases hd1.symm.trans hd2
      refine ⟨U, _, rfl, SqT.of eU, rfl, _, _, rfl, _, _, rfl, rfl, rfl, ?_⟩
      refine ⟨_, rfl, ?_⟩; refine ⟨_, rfl, ?_⟩
      refine ⟨x1, x2, d, rfl, lx, ly, hd.2 _ (List.mem_of_getElem? hd1), fun H4 s4 => ?_⟩
      have := hd.1
      refine lcNext (s4 _ _ (s3 _ _ eD)) hl (by omega) (fun H5 b5 e5 => ⟨?_, by rw [← List.replicate_append_replicate (n := i) (m := 1)]; rfl⟩)
      exact same_chg ((s2.trans s3).trans s4) (Same.refl _) hD b5
    · obtain ⟨s2, rfl⟩ := pv
      refine .inr ⟨_, _, rfl, .inl (SqL.of eD), rfl, flat_true _, ?_⟩
      rw [notin_true]
      exact q _ (s1.trans s2)
  | list ds =>
    cases hx with
    | @lst a xs _ a1 a2 =>
    cases hy with
    | @lst b ys _ b1 b2 =>
    refine ⟨_, rfl, rfl, _, rfl, ?_⟩; refine iteF ?_; refine ⟨_, rfl, rfl, _, rfl, ?_⟩; refine iteF ?_
    refine ⟨_, rfl, isi1 (.base (.lst b1)) (by decide +kernel) ⟨_, rfl, iteF ?_⟩⟩
    refine ⟨_, rfl, isi1 (.base (.lst a1)) (by decide +kernel) ⟨_, rfl, iteF ?_⟩⟩
    refine ⟨_, rfl, szS, fun tp H1 n1 s1 e1 => isi2 (b := false) (b' := false) e1 (.base (.lst (s1 _ _ b1))) (by decide +kernel) (by decide +kernel) ⟨_, rfl, iteF ?_⟩⟩
    have a1' := s1 _ _ a1
    have b1' := s1 _ _ b1
    refine ⟨_, rfl, isi1 (b := false) (.base (.lst b1')) (by decide +kernel) ?_⟩
    refine ⟨_, rfl, isi1 (b := false) (.base (.lst a1')) (by decide +kernel) ?_⟩
    refine .inl ⟨rfl, _, rfl, iteF ?_⟩
    refine ⟨_, rfl, isi1 (b := true) (.base (.lst b1')) (by decide +kernel) ?_⟩
    refine ⟨_, rfl, isi1 (b := true) (.base (.lst a1')) (by decide +kernel) ?_⟩
    refine .inl ⟨rfl, _, rfl, iteF ?_⟩
    refine ⟨_, rfl, _, ds.length, rfl, .inl ⟨_, SqL.of a1', a2.len.symm⟩, ?_⟩
    refine ⟨_, rfl, _, ds.length, rfl, .inl ⟨_, SqL.of b1', b2.len.symm⟩, ?_⟩
    refine .inl ⟨rfl, _, rfl, ?_⟩
    rw [decide_eq_true rfl]
    refine iteF ?_
    refine ⟨_, rfl, _, rfl, _, _, _, _, rfl, .inl ⟨SqL.of a1', SqL.of b1', fun D hD => ?_⟩⟩
    refine lcN0 (walkPair (walk_zip (xs := xs) (ys := ys) (n := ds.length) (by rw [a2.len, b2.len, Nat.min_self]))) hD (fun i acc H' => Same H1 H' ∧ acc = List.replicate i (.bl true))
      (fun H2 s2 e2 => ⟨s2, rfl⟩) (fun _ _ _ _ p => ⟨SqL.of (p.1 _ _ a1'), SqL.of (p.1 _ _ b1')⟩) (fun i x acc H2 H3 hi hl pv eD y => ?_) (fun acc H2 hl pv eD => ?_)
    · obtain ⟨s2, rfl⟩ := pv
      obtain ⟨U, x1, x2, rfl, s3, eU, ex1, ex2⟩ := y
      have sm := (s1.trans s2).trans s3
      obtain ⟨d, hd1, lx⟩ := (LvA.sm sm _ _ a2).at ex1
      obtain ⟨d', hd2, ly⟩ := (LvA.sm sm _ _ b2).at ex2
      cases hd1.symm.trans hd2
      refine ⟨U, _, rfl, SqT.of eU, rfl, _, _, rfl, _, _, rfl, rfl, rfl, ?_⟩
      refine ⟨_, rfl, ?_⟩; refine ⟨_, rfl, ?_⟩
      refine ⟨x1, x2, d, rfl, lx, ly, hd.2 _ (List.mem_of_getElem? hd1), fun H4 s4 => ?_⟩
      have := hd.1
      refine lcNext (s4 _ _ (s3 _ _ eD)) hl (by omega) (fun H5 b5 e5 => ⟨?_, by rw [← List.replicate_append_replicate (n := i) (m := 1)]; rfl⟩)
      exact same_chg ((s2.trans s3).trans s4) (Same.refl _) hD b5
    · obtain ⟨s2, rfl⟩ := pv
      refine .inr ⟨_, _, rfl, .inl (SqL.of eD), rfl, flat_true _, ?_⟩
      rw [notin_true]
      exact q _ (s1.trans s2)
theorem ok_same (T : Top K mg) : ∀ n, FnOk P w K mg base CX0 n T.f__law_same T.fd__law_same ["found", "due"] (sp_same n)
  | 0 => by
    have no : ∀ vs H Q E, ¬ sp_same 0 vs H Q E := fun vs H Q E h => by
      obtain ⟨_, _, _, _, _, _, h, _⟩ := h
      exact h
    exact ⟨fun vs H Q E h => absurd h (no vs H Q E), fun A outer s H args us vs Q E _ _ _ _ h => absurd h (no vs H Q E)⟩
  | n + 1 => ok_same_s T (ok_same T n)
end
end Kx

namespace Px
open PySem PySem.Spec PyProof.Rows L2 Fo
/-! ### pure values -/
/-- an own thing, told by what stands at its feet -/
structure Asr where
  R : Hp → Hp → V → List Addr → Prop
  stay : ∀ {F F' H H' : Hp} {v : V} {fs : List Addr}, R F H v fs → Same F F' → (∀ a ∈ fs, H' a = H a) → R F' H' v fs
  has : ∀ {F H : Hp} {v : V} {fs : List Addr}, R F H v fs → ∀ a ∈ fs, ∃ o, H a = some o ∧ ∀ ts, o ≠ .tup ts
inductive PV
  | un
  | d (x : PyData)
  | l (xs : List PyData)
  | o (A : Asr)
  | t (xs : List PV)
  | ty (n : String)
  | al (i : Nat)
mutual
inductive RV : L2.St → Hp → Hp → V → PV → List Addr → Prop
  | un {σ : L2.St} {F H : Hp} (v : V) : RV σ F H v .un []
  | d {σ : L2.St} {F H : Hp} {v : V} {x : PyData} : Lv F v x → RV σ F H v (.d x) []
  | l {σ : L2.St} {F H : Hp} {p : Addr} {vs : List V} {ds : List PyData} : H p = some (.lst vs) → LvA F vs ds → RV σ F H (.ref p) (.l ds) [p]
  | o {σ : L2.St} {F H : Hp} {A : Asr} {v : V} {fs : List Addr} : A.R F H v fs → RV σ F H v (.o A) fs
  | t {σ : L2.St} {F H : Hp} {p : Addr} {vs : List V} {xs : List PV} {fs : List Addr} : F p = some (.tup vs) → RVs [] F H vs xs fs → RV σ F H (.ref p) (.t xs) fs
  | ty {σ : L2.St} {F H : Hp} (n : String) : RV σ F H (.ty n) (.ty n) []
  | al {σ : L2.St} {F H : Hp} {i : Nat} {v : V} : σ[i]? = some (some v) → RV σ F H v (.al i) []
inductive RVs : L2.St → Hp → Hp → List V → List PV → List Addr → Prop
  | nil {σ : L2.St} {F H : Hp} : RVs σ F H [] [] []
  | cons {σ : L2.St} {F H : Hp} {v : V} {vs : List V} {x : PV} {xs : List PV} {f fs : List Addr} : RV σ F H v x f → RVs σ F H vs xs fs → RVs σ F H (v :: vs) (x :: xs) (f ++ fs)
end
/-- the slots -/
inductive RSl (F H : Hp) : List (Option V) → List PV → List Addr → Prop
  | nil : RSl F H [] [] []
  | un {o : Option V} {r : List (Option V)} {S : List PV} {fs : List Addr} : RSl F H r S fs → RSl F H (o :: r) (.un :: S) fs
  | cons {v : V} {r : List (Option V)} {x : PV} {S : List PV} {f fs : List Addr} : RV [] F H v x f → RSl F H r S fs → RSl F H (some v :: r) (x :: S) (f ++ fs)
section
variable {σ : L2.St} {F F' G G' H H' : Hp}
mutual
theorem RV.stay {F F' H H' : Hp} (s : Same F F') : ∀ {σ : L2.St} (x : PV) (v : V) (fs : List Addr), RV σ F H v x fs → (∀ a ∈ fs, H' a = H a) → RV σ F' H' v x fs
  | _, .un, _, _, h, _ => by cases h; exact .un _
  | _, .d x, _, _, h, _ => by
    cases h with
    | d h => exact .d (Lv.sm s _ _ h)
  | _, .l xs, _, _, h, k => by
    cases h with
    | l h1 h2 => exact .l (by rw [k _ (List.mem_singleton_self _)]; exact h1) (LvA.sm s _ _ h2)
  | _, .o A, _, _, h, k => by
    cases h with
    | o h => exact .o (A.stay h s k)
  | _, .t xs, _, _, h, k => by
    cases h with
    | t h1 h2 => exact .t (s _ _ h1) (RVs.stay s xs _ _ h2 k)
  | _, .ty n, _, _, h, _ => by cases h; exact .ty n
  | _, .al i, _, _, h, _ => by
    cases h with
    | al h => exact .al h
theorem RVs.stay {F F' H H' : Hp} (s : Same F F') : ∀ {σ : L2.St} (xs : List PV) (vs : List V) (fs : List Addr), RVs σ F H vs xs fs → (∀ a ∈ fs, H' a = H a) → RVs σ F' H' vs xs fs
  | _, [], _, _, h, _ => by cases h; exact .nil
  | _, x :: xs, _, _, h, k => by
    cases h with
    | cons h1 h2 => exact .cons (RV.stay s x _ _ h1 fun a m => k a (List.mem_append_left _ m)) (RVs.stay s xs _ _ h2 fun a m => k a (List.mem_append_right _ m))
end
mutual
theorem RV.has {F H : Hp} : ∀ {σ : L2.St} (x : PV) (v : V) (fs : List Addr), RV σ F H v x fs → ∀ a ∈ fs, ∃ o, H a = some o ∧ ∀ ts, o ≠ .tup ts
  | _, .un, _, _, h, a, m => by cases h; cases m
  | _, .d x, _, _, h, a, m => by cases h; cases m
  | _, .l xs, _, _, h, a, m => by
    cases h with
    | l h1 h2 =>
      cases List.mem_singleton.mp m
      exact ⟨_, h1, fun _ z => nomatch z⟩
  | _, .o A, _, _, h, a, m => by
    cases h with
    | o h => exact A.has h a m
  | _, .t xs, _, _, h, a, m => by
    cases h with
    | t h1 h2 => exact RVs.has xs _ _ h2 a m
  | _, .ty n, _, _, h, a, m => by cases h; cases m
  | _, .al i, _, _, h, a, m => by cases h; cases m
theorem RVs.has {F H : Hp} : ∀ {σ : L2.St} (xs : List PV) (vs : List V) (fs : List Addr), RVs σ F H vs xs fs → ∀ a ∈ fs, ∃ o, H a = some o ∧ ∀ ts, o ≠ .tup ts
  | _, [], _, _, h, a, m => by cases h; cases m
  | _, x :: xs, _, _, h, a, m => by
    cases h with
    | cons h1 h2 =>
      rcases List.mem_append.mp m with m | m
      · exact RV.has x _ _ h1 a m
      · exact RVs.has xs _ _ h2 a m
end
theorem RSl.stay (s : Same F F') : ∀ {S : List PV} {r : List (Option V)} {fs : List Addr}, RSl F H r S fs → (∀ a ∈ fs, H' a = H a) → RSl F' H' r S fs
  | _, _, _, .nil, _ => .nil
  | _, _, _, .un h, k => .un (RSl.stay s h k)
  | _, _, _, .cons h1 h2, k => .cons (h1.stay s _ _ _ fun a m => k a (List.mem_append_left _ m)) (RSl.stay s h2 fun a m => k a (List.mem_append_right _ m))
theorem RSl.has : ∀ {S : List PV} {r : List (Option V)} {fs : List Addr}, RSl F H r S fs → ∀ a ∈ fs, ∃ o, H a = some o ∧ ∀ ts, o ≠ .tup ts
  | _, _, _, .nil, _, m => by cases m
  | _, _, _, .un h, a, m => RSl.has h a m
  | _, _, _, .cons h1 h2, a, m => (List.mem_append.mp m).elim (h1.has _ _ _ a) (RSl.has h2 a)
theorem RSl.len : ∀ {S : List PV} {r : List (Option V)} {fs : List Addr}, RSl F H r S fs → S.length = r.length
  | _, _, _, .nil => rfl
  | _, _, _, .un h => congrArg (· + 1) (RSl.len h)
  | _, _, _, .cons _ h2 => congrArg (· + 1) (RSl.len h2)
/-- a slot's own value, taken out -/
theorem RSl.take : ∀ {S : List PV} {r : List (Option V)} {fs : List Addr} {i : Nat} {x : PV}, RSl F H r S fs → S[i]? = some x → x ≠ .un → ∃ v f fs', r[i]? = some (some v) ∧ RV [] F H v x f ∧ RSl F H r (S.set i .un) fs' ∧ (f ++ fs').Perm fs
  | _, _, _, i, x, .nil, e, _ => by simp at e
  | _, _, _, 0, x, .un h, e, n => absurd (Option.some.inj e).symm n
  | _, _, _, 0, x, .cons (v := v) h1 h2, e, n => by
    cases e
    exact ⟨v, _, _, rfl, h1, .un h2, List.Perm.refl _⟩
  | _, _, _, i + 1, x, .un h, e, n => by
    obtain ⟨v, f, fs', e1, e2, e3, e4⟩ := RSl.take (i := i) h (by simpa using e) n
    exact ⟨v, f, fs', by simpa using e1, e2, .un e3, e4⟩
  | _, _, _, i + 1, x, .cons (f := f0) h1 h2, e, n => by
    obtain ⟨v, f, fs', e1, e2, e3, e4⟩ := RSl.take (i := i) h2 (by simpa using e) n
    refine ⟨v, f, f0 ++ fs', by simpa using e1, e2, .cons h1 e3, ?_⟩
    rw [← List.append_assoc]
    exact ((List.perm_append_comm (l₁ := f) (l₂ := f0)).append_right fs').trans (by rw [List.append_assoc]; exact e4.append_left f0)
/-- a slot put -/
theorem RSl.put : ∀ {S : List PV} {r : List (Option V)} {fs : List Addr} {i : Nat} {v : V} {x : PV} {f : List Addr}, RSl F H r S fs → i < S.length → RV [] F H v x f → (f ++ fs).Nodup → ∃ fs', RSl F H (r.set i (some v)) (S.set i x) fs' ∧ fs'.Nodup ∧ ∀ a ∈ fs', a ∈ f ++ fs
  | _, _, _, i, _, _, _, .nil, hi, _, _ => absurd hi (Nat.not_lt_zero _)
  | _, _, _, 0, v, x, f, .un h, _, hv, n => ⟨_, .cons hv h, n, fun _ m => m⟩
  | _, _, _, 0, v, x, f, .cons (f := f0) (fs := fs) h1 h2, _, hv, n => ⟨f ++ fs, .cons hv h2, by
      rw [List.nodup_append] at n ⊢
      rw [List.nodup_append] at n
      exact ⟨n.1, n.2.1.2.1, fun a ha b hb => n.2.2 a ha b (List.mem_append_right _ hb)⟩, fun a m => (List.mem_append.mp m).elim (List.mem_append_left _) fun m => List.mem_append_right _ (List.mem_append_right _ m)⟩
  | _, _, _, i + 1, v, x, f, .un h, hi, hv, n => by
    obtain ⟨fs', e1, e2, e3⟩ := RSl.put (i := i) h (Nat.lt_of_succ_lt_succ hi) hv n
    exact ⟨fs', .un e1, e2, e3⟩
  | _, _, _, i + 1, v, x, f, .cons (f := f0) (fs := fs) h1 h2, hi, hv, n => by
    have n1 : (f ++ fs).Nodup := by
      rw [List.nodup_append] at n ⊢
      rw [List.nodup_append] at n
      exact ⟨n.1, n.2.1.2.1, fun a ha b hb => n.2.2 a ha b (List.mem_append_right _ hb)⟩
    obtain ⟨fs', e1, e2, e3⟩ := RSl.put (i := i) h2 (Nat.lt_of_succ_lt_succ hi) hv n1
    refine ⟨f0 ++ fs', .cons h1 e1, ?_, fun a m => ?_⟩
    · rw [List.nodup_append] at n ⊢
      rw [List.nodup_append] at n
      refine ⟨n.2.1.1, e2, fun a ha b hb e => ?_⟩
      subst e
      rcases List.mem_append.mp (e3 a hb) with m | m
      · exact n.2.2 a m a (List.mem_append_left _ ha) rfl
      · exact n.2.1.2.2 a ha a m rfl
    · rcases List.mem_append.mp m with m | m
      · exact List.mem_append_right _ (List.mem_append_left _ m)
      · rcases List.mem_append.mp (e3 a m) with m | m
        · exact List.mem_append_left _ m
        · exact List.mem_append_right _ (List.mem_append_right _ m)
theorem RVs.app : ∀ {xs ys : List PV} {vs us : List V} {f g : List Addr}, RVs σ F H vs xs f → RVs σ F H us ys g → RVs σ F H (vs ++ us) (xs ++ ys) (f ++ g)
  | [], _, _, _, _, _, h, h' => by cases h; exact h'
  | x :: xs, _, _, _, _, _, h, h' => by
    cases h with
    | cons h1 h2 => rw [List.append_assoc]; exact .cons h1 (RVs.app h2 h')
theorem RVs.len : ∀ {xs : List PV} {vs : List V} {f : List Addr}, RVs σ F H vs xs f → vs.length = xs.length
  | [], _, _, h => by cases h; rfl
  | x :: xs, _, _, h => by
    cases h with
    | cons h1 h2 => rw [List.length_cons, List.length_cons, RVs.len h2]
end
/-! ### the state -/
structure RepF (F G H : Hp) (σ : L2.St) (S : List PV) (vs : List V) (xs : List PV) (fv fs : List Addr) : Prop where
  lf : Same F H
  lg : Same G H
  sl : RSl F H σ S fs
  vl : RVs σ F H vs xs fv
  nd : (fv ++ fs).Nodup
  off : ∀ a ∈ fv ++ fs, F a = none ∧ G a = none
  dj : ∀ a o, G a = some o → F a = none ∧ ∀ ts, o ≠ .tup ts
def RepA (F G H : Hp) (σ : L2.St) (S : List PV) (vs : List V) (xs : List PV) : Prop := ∃ fv fs, RepF F G H σ S vs xs fv fs
abbrev Rep (F G H : Hp) (σ : L2.St) (S : List PV) : Prop := RepA F G H σ S [] []
open Classical in
/-- what is kept beside -/
noncomputable def lock (G H : Hp) (fv : List Addr) : Hp := fun a => if a ∈ fv then H a else G a
theorem lock_in {G H : Hp} {fv : List Addr} {a : Addr} (h : a ∈ fv) : lock G H fv a = H a := by unfold lock; rw [if_pos h]
theorem lock_out {G H : Hp} {fv : List Addr} {a : Addr} (h : a ∉ fv) : lock G H fv a = G a := by unfold lock; rw [if_neg h]
section
variable {F F' G G' H H' : Hp} {σ σ' : L2.St} {S S' : List PV} {vs us : List V} {xs ys : List PV}
/-- values in hand are laid aside while more is reckoned -/
theorem RepA.aside (h : RepA F G H σ S vs xs) : ∃ G1, Same G G1 ∧ Rep F G1 H σ S ∧ ∀ F' H' S' us ys, RepA F' G1 H' σ S' us ys → Same F F' → RepA F' G H' σ S' (vs ++ us) (xs ++ ys) := by
  obtain ⟨fv, fs, h⟩ := h
  have nd := List.nodup_append.mp h.nd
  have sg : Same G (lock G H fv) := fun a o e => by
    have nm : a ∉ fv := fun m => by
      rw [(h.off a (List.mem_append_left _ m)).2] at e
      cases e
    rw [lock_out nm]
    exact e
  refine ⟨lock G H fv, sg, ⟨[], fs, h.lf, fun a o e => ?_, h.sl, .nil, nd.2.1, fun a m => ?_, fun a o e => ?_⟩, fun F' H' S' us ys k sf => ?_⟩
  · by_cases m : a ∈ fv
    · rw [lock_in m] at e; exact e
    · rw [lock_out m] at e; exact h.lg a o e
  · have m : a ∈ fs := m
    refine ⟨(h.off a (List.mem_append_right _ m)).1, ?_⟩
    rw [lock_out fun z => nd.2.2 a z a m rfl]
    exact (h.off a (List.mem_append_right _ m)).2
  · by_cases m : a ∈ fv
    · refine ⟨(h.off a (List.mem_append_left _ m)).1, ?_⟩
      rw [lock_in m] at e
      obtain ⟨o', e', n⟩ := h.vl.has _ _ _ a m
      rw [e] at e'
      cases e'
      exact n
    · rw [lock_out m] at e; exact h.dj a o e
  · obtain ⟨fu, fs', k⟩ := k
    have keepH : ∀ a ∈ fv, H' a = H a := fun a m => by
      obtain ⟨o, e, _⟩ := h.vl.has _ _ _ a m
      rw [e]
      exact k.lg a o (by rw [lock_in m]; exact e)
    have apart : ∀ a ∈ fu ++ fs', a ∉ fv := fun a m z => by
      obtain ⟨o, e, _⟩ := h.vl.has _ _ _ a z
      have := (k.off a m).2
      rw [lock_in z, e] at this
      cases this
    have kn := List.nodup_append.mp k.nd
    refine ⟨fv ++ fu, fs', k.lf, fun a o e => k.lg a o (sg a o e), k.sl, (h.vl.stay sf _ _ _ keepH).app k.vl, ?_, fun a m => ?_, fun a o e => k.dj a o (sg a o e)⟩
    · rw [List.append_assoc]
      exact List.nodup_append.mpr ⟨nd.1, k.nd, fun a ha b hb e => apart b hb (e ▸ ha)⟩
    · rw [List.append_assoc] at m
      rcases List.mem_append.mp m with m | m
      · refine ⟨?_, (h.off a (List.mem_append_left _ m)).2⟩
        obtain ⟨o, e, _⟩ := h.vl.has _ _ _ a m
        exact (k.dj a o (by rw [lock_in m]; exact e)).1
      · exact ⟨(k.off a m).1, by
          have z := (k.off a m).2
          rwa [lock_out (apart a m)] at z⟩
theorem RepA.weakG (h : RepA F G' H σ S vs xs) (s : Same G G') : RepA F G H σ S vs xs := by
  obtain ⟨fv, fs, h⟩ := h
  refine ⟨fv, fs, h.lf, fun a o e => h.lg a o (s a o e), h.sl, h.vl, h.nd, fun a m => ⟨(h.off a m).1, ?_⟩, fun a o e => h.dj a o (s a o e)⟩
  cases q : G a with
  | none => rfl
  | some u =>
    have := (h.off a m).2
    rw [s a u q] at this
    cases this
/-- values in hand dropped -/
theorem RepA.drop (h : RepA F G H σ S (vs ++ us) (xs ++ ys)) (hl : vs.length = xs.length) : RepA F G H σ S us ys := by
  obtain ⟨fv, fs, h⟩ := h
  have sp : ∀ (xs : List PV) (vs : List V) (fv : List Addr), vs.length = xs.length → RVs σ F H (vs ++ us) (xs ++ ys) fv → ∃ f g, fv = f ++ g ∧ RVs σ F H us ys g := by
    intro xs
    induction xs with
    | nil =>
      intro vs fv e r
      cases vs with
      | nil => exact ⟨[], fv, rfl, r⟩
      | cons _ _ => cases e
    | cons x xs ih =>
      intro vs fv e r
      cases vs with
      | nil => cases e
      | cons v vs =>
        cases r with
        | cons r1 r2 =>
          obtain ⟨f, g, rfl, q⟩ := ih vs _ (Nat.succ.inj e) r2
          exact ⟨_ ++ f, g, (List.append_assoc ..).symm, q⟩
  obtain ⟨f, g, rfl, q⟩ := sp xs vs fv hl h.vl
  have nd := h.nd
  rw [List.append_assoc] at nd
  exact ⟨g, fs, h.lf, h.lg, h.sl, q, (List.nodup_append.mp nd).2.1, fun a m => h.off a (by rw [List.append_assoc]; exact List.mem_append_right _ m), h.dj⟩
theorem RepA.tl {v : V} {x : PV} (h : RepA F G H σ S (v :: vs) (x :: xs)) : RepA F G H σ S vs xs := RepA.drop (vs := [v]) (xs := [x]) h rfl
theorem RepA.rep (h : RepA F G H σ S vs xs) : Rep F G H σ S := by
  have hl : vs.length = xs.length := by obtain ⟨fv, fs, h⟩ := h; exact h.vl.len
  refine RepA.drop (vs := vs) (xs := xs) (us := []) (ys := []) ?_ hl
  rw [List.append_nil, List.append_nil]
  exact h
theorem RepA.lf (h : RepA F G H σ S vs xs) : Same F H := by obtain ⟨_, _, h⟩ := h; exact h.lf
/-- the i-th in hand -/
theorem RepA.at (h : RepA F G H σ S vs xs) : ∀ {i : Nat} {x : PV}, xs[i]? = some x → ∃ v f, vs[i]? = some v ∧ RV σ F H v x f ∧ ∀ a ∈ f, F a = none ∧ G a = none := by
  obtain ⟨fv, fs, h⟩ := h
  have ha : ∀ a ∈ fv, F a = none ∧ G a = none := fun a m => h.off a (List.mem_append_left _ m)
  have hv := h.vl
  clear h
  intro i x e
  induction i generalizing xs vs fv with
  | zero =>
    cases xs with
    | nil => cases e
    | cons y ys =>
      cases hv with
      | cons h1 h2 =>
        cases e
        exact ⟨_, _, rfl, h1, fun a m => ha a (List.mem_append_left _ m)⟩
  | succ i ih =>
    cases xs with
    | nil => cases e
    | cons y ys =>
      cases hv with
      | cons h1 h2 => exact ih _ (fun a m => ha a (List.mem_append_right _ m)) h2 (by simpa using e)
theorem RepA.hd {v : V} {x : PV} (h : RepA F G H σ S (v :: vs) (x :: xs)) : ∃ f, RV σ F H v x f := by
  obtain ⟨u, f, e, r, _⟩ := h.at (i := 0) rfl
  cases e
  exact ⟨f, r⟩
theorem RepA.dat {v : V} {x : PyData} (h : RepA F G H σ S (v :: vs) (.d x :: xs)) : Lv F v x := by
  obtain ⟨f, r⟩ := h.hd
  cases r with
  | d r => exact r
/-- data in hand -/
theorem Rep.withD {v : V} {x : PyData} (h : Rep F G H σ S) (hv : Lv F v x) : RepA F G H σ S [v] [.d x] := by
  obtain ⟨fv, fs, h⟩ := h
  cases h.vl
  exact ⟨[], fs, h.lf, h.lg, h.sl, RVs.cons (f := []) (.d hv) .nil, h.nd, h.off, h.dj⟩
theorem Rep.withTy {n : String} (h : Rep F G H σ S) : RepA F G H σ S [.ty n] [.ty n] := by
  obtain ⟨fv, fs, h⟩ := h
  cases h.vl
  exact ⟨[], fs, h.lf, h.lg, h.sl, RVs.cons (f := []) (.ty n) .nil, h.nd, h.off, h.dj⟩
theorem upd_mine {H : Hp} {p : Addr} {o : HO} {a : Addr} {u : HO} (h : upd H p o a = some u) : (a = p ∧ u = o) ∨ (a ≠ p ∧ H a = some u) := by
  by_cases e : a = p
  · subst e
    rw [upd_same] at h
    exact .inl ⟨rfl, (Option.some.inj h).symm⟩
  · rw [upd_ne e] at h
    exact .inr ⟨e, h⟩
/-- the heap has grown by a tuple (or by none: it was there) -/
theorem RepA.tup {p : Addr} {ts : List V} (h : RepA F G H σ S vs xs) (s : Same H H') (e : H' p = some (.tup ts)) : ∃ F', Same F F' ∧ F' p = some (.tup ts) ∧ RepA F' G H' σ S vs xs := by
  obtain ⟨fv, fs, h⟩ := h
  have feet : ∀ a ∈ fv ++ fs, ∃ o, H a = some o ∧ ∀ ts, o ≠ .tup ts := fun a m => (List.mem_append.mp m).elim (h.vl.has _ _ _ a) (h.sl.has a)
  have keep : ∀ a ∈ fv ++ fs, H' a = H a := fun a m => by
    obtain ⟨o, e1, _⟩ := feet a m
    rw [e1]
    exact s a o e1
  have pne : ∀ a o, H a = some o → (∀ ts, o ≠ .tup ts) → a ≠ p := fun a o e1 n z => by
    subst z
    rw [s a o e1] at e
    exact n ts (Option.some.inj e)
  have sF : Same F (upd F p (.tup ts)) := fun a u q => by
    by_cases z : a = p
    · subst z
      have := s a u (h.lf a u q)
      rw [e] at this
      rw [upd_same]
      exact this
    · rw [upd_ne z]
      exact q
  refine ⟨upd F p (.tup ts), sF, upd_same, fv, fs, fun a u q => ?_, fun a u q => s a u (h.lg a u q), h.sl.stay sF fun a m => keep a (List.mem_append_right _ m), h.vl.stay sF _ _ _ fun a m => keep a (List.mem_append_left _ m), h.nd, fun a m => ?_, fun a u q => ⟨?_, (h.dj a u q).2⟩⟩
  · rcases upd_mine q with ⟨rfl, rfl⟩ | ⟨_, q⟩
    · exact e
    · exact s a u (h.lf a u q)
  · obtain ⟨o, e1, n⟩ := feet a m
    rw [upd_ne (pne a o e1 n)]
    exact h.off a m
  · rw [upd_ne (pne a u (h.lg a u q) (h.dj a u q).2)]
    exact (h.dj a u q).1
/-- .. by what is no one's -/
theorem RepA.same (h : RepA F G H σ S vs xs) (s : Same H H') : RepA F G H' σ S vs xs := by
  obtain ⟨fv, fs, h⟩ := h
  have keep : ∀ a ∈ fv ++ fs, H' a = H a := fun a m => by
    obtain ⟨o, e1, _⟩ := (List.mem_append.mp m).elim (h.vl.has _ _ _ a) (h.sl.has a)
    rw [e1]
    exact s a o e1
  exact ⟨fv, fs, fun a u q => s a u (h.lf a u q), fun a u q => s a u (h.lg a u q), h.sl.stay (fun _ _ q => q) fun a m => keep a (List.mem_append_right _ m), h.vl.stay (fun _ _ q => q) _ _ _ fun a m => keep a (List.mem_append_left _ m), h.nd, h.off, h.dj⟩
/-- .. by an own thing at new feet -/
theorem RepA.new {v : V} {x : PV} {f : List Addr} (h : RepA F G H σ S vs xs) (s : Same H H') (hf : ∀ a ∈ f, H a = none) (nf : f.Nodup) (r : RV σ F H' v x f) : RepA F G H' σ S (v :: vs) (x :: xs) := by
  have h0 := h.same s
  obtain ⟨fv, fs, h⟩ := h
  have free : ∀ a ∈ f, a ∉ fv ++ fs := fun a m z => by
    obtain ⟨o, e1, _⟩ := (List.mem_append.mp z).elim (h.vl.has _ _ _ a) (h.sl.has a)
    rw [hf a m] at e1
    cases e1
  have no : ∀ {K : Hp}, Same K H → ∀ a ∈ f, K a = none := fun {K} sk a m => by
    cases q : K a with
    | none => rfl
    | some u =>
      have := sk a u q
      rw [hf a m] at this
      cases this
  have keep : ∀ a ∈ fv ++ fs, H' a = H a := fun a m => by
    obtain ⟨o, e1, _⟩ := (List.mem_append.mp m).elim (h.vl.has _ _ _ a) (h.sl.has a)
    rw [e1]
    exact s a o e1
  refine ⟨f ++ fv, fs, fun a u q => s a u (h.lf a u q), fun a u q => s a u (h.lg a u q), h.sl.stay (fun _ _ q => q) fun a m => keep a (List.mem_append_right _ m), .cons r (h.vl.stay (fun _ _ q => q) _ _ _ fun a m => keep a (List.mem_append_left _ m)), ?_, fun a m => ?_, h.dj⟩
  · rw [List.append_assoc]
    exact List.nodup_append.mpr ⟨nf, h.nd, fun a ha b hb z => free a ha (z ▸ hb)⟩
  · rw [List.append_assoc] at m
    rcases List.mem_append.mp m with m | m
    · exact ⟨no h.lf a m, no h.lg a m⟩
    · exact h.off a m
section
variable {F F' G G' H H' : Hp} {σ σ' : L2.St} {S S' : List PV} {vs us : List V} {xs ys : List PV}
theorem RepF.taken {fv fs : List Addr} {i : Nat} {x : PV} (h : RepF F G H σ S vs xs fv fs) (e : S[i]? = some x) (n : x ≠ .un) :
    ∃ v f fs', σ[i]? = some (some v) ∧ RV [] F H v x f ∧ RSl F H σ (S.set i .un) fs' ∧ f.Nodup ∧ fs'.Nodup ∧ (∀ a ∈ f, a ∉ fv ∧ a ∉ fs') ∧ (∀ a ∈ fs', a ∉ fv) ∧ (∀ a ∈ f, a ∈ fs) ∧ (∀ a ∈ fs', a ∈ fs) := by
  obtain ⟨v, f, fs', e1, r, rs, pm⟩ := h.sl.take e n
  have nd := List.nodup_append.mp h.nd
  have n2 := List.nodup_append.mp (pm.nodup_iff.mpr nd.2.1)
  have m1 : ∀ a ∈ f, a ∈ fs := fun a m => pm.mem_iff.mp (List.mem_append_left _ m)
  have m2 : ∀ a ∈ fs', a ∈ fs := fun a m => pm.mem_iff.mp (List.mem_append_right _ m)
  exact ⟨v, f, fs', e1, r, rs, n2.1, n2.2.1, fun a m => ⟨fun z => nd.2.2 a z a (m1 a m) rfl, fun z => n2.2.2 a m a z rfl⟩, fun a m z => nd.2.2 a z a (m2 a m) rfl, m1, m2⟩
theorem RV.other {F H : Hp} {σ τ : L2.St} {x : PV} {v : V} {f : List Addr} (h : RV σ F H v x f) (n : ∀ i, x ≠ .al i) : RV τ F H v x f := by
  cases h with
  | un v => exact .un v
  | d h => exact .d h
  | l h1 h2 => exact .l h1 h2
  | o h => exact .o h
  | t h1 h2 => exact .t h1 h2
  | ty => exact .ty _
  | al h => exact absurd rfl (n _)
theorem RV.noal {F H : Hp} {x : PV} {v : V} {f : List Addr} (h : RV [] F H v x f) : ∀ i, x ≠ .al i := fun i e => by
  subst e
  cases h with
  | al h => cases h
theorem RV.any {F H : Hp} {τ : L2.St} {x : PV} {v : V} {f : List Addr} (h : RV [] F H v x f) : RV τ F H v x f := h.other h.noal
/-- a slot's thing is changed where it stands -/
theorem RepA.chg {i : Nat} {x : PV} (h : RepA F G H σ S vs xs) (e : S[i]? = some x) (n : x ≠ .un) : ∃ v f, σ[i]? = some (some v) ∧ RV [] F H v x f ∧ (∀ a ∈ f, F a = none ∧ G a = none) ∧
    ∀ H' x' f', (∀ a o, a ∉ f → H a = some o → H' a = some o) → RV [] F H' v x' f' → f'.Nodup → (∀ a ∈ f', a ∈ f ∨ H a = none) → RepA F G H' σ (S.set i x') vs xs := by
  obtain ⟨fv, fs, h⟩ := h
  obtain ⟨v, f, fs', e1, r, rs, nf, nfs, d1, d2, m1, m2⟩ := h.taken e n
  have hi : i < S.length := (List.getElem?_eq_some_iff.mp e).1
  refine ⟨v, f, e1, r, fun a m => h.off a (List.mem_append_right _ (m1 a m)), fun H' x' f' k r' nf' new => ?_⟩
  have feet : ∀ a ∈ fv ++ fs', ∃ o, H a = some o ∧ ∀ ts, o ≠ .tup ts := fun a m => (List.mem_append.mp m).elim (h.vl.has _ _ _ a) fun m => h.sl.has a (m2 a m)
  have out : ∀ a ∈ fv ++ fs', a ∉ f := fun a m z => (List.mem_append.mp m).elim (d1 a z).1 (d1 a z).2
  have keep : ∀ a ∈ fv ++ fs', H' a = H a := fun a m => by
    obtain ⟨o, e2, _⟩ := feet a m
    rw [e2]
    exact k a o (out a m) e2
  have keepK : ∀ {K : Hp}, Same K H → (∀ a ∈ f, K a = none) → Same K H' := fun {K} sk z a o q => k a o (fun m => by rw [z a m] at q; cases q) (sk a o q)
  have fF : ∀ a ∈ f, F a = none ∧ G a = none := fun a m => h.off a (List.mem_append_right _ (m1 a m))
  have f'out : ∀ a ∈ f', a ∉ fv ++ fs' := fun a m z => by
    rcases new a m with q | q
    · exact out a z q
    · obtain ⟨o, e2, _⟩ := feet a z
      rw [q] at e2
      cases e2
  have rs' := rs.stay (F' := F) (H' := H') (fun _ _ q => q) fun a m => keep a (List.mem_append_right _ m)
  obtain ⟨fs2, q1, q2, q3⟩ := rs'.put (i := i) (v := v) (x := x') (f := f') (by rw [List.length_set]; exact hi) r' (List.nodup_append.mpr ⟨nf', nfs, fun a ha b hb z => f'out a ha (List.mem_append_right _ (z ▸ hb))⟩)
  rw [List.set_set] at q1
  have eσ : σ.set i (some v) = σ := by
    refine List.ext_getElem? fun j => ?_
    by_cases z : i = j
    · subst z
      rw [List.getElem?_set_self (List.getElem?_eq_some_iff.mp e1).1, e1]
    · rw [List.getElem?_set_ne z]
  rw [eσ] at q1
  refine ⟨fv, fs2, keepK h.lf fun a m => (fF a m).1, keepK h.lg fun a m => (fF a m).2, q1, h.vl.stay (fun _ _ q => q) _ _ _ fun a m => keep a (List.mem_append_left _ m), List.nodup_append.mpr ⟨(List.nodup_append.mp h.nd).1, q2, fun a ha b hb z => ?_⟩, fun a m => ?_, h.dj⟩
  · subst z
    rcases List.mem_append.mp (q3 a hb) with m | m
    · exact f'out a m (List.mem_append_left _ ha)
    · exact d2 a m ha
  · rcases List.mem_append.mp m with m | m
    · exact h.off a (List.mem_append_left _ m)
    · rcases List.mem_append.mp (q3 a m) with m | m
      · rcases new a m with q | q
        · exact fF a q
        · constructor
          · cases z : F a with
            | none => rfl
            | some u =>
              have := h.lf a u z
              rw [q] at this
              cases this
          · cases z : G a with
            | none => rfl
            | some u =>
              have := h.lg a u z
              rw [q] at this
              cases this
      · exact h.off a (List.mem_append_right _ (m2 a m))
/-- a slot's thing, taken into the hand -/
theorem RepA.move {i : Nat} {x : PV} {v : V} (h : RepA F G H σ S (v :: vs) (.al i :: xs)) (e : S[i]? = some x) : RepA F G H σ (S.set i .un) (v :: vs) (x :: xs) := by
  obtain ⟨fv, fs, h⟩ := h
  by_cases n : x = .un
  · subst n
    have eS : S.set i .un = S := by
      refine List.ext_getElem? fun j => ?_
      by_cases z : i = j
      · subst z
        rw [List.getElem?_set_self (List.getElem?_eq_some_iff.mp e).1, e]
      · rw [List.getElem?_set_ne z]
    rw [eS]
    cases hv : h.vl with
    | cons h1 h2 =>
      have nf : ∀ {f : List Addr}, RV σ F H v (.al i) f → f = [] := fun r => by cases r; rfl
      cases nf h1
      exact ⟨_, fs, h.lf, h.lg, h.sl, RVs.cons (.un v) h2, h.nd, h.off, h.dj⟩
  · obtain ⟨u, f, fs', e1, r, rs, nf, nfs, d1, d2, m1, m2⟩ := h.taken e n
    cases hv : h.vl with
    | cons h1 h2 =>
      have eu : v = u := by
        cases h1 with
        | al z =>
          rw [z] at e1
          exact Option.some.inj (Option.some.inj e1)
      subst eu
      have n0 : ∀ {g : List Addr}, RV σ F H v (.al i) g → g = [] := fun r => by cases r; rfl
      cases n0 h1
      refine ⟨_, fs', h.lf, h.lg, rs, RVs.cons r.any h2, ?_, fun a m => ?_, h.dj⟩
      · rw [List.append_assoc]
        refine List.nodup_append.mpr ⟨nf, List.nodup_append.mpr ⟨(List.nodup_append.mp h.nd).1, nfs, fun a ha b hb z => d2 b hb (z ▸ ha)⟩, fun a ha b hb z => ?_⟩
        subst z
        rcases List.mem_append.mp hb with m | m
        · exact (d1 a ha).1 m
        · exact (d1 a ha).2 m
      · rw [List.append_assoc] at m
        rcases List.mem_append.mp m with m | m
        · exact h.off a (List.mem_append_right _ (m1 a m))
        · rcases List.mem_append.mp m with m | m
          · exact h.off a (List.mem_append_left _ m)
          · exact h.off a (List.mem_append_right _ (m2 a m))
/-- a value without another name is put into a slot -/
theorem RepA.put {i : Nat} {x : PV} {v : V} (h : RepA F G H σ S [v] [x]) (hi : i < S.length) (na : ∀ f, RV σ F H v x f → RV [] F H v x f) : Rep F G H (σ.set i (some v)) (S.set i x) := by
  obtain ⟨fv, fs, h⟩ := h
  cases hv : h.vl with
  | cons h1 h2 =>
    cases h2
    have nd := h.nd
    have off := h.off
    rw [List.append_nil] at nd off
    obtain ⟨fs', q1, q2, q3⟩ := h.sl.put hi (na _ h1) nd
    exact ⟨[], fs', h.lf, h.lg, q1, .nil, q2, fun a m => off a (q3 a m), h.dj⟩
/-- a name read -/
theorem RepA.nameD {i : Nat} {x : PyData} (h : Rep F G H σ S) (e : S[i]? = some (.d x)) : ∃ v, σ[i]? = some (some v) ∧ RepA F G H σ S [v] [.d x] := by
  obtain ⟨v, f, e1, r, _⟩ := h.chg e (fun z => nomatch z)
  cases r with
  | d r => exact ⟨v, e1, h.withD r⟩
theorem RepA.nameO {i : Nat} {x : PV} (h : Rep F G H σ S) (e : S[i]? = some x) (n : x ≠ .un) : ∃ v, σ[i]? = some (some v) ∧ RepA F G H σ S [v] [.al i] := by
  obtain ⟨v, f, e1, r, _⟩ := h.chg e n
  obtain ⟨fv, fs, h⟩ := h
  cases h.vl
  exact ⟨v, e1, [], fs, h.lf, h.lg, h.sl, RVs.cons (f := []) (.al e1) .nil, h.nd, h.off, h.dj⟩
theorem RepA.lenS (h : RepA F G H σ S vs xs) : S.length = σ.length := by
  obtain ⟨_, _, h⟩ := h
  exact h.sl.len
end
end
end Px

namespace Px
open PySem PySem.Spec PyProof.Rows L2 Fo
/-! ### pure readings -/
abbrev KP := PV → List PV → Prop
abbrev TX := List PV → KP → Prop
abbrev TXA := List PV → (List PV → List PV → Prop) → Prop
abbrev TXT := List PV → (Bool → List PV → Prop) → Prop
abbrev TXG := PV → List PV → (List PV → Prop) → Prop
abbrev TXGs := List PV → List PV → (List PV → Prop) → Prop
abbrev TXI := List PV → (List PyData → List PV → Prop) → Prop
structure Dn where
  nx : List PV → Prop
  rt : KP
  bk : List PV → Prop := fun _ => False
  ct : List PV → Prop := fun _ => False
abbrev TXS := Dn → List PV → Prop
def Fin (F G : Hp) (σ : L2.St) (Qp : KP) (Q : VK) : Prop := ∀ v r S' F' H', RepA F' G H' σ S' [v] [r] → Same F F' → Qp r S' → Q v H'
def rw (t : TX) : TE := fun σ H Q => ∃ F G S Qp, Rep F G H σ S ∧ t S Qp ∧ Fin F G σ Qp Q
def FinA (F G : Hp) (σ : L2.St) (Qp : List PV → List PV → Prop) (Q : List V → Hp → Prop) : Prop := ∀ vs xs S' F' H', RepA F' G H' σ S' vs xs → Same F F' → Qp xs S' → Q vs H'
def rwA (t : TXA) : TA := fun σ H Q => ∃ F G S Qp, Rep F G H σ S ∧ t S Qp ∧ FinA F G σ Qp Q
def FinT (F G : Hp) (σ : L2.St) (Qp : Bool → List PV → Prop) (Q : Bool → Hp → Prop) : Prop := ∀ b S' F' H', Rep F' G H' σ S' → Same F F' → Qp b S' → Q b H'
def rwT (t : TXT) : TT := fun σ H Q => ∃ F G S Qp, Rep F G H σ S ∧ t S Qp ∧ FinT F G σ Qp Q
/-- these slots are as they were -/
def Kp (kp : Nat → Bool) (σ σ' : L2.St) : Prop := σ'.length = σ.length ∧ ∀ i, kp i = true → σ'[i]? = σ[i]?
theorem Kp.refl (kp : Nat → Bool) (σ : L2.St) : Kp kp σ σ := ⟨rfl, fun _ _ => rfl⟩
theorem Kp.trans {kp : Nat → Bool} {a b c : L2.St} (h : Kp kp a b) (k : Kp kp b c) : Kp kp a c := ⟨k.1.trans h.1, fun i e => (k.2 i e).trans (h.2 i e)⟩
theorem Kp.set {kp : Nat → Bool} {σ : L2.St} {i : Nat} {v : Option V} (h : kp i = false) : Kp kp σ (σ.set i v) := ⟨List.length_set .., fun j e => by
  rw [List.getElem?_set_ne]
  rintro rfl
  rw [h] at e
  cases e⟩
def FinG (kp : Nat → Bool) (F G : Hp) (σ : L2.St) (Qp : List PV → Prop) (Q : L2.St → Hp → Prop) : Prop := ∀ σ' S' F' H', Rep F' G H' σ' S' → Same F F' → Kp kp σ σ' → Qp S' → Q σ' H'
def rwG (kp : Nat → Bool) (t : TXG) : TG := fun v σ H Q => ∃ F G S x Qp, RepA F G H σ S [v] [x] ∧ t x S Qp ∧ FinG kp F G σ Qp Q
def rwGs (kp : Nat → Bool) (t : TXGs) : TGs := fun vs σ H Q => ∃ F G S xs Qp, RepA F G H σ S vs xs ∧ (∀ x ∈ xs, ∀ i, x ≠ .al i) ∧ t xs S Qp ∧ FinG kp F G σ Qp Q
def FinR (kp : Nat → Bool) (F G : Hp) (σ : L2.St) (Qp : KP) (Q : VK) : Prop := ∀ v r σ' S' F' H', RepA F' G H' σ' S' [v] [r] → Same F F' → Kp kp σ σ' → Qp r S' → Q v H'
structure FinS (kp : Nat → Bool) (F G : Hp) (σ : L2.St) (Dp : Dn) (D : Ends) : Prop where
  nx : FinG kp F G σ Dp.nx D.nx
  rt : FinR kp F G σ Dp.rt D.rt
  bk : FinG kp F G σ Dp.bk D.bk
  ct : FinG kp F G σ Dp.ct D.ct
def rwS (kp : Nat → Bool) (t : TXS) : TS := fun D σ H => ∃ F G S Dp, Rep F G H σ S ∧ t Dp S ∧ FinS kp F G σ Dp D
section
variable {F F1 G : Hp} {σ : L2.St} {kp : Nat → Bool}
theorem Fin.up {Qp : KP} {Q : VK} (k : Fin F G σ Qp Q) (s : Same F F1) : Fin F1 G σ Qp Q := fun v r S' F' H' h s' q => k v r S' F' H' h (s.trans s') q
theorem FinA.up {Qp : List PV → List PV → Prop} {Q : List V → Hp → Prop} (k : FinA F G σ Qp Q) (s : Same F F1) : FinA F1 G σ Qp Q := fun v r S' F' H' h s' q => k v r S' F' H' h (s.trans s') q
theorem FinT.up {Qp : Bool → List PV → Prop} {Q : Bool → Hp → Prop} (k : FinT F G σ Qp Q) (s : Same F F1) : FinT F1 G σ Qp Q := fun r S' F' H' h s' q => k r S' F' H' h (s.trans s') q
theorem FinG.up {Qp : List PV → Prop} {Q : L2.St → Hp → Prop} (k : FinG kp F G σ Qp Q) (s : Same F F1) : FinG kp F1 G σ Qp Q := fun σ' S' F' H' h s' e q => k σ' S' F' H' h (s.trans s') e q
theorem FinG.on {Qp : List PV → Prop} {Q : L2.St → Hp → Prop} {σ1 : L2.St} (k : FinG kp F G σ Qp Q) (s : Same F F1) (e1 : Kp kp σ σ1) : FinG kp F1 G σ1 Qp Q := fun σ' S' F' H' h s' e q => k σ' S' F' H' h (s.trans s') (e1.trans e) q
theorem FinR.on {Qp : KP} {Q : VK} {σ1 : L2.St} (k : FinR kp F G σ Qp Q) (s : Same F F1) (e1 : Kp kp σ σ1) : FinR kp F1 G σ1 Qp Q := fun v r σ' S' F' H' h s' e q => k v r σ' S' F' H' h (s.trans s') (e1.trans e) q
theorem FinS.on {Dp : Dn} {D : Ends} {σ1 : L2.St} (k : FinS kp F G σ Dp D) (s : Same F F1) (e1 : Kp kp σ σ1) : FinS kp F1 G σ1 Dp D := ⟨k.nx.on s e1, k.rt.on s e1, k.bk.on s e1, k.ct.on s e1⟩
end
/-- the state, reckoned out -/
def force : List PV → (List PV → Prop) → Prop
  | [], k => k []
  | x :: r, k => force r fun r' => k (x :: r')
theorem force_eq : ∀ (l : List PV) (k : List PV → Prop), force l k = k l
  | [], k => rfl
  | x :: r, k => force_eq r fun r' => k (x :: r')
theorem unforce {l : List PV} {k : List PV → Prop} (h : force l k) : k l := by rw [force_eq] at h; exact h
theorem doforce {l : List PV} {k : List PV → Prop} (h : k l) : force l k := by rw [force_eq]; exact h
/-! ### imp -/
theorem PT_imp {X : Cx} {e : Expr} {t t' : TT} (h : PT X e t) (i : ∀ σ H Q, t' σ H Q → t σ H Q) : PT X e t' := ⟨fun pins s σ H Q I q => h.run pins s σ H Q I (i _ _ _ q)⟩
theorem PW_imp {X : Cx} {e : Expr} {t t' : TT} (h : PW X e t) (i : ∀ σ H Q, t' σ H Q → t σ H Q) : PW X e t' := ⟨fun w pins s σ H Q I q => h.run w pins s σ H Q I (i _ _ _ q)⟩
theorem PA_imp {X : Cx} {e : List Expr} {t t' : TA} (h : PA X e t) (i : ∀ σ H Q, t' σ H Q → t σ H Q) : PA X e t' := ⟨fun p pins s σ H Q I q => h.run p pins s σ H Q I (i _ _ _ q)⟩
theorem PS_imp {X : Cx} {e : Stmt} {t t' : TS} (h : PS X e t) (i : ∀ D σ H, t' D σ H → t D σ H) : PS X e t' := ⟨fun pins s σ H D I q => h.run pins s σ H D I (i _ _ _ q)⟩
theorem PSs_imp {X : Cx} {e : List Stmt} {t t' : TS} (h : PSs X e t) (i : ∀ D σ H, t' D σ H → t D σ H) : PSs X e t' := ⟨fun pins s σ H D I q => h.run pins s σ H D I (i _ _ _ q)⟩
theorem PG_imp {X : Cx} {e : Expr} {t t' : TG} (h : PG X e t) (i : ∀ v σ H Q, t' v σ H Q → t v σ H Q) : PG X e t' := ⟨fun pins s σ H v u Q I r q => h.run pins s σ H v u Q I r (i _ _ _ _ q)⟩
theorem PGs_imp {X : Cx} {e : List Expr} {t t' : TGs} (h : PGs X e t) (i : ∀ v σ H Q, t' v σ H Q → t v σ H Q) : PGs X e t' := ⟨fun pins s σ H v u Q I r q => h.run pins s σ H v u Q I r (i _ _ _ _ q)⟩
/-! ### expressions -/
/-- what stands behind a name in hand -/
def look (S : List PV) : PV → PV
  | .al i => S.getD i .un
  | x => x
def isOwn : PV → Bool
  | .l _ => true
  | .o _ => true
  | .t _ => true
  | _ => false
def nameX (i : Nat) : TX := fun S Q => match S[i]? with
  | some (.d x) => Q (.d x) S
  | some (.l _) => Q (.al i) S
  | some (.o _) => Q (.al i) S
  | some (.t _) => Q (.al i) S
  | _ => False
def valX (x : PV) : TX := fun S Q => Q x S
section
variable {X : Cx} {e a b c : Expr} {pos : Pos} {ta tb tc : TX} {kp : Nat → Bool}
theorem x_var {i : Nat} (h : PE X e (tVar i)) : PE X e (rw (nameX i)) := PE_imp h fun σ H Q q => by
  obtain ⟨F, G, S, Qp, hr, ht, k⟩ := q
  unfold nameX at ht
  cases e : S[i]? with
  | none => rw [e] at ht; exact ht.elim
  | some x =>
    rw [e] at ht
    cases x with
    | d x =>
      obtain ⟨v, ev, r⟩ := hr.nameD e
      exact ⟨v, ev, k v _ _ _ _ r (Same.refl _) ht⟩
    | l x =>
      obtain ⟨v, ev, r⟩ := hr.nameO e (fun z => nomatch z)
      exact ⟨v, ev, k v _ _ _ _ r (Same.refl _) ht⟩
    | o x =>
      obtain ⟨v, ev, r⟩ := hr.nameO e (fun z => nomatch z)
      exact ⟨v, ev, k v _ _ _ _ r (Same.refl _) ht⟩
    | t x =>
      obtain ⟨v, ev, r⟩ := hr.nameO e (fun z => nomatch z)
      exact ⟨v, ev, k v _ _ _ _ r (Same.refl _) ht⟩
    | un => exact ht.elim
    | ty _ => exact ht.elim
    | al _ => exact ht.elim
/-- flat data without the heap -/
inductive Cv : V → PyData → Prop
  | non : Cv .non .none
  | bl (b : Bool) : Cv (.bl b) (.bool b)
  | int (i : Int) : Cv (.int i) (.int i)
  | str (x : Str) : Cv (.str x) (.str x)
theorem Cv.lv {v : V} {x : PyData} {F : Hp} (h : Cv v x) : Lv F v x := by
  cases h
  · exact .non
  · exact .bl _
  · exact .int _
  · exact .str _
theorem x_val {v : V} {x : PyData} (h : PE X e (tC v)) (hv : Cv v x) : PE X e (rw (valX (.d x))) := PE_imp h fun σ H Q q => by
  obtain ⟨F, G, S, Qp, hr, ht, k⟩ := q
  exact k v _ _ _ _ (hr.withD hv.lv) (Same.refl _) ht
theorem x_ty {n : String} (h : PE X e (tC (.ty n))) : PE X e (rw (valX (.ty n))) := PE_imp h fun σ H Q q => by
  obtain ⟨F, G, S, Qp, hr, ht, k⟩ := q
  exact k _ _ _ _ _ hr.withTy (Same.refl _) ht
/-! two values -/
abbrev P2 := List PV → PV → PV → KP → Prop
def Sim2 (r : R2) (p : P2) : Prop := ∀ F G H σ S v u x y Qp Q, RepA F G H σ S [v, u] [x, y] → p S x y Qp → Fin F G σ Qp Q → r v u H Q
def binX (p : P2) (ta tb : TX) : TX := fun S Q => ta S fun x S1 => tb S1 fun y S2 => p S2 x y Q
theorem bin_sim {r : R2} {p : P2} (sim : Sim2 r p) {σ : L2.St} {H : Hp} {Q : VK} (q : rw (binX p ta tb) σ H Q) : tOp r (rw ta) (rw tb) σ H Q := by
  obtain ⟨F, G, S, Qp, hr, ht, k⟩ := q
  refine ⟨F, G, S, _, hr, ht, fun v x S1 F1 H1 r1 s1 h1 => ?_⟩
  obtain ⟨G1, sg, r2, more⟩ := r1.aside
  exact ⟨F1, G1, S1, _, r2, h1, fun u y S2 F2 H2 r3 s2 h2 => sim _ _ _ _ _ _ _ _ _ _ _ (more _ _ _ _ _ r3 s2) h2 (k.up (s1.trans s2))⟩
theorem x_op {op : Operator} {r : R2} {p : P2} (sim : Sim2 r p) (ho : OpR X (binaryOp op) r) (ha : PE X a (rw ta)) (hb : PE X b (rw tb)) : PE X (.BinOp a op b pos) (rw (binX p ta tb)) :=
  PE_imp (pe_op ho ha hb) fun _ _ _ q => bin_sim sim q
theorem x_cmp {op : CmpOp} {r : R2} {p : P2} (sim : Sim2 r p) (ho : OpR X (compareOp op) r) (ha : PE X a (rw ta)) (hb : PE X b (rw tb)) (hm : behindInMarks op b = false) : PE X (.Compare a [op] [b] pos) (rw (binX p ta tb)) :=
  PE_imp (pe_cmpR ho ha hb hm) fun _ _ _ q => bin_sim sim q
/-- a test of a value that is a truth -/
def isTr : PV → Option Bool
  | .d (.bool b) => some b
  | _ => none
def testX (t : TX) : TXT := fun S Q => t S fun x S1 => ∃ b, isTr x = some b ∧ Q b S1
theorem test_sim {t : TX} {σ : L2.St} {H : Hp} {Q : Bool → Hp → Prop} (q : rwT (testX t) σ H Q) : rw t σ H (fun x H' => ∃ k, x = .bl k ∧ Q k H') := by
  obtain ⟨F, G, S, Qp, hr, ht, k⟩ := q
  refine ⟨F, G, S, _, hr, ht, fun v x S1 F1 H1 r1 s1 h1 => ?_⟩
  obtain ⟨b, eb, h1⟩ := h1
  cases x with
  | d x =>
    cases x with
    | bool b' =>
      cases eb
      cases r1.dat
      exact ⟨_, rfl, k _ _ _ _ r1.rep s1 h1⟩
    | _ => cases eb
  | _ => cases eb
theorem xt_val (h : PE X e (rw ta)) (he : ∀ whole, isTrue e X.env whole = (do let v ← whole; standAt e.pos; holding [v] (truthy v)) := by intro _; rfl) : PT X e (rwT (testX ta)) := PT_imp (pt_val h he) fun _ _ _ q => test_sim q
theorem xt_cmp {op : CmpOp} {r : R2} {p : P2} (sim : Sim2 r p) (ho : OpR X (compareOp op) r) (ha : PE X a (rw ta)) (hb : PE X b (rw tb)) (hm : behindInMarks op b = false) : PT X (.Compare a [op] [b] pos) (rwT (testX (binX p ta tb))) :=
  PT_imp (pt_cmpR ho ha hb hm) fun σ H Q q => bin_sim sim (test_sim q)
/-! and, or, not, if -/
abbrev pick : Bool → Prop → Prop → Prop
  | true, A, _ => A
  | false, _, B => B
theorem pick_of {b : Bool} {A B : Prop} (h1 : b = true → A) (h2 : b = false → B) : pick b A B := by
  cases b with
  | true => exact h1 rfl
  | false => exact h2 rfl
theorem pick_ite {b : Bool} {A B : Prop} (h : pick b A B) : if b = true then A else B := by
  cases b with
  | true => rw [if_pos rfl]; exact h
  | false => rw [if_neg Bool.false_ne_true]; exact h
def andT (t u : TXT) : TXT := fun S Q => t S fun b S1 => pick b (u S1 Q) (Q false S1)
def orT (t u : TXT) : TXT := fun S Q => t S fun b S1 => pick b (Q true S1) (u S1 Q)
def notT (t : TXT) : TXT := fun S Q => t S fun b S1 => Q (!b) S1
variable {t u : TXT} {rest : List Expr}
theorem xw_and1 (ha : PT X a (rwT t)) : PW X (.BoolOp .And [a] pos) (rwT t) := pw_and1 ha
theorem xw_or1 (ha : PT X a (rwT t)) : PW X (.BoolOp .Or [a] pos) (rwT t) := pw_or1 ha
theorem xw_and (ha : PT X a (rwT t)) (hb : PW X (.BoolOp .And (b :: rest) pos) (rwT u)) : PW X (.BoolOp .And (a :: b :: rest) pos) (rwT (andT t u)) := PW_imp (pw_and ha hb) fun σ H Q q => by
  obtain ⟨F, G, S, Qp, hr, ht, k⟩ := q
  refine ⟨F, G, S, _, hr, ht, fun b S1 F1 H1 r1 s1 h1 => ?_⟩
  cases b with
  | true =>
    rw [if_pos rfl]
    exact ⟨F1, G, S1, _, r1, h1, k.up s1⟩
  | false =>
    rw [if_neg Bool.false_ne_true]
    exact k _ _ _ _ r1 s1 h1
theorem xw_or (ha : PT X a (rwT t)) (hb : PW X (.BoolOp .Or (b :: rest) pos) (rwT u)) : PW X (.BoolOp .Or (a :: b :: rest) pos) (rwT (orT t u)) := PW_imp (pw_or ha hb) fun σ H Q q => by
  obtain ⟨F, G, S, Qp, hr, ht, k⟩ := q
  refine ⟨F, G, S, _, hr, ht, fun b S1 F1 H1 r1 s1 h1 => ?_⟩
  cases b with
  | true =>
    rw [if_pos rfl]
    exact k _ _ _ _ r1 s1 h1
  | false =>
    rw [if_neg Bool.false_ne_true]
    exact ⟨F1, G, S1, _, r1, h1, k.up s1⟩
theorem xt_not (ha : PT X a (rwT t)) : PT X (.UnaryOp .Not a pos) (rwT (notT t)) := PT_imp (pt_not ha) fun σ H Q q => by
  obtain ⟨F, G, S, Qp, hr, ht, k⟩ := q
  exact ⟨F, G, S, _, hr, ht, fun b S1 F1 H1 r1 s1 h1 => k _ _ _ _ r1 s1 h1⟩
def andX (t u : TX) : TX := fun S Q => t S fun x S1 => ∃ b, isTr x = some b ∧ pick b (u S1 Q) (Q (.d (.bool false)) S1)
def orX (t u : TX) : TX := fun S Q => t S fun x S1 => ∃ b, isTr x = some b ∧ pick b (Q (.d (.bool true)) S1) (u S1 Q)
def notX (t : TX) : TX := fun S Q => t S fun x S1 => ∃ b, isTr x = some b ∧ Q (.d (.bool (!b))) S1
theorem tr_dat {x : PV} {b : Bool} (h : isTr x = some b) : x = .d (.bool b) := by
  cases x with
  | d x => cases x <;> cases h; rfl
  | _ => cases h
theorem x_one {op} (h : PE X a (rw ta)) : PE X (.BoolOp op [a] pos) (rw ta) := pe_one h
theorem x_and (ha : PE X a (rw ta)) (hb : PE X (.BoolOp .And (b :: rest) pos) (rw tb)) : PE X (.BoolOp .And (a :: b :: rest) pos) (rw (andX ta tb)) := PE_imp (pe_and ha hb) fun σ H Q q => by
  obtain ⟨F, G, S, Qp, hr, ht, k⟩ := q
  refine ⟨F, G, S, _, hr, ht, fun v x S1 F1 H1 r1 s1 h1 => ?_⟩
  obtain ⟨b, eb, h1⟩ := h1
  cases tr_dat eb
  cases r1.dat
  refine ⟨b, rfl, ?_⟩
  cases b with
  | true =>
    rw [if_pos rfl]
    exact ⟨F1, G, S1, _, r1.rep, h1, k.up s1⟩
  | false =>
    rw [if_neg Bool.false_ne_true]
    exact k _ _ _ _ _ r1 s1 h1
theorem x_or (ha : PE X a (rw ta)) (hb : PE X (.BoolOp .Or (b :: rest) pos) (rw tb)) : PE X (.BoolOp .Or (a :: b :: rest) pos) (rw (orX ta tb)) := PE_imp (pe_or ha hb) fun σ H Q q => by
  obtain ⟨F, G, S, Qp, hr, ht, k⟩ := q
  refine ⟨F, G, S, _, hr, ht, fun v x S1 F1 H1 r1 s1 h1 => ?_⟩
  obtain ⟨b, eb, h1⟩ := h1
  cases tr_dat eb
  cases r1.dat
  refine ⟨b, rfl, ?_⟩
  cases b with
  | true =>
    rw [if_pos rfl]
    exact k _ _ _ _ _ r1 s1 h1
  | false =>
    rw [if_neg Bool.false_ne_true]
    exact ⟨F1, G, S1, _, r1.rep, h1, k.up s1⟩
theorem x_not (ha : PE X a (rw ta)) : PE X (.UnaryOp .Not a pos) (rw (notX ta)) := PE_imp (pe_not ha) fun σ H Q q => by
  obtain ⟨F, G, S, Qp, hr, ht, k⟩ := q
  refine ⟨F, G, S, _, hr, ht, fun v x S1 F1 H1 r1 s1 h1 => ?_⟩
  obtain ⟨b, eb, h1⟩ := h1
  cases tr_dat eb
  cases r1.dat
  exact ⟨b, rfl, k _ _ _ _ _ (r1.rep.withD (.bl _)) s1 h1⟩
def ifX (t : TXT) (u w : TX) : TX := fun S Q => t S fun b S1 => pick b (u S1 Q) (w S1 Q)
theorem x_if (hc : PT X c (rwT t)) (ha : PE X a (rw ta)) (hb : PE X b (rw tb)) : PE X (.IfExp c a b pos) (rw (ifX t ta tb)) := PE_imp (pe_ifExp hc ha hb) fun σ H Q q => by
  obtain ⟨F, G, S, Qp, hr, ht, k⟩ := q
  refine ⟨F, G, S, _, hr, ht, fun b S1 F1 H1 r1 s1 h1 => ?_⟩
  cases b with
  | true =>
    rw [if_pos rfl]
    exact ⟨F1, G, S1, _, r1, h1, k.up s1⟩
  | false =>
    rw [if_neg Bool.false_ne_true]
    exact ⟨F1, G, S1, _, r1, h1, k.up s1⟩
/-! arguments -/
variable {es : List Expr} {tr : TXA}
def nilA : TXA := fun S Q => Q [] S
def consA (t : TX) (r : TXA) : TXA := fun S Q => t S fun x S1 => r S1 fun xs S2 => Q (x :: xs) S2
theorem xa_nil : PA X [] (rwA nilA) := PA_imp pa_nil fun σ H Q q => by
  obtain ⟨F, G, S, Qp, hr, ht, k⟩ := q
  exact k [] [] _ _ _ hr (Same.refl _) ht
theorem xa_cons (ha : PE X e (rw ta)) (hr : PA X es (rwA tr)) (hs : starEach (e :: es) X.env = (false, eval e X.env) :: starEach es X.env := by rfl) : PA X (e :: es) (rwA (consA ta tr)) := PA_imp (pa_cons ha hr hs) fun σ H Q q => by
  obtain ⟨F, G, S, Qp, hr, ht, k⟩ := q
  refine ⟨F, G, S, _, hr, ht, fun v x S1 F1 H1 r1 s1 h1 => ?_⟩
  obtain ⟨G1, sg, r2, more⟩ := r1.aside
  exact ⟨F1, G1, S1, _, r2, h1, fun us ys S2 F2 H2 r3 s2 h2 => k _ _ _ _ _ (more _ _ _ _ _ r3 s2) (s1.trans s2) h2⟩
/-! calls of built-ins, by values -/
abbrev PC' := List PV → List PV → KP → Prop
def SimC (r : List V → Hp → VK → Prop) (p : PC') : Prop := ∀ F G H σ S vs xs Qp Q, RepA F G H σ S vs xs → p S xs Qp → Fin F G σ Qp Q → r vs H Q
def callX (p : PC') (t : TXA) : TX := fun S Q => t S fun xs S1 => p S1 xs Q
theorem call_sim {r : List V → Hp → VK → Prop} {p : PC'} (sim : SimC r p) {σ : L2.St} {H : Hp} {Q : VK} (q : rw (callX p tr) σ H Q) : rwA tr σ H (fun vs H' => r vs H' Q) := by
  obtain ⟨F, G, S, Qp, hr, ht, k⟩ := q
  exact ⟨F, G, S, _, hr, ht, fun vs xs S1 F1 H1 r1 s1 h1 => sim _ _ _ _ _ _ _ _ _ r1 h1 (k.up s1)⟩
theorem x_callB {x : Str} {id : String} {r : List V → Hp → VK → Prop} {p : PC'} {npos : Pos} (sim : SimC r p) (hc : CallR X (.builtin id) r) (hg : Gl X x) (hm : X.mg x = none) (hv : bootBuiltins x = some (.builtin id)) (ha : PA X (e :: es) (rwA tr)) (hn : x ≠ "__name__" := by decide) (hdb : (x == ("__debug__" : Str)) = false := by decide)
    (h : PE X c (tCB r (rwA tr))) : PE X c (rw (callX p tr)) := PE_imp h fun _ _ _ q => call_sim sim q
theorem x_cb {r : List V → Hp → VK → Prop} {p : PC'} (sim : SimC r p) (h : PE X c (tCB r (rwA tr))) : PE X c (rw (callX p tr)) := PE_imp h fun _ _ _ q => call_sim sim q
end
end Px

namespace Px
open PySem PySem.Spec PyProof.Rows L2 Fo
/-! ### statements -/
def putX (S : List PV) (i : Nat) : PV → List PV
  | .al j => (S.set j .un).set i (S.getD j .un)
  | x => S.set i x
def finX (S : List PV) : PV → PV × List PV
  | .al j => (S.getD j .un, S.set j .un)
  | x => (x, S)
def nextS : TXS := fun D S => D.nx S
def seqS (a b : TXS) : TXS := fun D S => a { D with nx := b D } S
def setS (i : Nat) (t : TX) : TXS := fun D S => t S fun r S1 => force (putX S1 i r) D.nx
def dropS (t : TX) : TXS := fun D S => t S fun _ S1 => D.nx S1
def retS (t : TX) : TXS := fun D S => t S fun r S1 => D.rt r S1
def retNS : TXS := fun D S => D.rt (.d .none) S
def brkS : TXS := fun D S => D.bk S
def cntS : TXS := fun D S => D.ct S
def ifS (c : TXT) (a b : TXS) : TXS := fun D S => c S fun k S1 => pick k (a D S1) (b D S1)
section
variable {F F' G G' H H' : Hp} {σ : L2.St} {S : List PV}
theorem RVs.split : ∀ {xs : List PV} {vs us : List V} {ys : List PV} {f : List Addr}, vs.length = xs.length → RVs σ F H (vs ++ us) (xs ++ ys) f → ∃ f1 f2, f = f1 ++ f2 ∧ RVs σ F H vs xs f1 ∧ RVs σ F H us ys f2
  | [], [], _, _, f, _, h => ⟨[], f, rfl, .nil, h⟩
  | [], _ :: _, _, _, _, e, _ => nomatch e
  | _ :: _, [], _, _, _, e, _ => nomatch e
  | x :: xs, v :: vs, us, ys, f, e, h => by
    cases h with
    | cons h1 h2 =>
      obtain ⟨f1, f2, rfl, q1, q2⟩ := RVs.split (xs := xs) (vs := vs) (Nat.succ.inj e) h2
      exact ⟨_, f2, (List.append_assoc ..).symm, .cons h1 q1, q2⟩
theorem RVs.others {τ : L2.St} : ∀ {xs : List PV} {vs : List V} {f : List Addr}, RVs σ F H vs xs f → (∀ x ∈ xs, ∀ i, x ≠ .al i) → RVs τ F H vs xs f
  | [], _, _, h, _ => by cases h; exact .nil
  | x :: xs, _, _, h, k => by
    cases h with
    | cons h1 h2 => exact .cons (h1.other (k x (List.mem_cons_self ..))) (RVs.others h2 fun y m => k y (List.mem_cons_of_mem _ m))
theorem RepA.aside2 {vs us : List V} {xs ys : List PV} (h : RepA F G H σ S (vs ++ us) (xs ++ ys)) (hl : vs.length = xs.length) : ∃ G1, Same G G1 ∧ RepA F G1 H σ S vs xs ∧
    ∀ F' H' σ' S' ws zs, RepA F' G1 H' σ' S' ws zs → Same F F' → (σ' = σ ∨ ∀ y ∈ ys, ∀ i, y ≠ .al i) → RepA F' G H' σ' S' (us ++ ws) (ys ++ zs) := by
  obtain ⟨f, fs, h⟩ := h
  obtain ⟨fw, fv, rfl, hw, hv⟩ := h.vl.split hl
  have nd0 := h.nd
  rw [List.append_assoc] at nd0
  have n1 := List.nodup_append.mp nd0
  have nd := List.nodup_append.mp n1.2.1
  have offv : ∀ a ∈ fv, F a = none ∧ G a = none := fun a m => h.off a (List.mem_append_left _ (List.mem_append_right _ m))
  have sg : Same G (lock G H fv) := fun a o e => by
    have nm : a ∉ fv := fun m => by
      rw [(offv a m).2] at e
      cases e
    rw [lock_out nm]
    exact e
  have mine : ∀ a ∈ fw ++ fs, a ∈ (fw ++ fv) ++ fs ∧ a ∉ fv := fun a m => by
    rcases List.mem_append.mp m with m | m
    · exact ⟨List.mem_append_left _ (List.mem_append_left _ m), fun z => n1.2.2 a m a (List.mem_append_left _ z) rfl⟩
    · exact ⟨List.mem_append_right _ m, fun z => nd.2.2 a z a m rfl⟩
  refine ⟨lock G H fv, sg, ⟨fw, fs, h.lf, fun a o e => ?_, h.sl, hw, List.nodup_append.mpr ⟨n1.1, nd.2.1, fun a ha b hb => n1.2.2 a ha b (List.mem_append_right _ hb)⟩, fun a m => ?_, fun a o e => ?_⟩, fun F' H' σ' S' ws zs k sf na => ?_⟩
  · by_cases m : a ∈ fv
    · rw [lock_in m] at e; exact e
    · rw [lock_out m] at e; exact h.lg a o e
  · have z := mine a m
    refine ⟨(h.off a z.1).1, ?_⟩
    rw [lock_out z.2]
    exact (h.off a z.1).2
  · by_cases m : a ∈ fv
    · refine ⟨(offv a m).1, ?_⟩
      rw [lock_in m] at e
      obtain ⟨o', e', n⟩ := hv.has _ _ _ a m
      rw [e] at e'
      cases e'
      exact n
    · rw [lock_out m] at e; exact h.dj a o e
  · obtain ⟨fu, fs', k⟩ := k
    have keepH : ∀ a ∈ fv, H' a = H a := fun a m => by
      obtain ⟨o, e, _⟩ := hv.has _ _ _ a m
      rw [e]
      exact k.lg a o (by rw [lock_in m]; exact e)
    have apart : ∀ a ∈ fu ++ fs', a ∉ fv := fun a m z => by
      obtain ⟨o, e, _⟩ := hv.has _ _ _ a z
      have := (k.off a m).2
      rw [lock_in z, e] at this
      cases this
    have kn := List.nodup_append.mp k.nd
    have hv' := hv.stay sf _ _ _ keepH
    have hv2 : RVs σ' F' H' us ys fv := by
      rcases na with rfl | na
      · exact hv'
      · exact hv'.others na
    refine ⟨fv ++ fu, fs', k.lf, fun a o e => k.lg a o (sg a o e), k.sl, hv2.app k.vl, ?_, fun a m => ?_, fun a o e => k.dj a o (sg a o e)⟩
    · rw [List.append_assoc]
      exact List.nodup_append.mpr ⟨nd.1, k.nd, fun a ha b hb e => apart b hb (e ▸ ha)⟩
    · rw [List.append_assoc] at m
      rcases List.mem_append.mp m with m | m
      · refine ⟨?_, (offv a m).2⟩
        obtain ⟨o, e, _⟩ := hv.has _ _ _ a m
        exact (k.dj a o (by rw [lock_in m]; exact e)).1
      · exact ⟨(k.off a m).1, by
          have z := (k.off a m).2
          rwa [lock_out (apart a m)] at z⟩
/-- the order in the hand turned -/
theorem RepA.turn {vs us : List V} {xs ys : List PV} (h : RepA F G H σ S (vs ++ us) (xs ++ ys)) (hl : vs.length = xs.length) : RepA F G H σ S (us ++ vs) (ys ++ xs) := by
  obtain ⟨f, fs, h⟩ := h
  obtain ⟨f1, f2, rfl, h1, h2⟩ := h.vl.split hl
  have pm : ((f2 ++ f1) ++ fs).Perm ((f1 ++ f2) ++ fs) := (List.perm_append_comm).append_right fs
  exact ⟨f2 ++ f1, fs, h.lf, h.lg, h.sl, h2.app h1, pm.nodup_iff.mpr h.nd, fun a m => h.off a (pm.mem_iff.mp m), h.dj⟩
end
section
variable {F F' G H : Hp} {σ : L2.St} {S : List PV} {v : V} {r : PV} {vs : List V} {xs : List PV}
theorem RepA.moved {j : Nat} (h : RepA F G H σ S (v :: vs) (.al j :: xs)) : RepA F G H σ (S.set j .un) (v :: vs) (S.getD j .un :: xs) := by
  by_cases hj : j < S.length
  · exact h.move (by rw [List.getD_eq_getElem?_getD, List.getElem?_eq_getElem hj]; rfl)
  · obtain ⟨f, r⟩ := h.hd
    cases r with
    | al e => exact absurd (List.getElem?_eq_some_iff.mp e).1 (by rw [← h.lenS]; exact hj)
/-- what stands in a slot is no other name -/
theorem RepA.slotNoal (h : RepA F G H σ S vs xs) (i j : Nat) : S.getD i .un ≠ .al j := by
  intro e
  by_cases hi : i < S.length
  · have e1 : S[i]? = some (.al j) := by rw [← e, List.getD_eq_getElem?_getD, List.getElem?_eq_getElem hi]; rfl
    obtain ⟨v, f, _, r, _⟩ := h.chg e1 (fun z => nomatch z)
    exact r.noal j rfl
  · rw [List.getD_eq_getElem?_getD, List.getElem?_eq_none (by omega)] at e
    cases e
theorem RepA.setv {x : PV} (h : RepA F G H σ S [v] [x]) (na : ∀ j, x ≠ .al j) (i : Nat) : Rep F G H (σ.set i (some v)) (S.set i x) := by
  by_cases hi : i < S.length
  · exact h.put hi fun f r => r.other na
  · have e1 : S.set i x = S := List.set_eq_of_length_le (by omega)
    have e2 : σ.set i (some v) = σ := List.set_eq_of_length_le (by rw [← h.lenS]; omega)
    rw [e1, e2]
    exact h.rep
theorem RepA.putAny (h : RepA F G H σ S [v] [r]) (i : Nat) : Rep F G H (σ.set i (some v)) (putX S i r) := by
  cases r with
  | al j => exact h.moved.setv (h.slotNoal j) i
  | _ => exact h.setv (fun j z => nomatch z) i
theorem RepA.finished (h : RepA F G H σ S [v] [r]) : RepA F G H σ (finX S r).2 [v] [(finX S r).1] := by
  cases r with
  | al j => exact h.moved
  | _ => exact h
end
section
variable {X : Cx} {e a b c : Expr} {pos : Pos} {te : TX} {tc : TXT} {kp : Nat → Bool} {st : Stmt} {rest : List Stmt} {t u : TXS} {as bs : List Stmt}
theorem xs_nil : PSs X [] (rwS kp nextS) := PSs_imp pss_nil fun D σ H q => by
  obtain ⟨F, G, S, Dp, hr, ht, k⟩ := q
  exact k.nx _ _ _ _ hr (Same.refl _) (Kp.refl ..) ht
theorem xs_cons (h1 : PS X st (rwS kp t)) (h2 : PSs X rest (rwS kp u)) : PSs X (st :: rest) (rwS kp (seqS t u)) := PSs_imp (pss_cons h1 h2) fun D σ H q => by
  obtain ⟨F, G, S, Dp, hr, ht, k⟩ := q
  exact ⟨F, G, S, _, hr, ht, ⟨fun σ' S' F' H' r' s' e' q' => ⟨F', G, S', Dp, r', q', k.on s' e'⟩, k.rt, k.bk, k.ct⟩⟩
theorem xs_one (h1 : PS X st (rwS kp t)) : PSs X [st] (rwS kp t) := pss_one h1
theorem set_sim {i : Nat} {D : Ends} {σ : L2.St} {H : Hp} (hk : kp i = false) (q : rwS kp (setS i te) D σ H) : tAsg (rw te) (gName i) D σ H := by
  obtain ⟨F, G, S, Dp, hr, ht, k⟩ := q
  exact ⟨F, G, S, _, hr, ht, fun v r S' F' H' r' s' q' => k.nx _ _ _ _ (r'.putAny i) s' (Kp.set hk) (unforce q')⟩
theorem xs_set {i : Nat} (hk : kp i = false) (h : PS X st (tAsg (rw te) (gName i))) : PS X st (rwS kp (setS i te)) := PS_imp h fun _ _ _ q => set_sim hk q
theorem xs_expr (h : PS X st (tDrop (rw te))) : PS X st (rwS kp (dropS te)) := PS_imp h fun D σ H q => by
  obtain ⟨F, G, S, Dp, hr, ht, k⟩ := q
  exact ⟨F, G, S, _, hr, ht, fun v r S' F' H' r' s' q' => k.nx _ _ _ _ r'.rep s' (Kp.refl ..) q'⟩
theorem xs_ret (h : PS X st (tRet (rw te))) : PS X st (rwS kp (retS te)) := PS_imp h fun D σ H q => by
  obtain ⟨F, G, S, Dp, hr, ht, k⟩ := q
  exact ⟨F, G, S, _, hr, ht, fun v r S' F' H' r' s' q' => k.rt _ _ _ _ _ _ r' s' (Kp.refl ..) q'⟩
theorem xs_retN (h : PS X st tRetN) : PS X st (rwS kp retNS) := PS_imp h fun D σ H q => by
  obtain ⟨F, G, S, Dp, hr, ht, k⟩ := q
  exact k.rt _ _ _ _ _ _ (hr.withD .non) (Same.refl _) (Kp.refl ..) ht
theorem xs_break (h : PS X st tBreak) : PS X st (rwS kp brkS) := PS_imp h fun D σ H q => by
  obtain ⟨F, G, S, Dp, hr, ht, k⟩ := q
  exact k.bk _ _ _ _ hr (Same.refl _) (Kp.refl ..) ht
theorem xs_cont (h : PS X st tCont) : PS X st (rwS kp cntS) := PS_imp h fun D σ H q => by
  obtain ⟨F, G, S, Dp, hr, ht, k⟩ := q
  exact k.ct _ _ _ _ hr (Same.refl _) (Kp.refl ..) ht
theorem xs_pass (h : PS X st tNext) : PS X st (rwS kp nextS) := PS_imp h fun D σ H q => by
  obtain ⟨F, G, S, Dp, hr, ht, k⟩ := q
  exact k.nx _ _ _ _ hr (Same.refl _) (Kp.refl ..) ht
theorem xs_if (hc : PT X c (rwT tc)) (ha : PSs X as (rwS kp t)) (hb : PSs X bs (rwS kp u)) : PS X (.If c as bs pos) (rwS kp (ifS tc t u)) := PS_imp (ps_if hc ha hb) fun D σ H q => by
  obtain ⟨F, G, S, Dp, hr, ht, k⟩ := q
  refine ⟨F, G, S, _, hr, ht, fun b S1 F1 H1 r1 s1 h1 => ?_⟩
  cases b with
  | true =>
    rw [if_pos rfl]
    exact ⟨F1, G, S1, _, r1, h1, k.on s1 (Kp.refl ..)⟩
  | false =>
    rw [if_neg Bool.false_ne_true]
    exact ⟨F1, G, S1, _, r1, h1, k.on s1 (Kp.refl ..)⟩
/-! ### targets -/
def nameG (i : Nat) : TXG := fun x S Q => force (putX S i x) Q
def nilG : TXGs := fun xs S Q => xs = [] ∧ Q S
def consG (g : TXG) (r : TXGs) : TXGs := fun xs S Q => match xs with
  | x :: ys => g x S fun S1 => r ys S1 Q
  | [] => False
def partsOf : PV → Option (List PV)
  | .d (.tuple ds) => some (ds.map .d)
  | .t xs => some xs
  | _ => none
def tupG (n : Nat) (r : TXGs) : TXG := fun x S Q => ∃ xs, partsOf (finX S x).1 = some xs ∧ xs.length = n ∧ r xs (finX S x).2 Q
def asgS (t : TX) (g : TXG) : TXS := fun D S => t S fun x S1 => g x S1 D.nx
variable {g : TXG} {gs : TXGs}
theorem xg_name {i : Nat} (hk : kp i = false) (h : PG X e (gName i)) : PG X e (rwG kp (nameG i)) := PG_imp h fun v σ H Q q => by
  obtain ⟨F, G, S, x, Qp, hr, ht, k⟩ := q
  exact k _ _ _ _ (hr.putAny i) (Same.refl _) (Kp.set hk) (unforce ht)
theorem xgs_nil : PGs X [] (rwGs kp nilG) := PGs_imp pgs_nil fun vs σ H Q q => by
  obtain ⟨F, G, S, xs, Qp, hr, _, ht, k⟩ := q
  obtain ⟨rfl, ht⟩ := ht
  have e : vs = [] := by
    obtain ⟨fv, fs, hr⟩ := hr
    cases hr.vl
    rfl
  exact ⟨e, k _ _ _ _ hr.rep (Same.refl _) (Kp.refl ..) ht⟩
theorem xgs_cons {es : List Expr} (h1 : PG X e (rwG kp g)) (h2 : PGs X es (rwGs kp gs))
    (hs : (assignEach (e :: es) X.env).map (·.2) = assign e X.env :: (assignEach es X.env).map (·.2) := by rfl) : PGs X (e :: es) (rwGs kp (consG g gs)) := PGs_imp (pgs_cons h1 h2 hs) fun vs σ H Q q => by
  obtain ⟨F, G, S, xs, Qp, hr, na, ht, k⟩ := q
  cases xs with
  | nil => exact ht.elim
  | cons x xs =>
    cases vs with
    | nil =>
      obtain ⟨fv, fs, hr⟩ := hr
      cases hr.vl
    | cons v vs =>
      obtain ⟨G1, sg, r1, more⟩ := RepA.aside2 (vs := [v]) (xs := [x]) hr rfl
      refine ⟨v, vs, rfl, F, G1, S, x, _, r1, ht, fun σ' S' F' H' r' s' e' q' => ?_⟩
      have r2 := more F' H' σ' S' [] [] r' s' (.inr fun y m => na y (List.mem_cons_of_mem _ m))
      rw [List.append_nil, List.append_nil] at r2
      exact ⟨F', G, S', xs, _, r2, fun y m => na y (List.mem_cons_of_mem _ m), q', k.on s' e'⟩
theorem parts_sim {F G H : Hp} {σ : L2.St} {S : List PV} {v : V} {x : PV} {xs : List PV} (h : RepA F G H σ S [v] [x]) (e : partsOf x = some xs) : ∃ p us, v = .ref p ∧ H p = some (.tup us) ∧ us.length = xs.length ∧ (∀ y ∈ xs, ∀ i, y ≠ .al i) ∧ RepA F G H σ S us xs := by
  cases x with
  | d x =>
    cases x with
    | tuple ds =>
      cases e
      cases h.dat with
      | tup h1 h2 =>
        have hx : ∀ (ds : List PyData) (us : List V), LvA F us ds → RVs σ F H us (ds.map .d) [] := by
          intro ds
          induction ds with
          | nil => intro us q; cases q; exact .nil
          | cons d ds ih =>
            intro us q
            cases q with
            | cons q1 q2 => exact RVs.cons (f := []) (.d q1) (ih _ q2)
        refine ⟨_, _, rfl, h.lf _ _ h1, by rw [h2.len, List.length_map], fun y m i z => ?_, ?_⟩
        · obtain ⟨d, _, rfl⟩ := List.mem_map.mp m
          cases z
        · obtain ⟨fv, fs, h⟩ := h.rep
          cases h.vl
          exact ⟨[], fs, h.lf, h.lg, h.sl, hx _ _ h2, h.nd, h.off, h.dj⟩
    | _ => cases e
  | t ys =>
    cases e
    obtain ⟨fv, fs, h⟩ := h
    cases h.vl with
    | cons h1 h2 =>
      cases h2
      cases h1 with
      | t h1 h3 =>
        have nd := h.nd
        have off := h.off
        rw [List.append_nil] at nd off
        have na : ∀ (ys : List PV) (us : List V) (f : List Addr), RVs [] F H us ys f → ∀ y ∈ ys, ∀ i, y ≠ .al i := by
          intro ys
          induction ys with
          | nil => intro us f _ y m; cases m
          | cons z ys ih =>
            intro us f q y m
            cases q with
            | cons q1 q2 =>
              rcases List.mem_cons.mp m with rfl | m
              · exact q1.noal
              · exact ih _ _ q2 y m
        exact ⟨_, _, rfl, h.lf _ _ h1, h3.len, na _ _ _ h3, _, fs, h.lf, h.lg, h.sl, h3.others (na _ _ _ h3), nd, off, h.dj⟩
  | _ => cases e
theorem xg_tup {n : Nat} {K : PySem.W.Frag} {tr : TGs} (htr : tr = rwGs kp gs) (h : PG X e (gTup K n tr)) : PG X e (rwG kp (tupG n gs)) := by
  subst htr
  refine PG_imp h fun v σ H Q q => ?_
  obtain ⟨F, G, S, x, Qp, hr, ht, k⟩ := q
  obtain ⟨xs, ex, hn, ht⟩ := ht
  obtain ⟨p, us, rfl, e1, hl, na, r2⟩ := parts_sim hr.finished ex
  exact ⟨p, us, rfl, SqT.of e1, hl.trans hn, F, G, _, xs, Qp, r2, na, ht, k⟩
theorem xs_asg (h : PS X st (tAsg (rw te) (rwG kp g))) : PS X st (rwS kp (asgS te g)) := PS_imp h fun D σ H q => by
  obtain ⟨F, G, S, Dp, hr, ht, k⟩ := q
  exact ⟨F, G, S, _, hr, ht, fun v r S' F' H' r' s' q' => ⟨F', G, S', r, _, r', q', k.nx.up s'⟩⟩
end
end Px

namespace Px
open PySem PySem.Spec PyProof.Rows L2 Fo
section
variable {F F' F0 G G' H H' : Hp} {σ : L2.St} {S : List PV} {v : V} {vs : List V} {xs : List PV}
/-! ### own lists, frozen -/
theorem RepA.freeze {ds : List PyData} (h : RepA F G H σ S (v :: vs) (.l ds :: xs)) : ∃ p ws, v = .ref p ∧ H p = some (.lst ws) ∧ LvA F ws ds ∧ Same F (upd F p (.lst ws)) ∧ RepA (upd F p (.lst ws)) G H σ S (v :: vs) (.d (.list ds) :: xs) := by
  obtain ⟨f, fs, h⟩ := h
  cases hv : h.vl with
  | cons h1 h2 =>
    rename_i fv
    cases h1 with
    | l h1 h3 =>
      rename_i p ws
      have nd := List.nodup_cons.mp (show (p :: (fv ++ fs)).Nodup by have := h.nd; simpa using this)
      have hp := h.off p (by simp)
      have sF : Same F (upd F p (.lst ws)) := fun a u q => by
        have : a ≠ p := fun z => by rw [z, hp.1] at q; cases q
        rw [upd_ne this]
        exact q
      refine ⟨p, ws, rfl, h1, h3, sF, fv, fs, fun a u q => ?_, h.lg, h.sl.stay sF fun _ _ => rfl, RVs.cons (f := []) (.d (.lst upd_same (LvA.sm sF _ _ h3))) (h2.stay sF _ _ _ fun _ _ => rfl), nd.2, fun a m => ?_, fun a u q => ?_⟩
      · rcases upd_mine q with ⟨rfl, rfl⟩ | ⟨_, q⟩
        · exact h1
        · exact h.lf a u q
      · have : a ≠ p := fun z => nd.1 (z ▸ m)
        rw [upd_ne this]
        exact h.off a (by simpa using Or.inr (List.mem_append.mp m))
      · have : a ≠ p := fun z => by rw [z, hp.2] at q; cases q
        rw [upd_ne this]
        exact h.dj a u q
theorem RepA.back {x : PyData} {i : Nat} (h : RepA F G H σ S (v :: vs) (.d x :: xs)) (e : σ[i]? = some (some v)) : RepA F G H σ (S.set i (.d x)) (v :: vs) (.d x :: xs) := by
  have hx := h.dat
  have hl := h.lenS
  obtain ⟨fv, fs, h⟩ := h
  have hi := (List.getElem?_eq_some_iff.mp e).1
  obtain ⟨fs', q1, q2, q3⟩ := h.sl.put (i := i) (v := v) (x := .d x) (f := []) (by omega) (.d hx) (List.nodup_append.mp h.nd).2.1
  have eσ : σ.set i (some v) = σ := by
    refine List.ext_getElem? fun j => ?_
    by_cases z : i = j
    · subst z
      rw [List.getElem?_set_self hi, e]
    · rw [List.getElem?_set_ne z]
  rw [eσ] at q1
  have sub : ∀ a ∈ fs', a ∈ fs := fun a m => q3 a m
  exact ⟨fv, fs', h.lf, h.lg, q1, h.vl, List.nodup_append.mpr ⟨(List.nodup_append.mp h.nd).1, q2, fun a ha b hb => (List.nodup_append.mp h.nd).2.2 a ha b (sub b hb)⟩, fun a m => h.off a ((List.mem_append.mp m).elim (List.mem_append_left _) fun m => List.mem_append_right _ (sub a m)), h.dj⟩
/-! ### walks -/
/-- what a turn gives: data, or a new tuple of data -/
def Yld (F H : Hp) (x : V) (z : PyData) : Prop := Lv F x z ∨ (∃ T vs ds, x = .ref T ∧ H T = some (.tup vs) ∧ LvA F vs ds ∧ z = .tuple ds) ∨ ∃ T U v us d es, x = .ref T ∧ H T = some (.tup [v, .ref U]) ∧ H U = some (.tup us) ∧ Lv F v d ∧ LvA F us es ∧ z = .tuple [d, .tuple es]
theorem Rep.yld {x : V} {z : PyData} (h : Rep F G H σ S) (s0 : Same F0 F) (s : Same H H') (y : Yld F0 H' x z) : ∃ F2, Same F F2 ∧ RepA F2 G H' σ S [x] [.d z] := by
  rcases y with y | ⟨T, vs, ds, rfl, e, l, rfl⟩ | ⟨T, U, v, us, d, es, rfl, e1, e2, l1, l2, rfl⟩
  · exact ⟨F, Same.refl _, Rep.withD (h.same s) (Lv.sm s0 _ _ y)⟩
  · obtain ⟨F2, s2, e2, r2⟩ := h.tup s e
    exact ⟨F2, s2, Rep.withD r2 (.tup e2 (LvA.sm (s0.trans s2) _ _ l))⟩
  · obtain ⟨F2, s2, eU, r2⟩ := h.tup s e2
    obtain ⟨F3, s3, eT, r3⟩ := r2.tup (Same.refl _) e1
    have sa := s0.trans (s2.trans s3)
    exact ⟨F3, s2.trans s3, Rep.withD r3 (.tup eT (.cons (Lv.sm sa _ _ l1) (.cons (.tup (s3 _ _ eU) (LvA.sm sa _ _ l2)) .nil)))⟩
structure WalkX (J : It) (its : List PyData) (F : Hp) : Prop where
  ex : ∃ (P : Hp → Prop) (Y : Nat → Hp → V → Hp → Prop), Walk J its.length P Y ∧ (∀ H, Same F H → P H) ∧ ∀ k H x H', k < its.length → Same F H → Y k H x H' → Same H H' ∧ ∃ z, its[k]? = some z ∧ Yld F H' x z
def rwI (t : TXI) : TI := fun σ H R => ∃ F G S Ip, Rep F G H σ S ∧ t S Ip ∧ ∀ J its S' F' H', Rep F' G H' σ S' → Same F F' → WalkX J its F' → Ip its S' → R J H'
def itemsOf : PV → Option (List PyData)
  | .d (.tuple ds) => some ds
  | .d (.list ds) => some ds
  | .d (.str z) => some ((TL.tl z).map fun c => .str (tx [c]))
  | .l ds => some ds
  | _ => none
def frzX (S : List PV) : PV → List PV
  | .al i => match S.getD i .un with
    | .l ds => S.set i (.d (.list ds))
    | _ => S
  | _ => S
def valI (t : TX) : TXI := fun S Q => t S fun x S1 => ∃ its, itemsOf (look S1 x) = some its ∧ Q its (frzX S1 x)
theorem LvA.nth {F : Hp} : ∀ {ds : List PyData} {ws : List V} {k : Nat} {x : V}, LvA F ws ds → ws[k]? = some x → ∃ d, ds[k]? = some d ∧ Lv F x d := fun h e => LvA.at h e
theorem walkX_list {K : PySem.W.Frag} {p : Addr} {ws : List V} {ds : List PyData} (e : F p = some (.lst ws)) (l : LvA F ws ds) : WalkX (Itl K p) ds F :=
  ⟨fun H => SqL K H p ws, YAt ws, by rw [← l.len]; exact walk_list, fun H s => SqL.of (s _ _ e), fun k H x H' hk s y => by
    obtain ⟨rfl, e⟩ := y
    obtain ⟨d, e1, e2⟩ := LvA.nth l e
    exact ⟨Same.refl _, d, e1, .inl e2⟩⟩
theorem walkX_tup {K : PySem.W.Frag} {p : Addr} {ws : List V} {ds : List PyData} (e : F p = some (.tup ws)) (l : LvA F ws ds) : WalkX (Itt K p) ds F :=
  ⟨fun H => SqT K H p ws, YAt ws, by rw [← l.len]; exact walk_tup, fun H s => SqT.of (s _ _ e), fun k H x H' hk s y => by
    obtain ⟨rfl, e⟩ := y
    obtain ⟨d, e1, e2⟩ := LvA.nth l e
    exact ⟨Same.refl _, d, e1, .inl e2⟩⟩
theorem walkX_str {z : Str} : WalkX (Its z) ((TL.tl z).map fun c => .str (tx [c])) F :=
  ⟨fun _ => True, _, by
    rw [List.length_map, show (TL.tl z).length = z.cps.size from Array.length_toList]
    exact walk_str, fun _ _ => trivial, fun k H x H' hk s y => by
    obtain ⟨rfl, c, e, rfl⟩ := y
    refine ⟨Same.refl _, .str (tx [c]), ?_, .inl (.str _)⟩
    rw [List.getElem?_map, show (TL.tl z)[k]? = some c by show z.cps.toList[k]? = _; rw [Array.getElem?_toList]; exact e]
    rfl⟩
/-- a list, a tuple, a text, by what it turns out to be -/
def iV (K : PySem.W.Frag) (te : TE) : TI := fun σ H R => te σ H fun x H1 =>
  (∃ a ws, x = .ref a ∧ SqL K H1 a ws ∧ R (Itl K a) H1) ∨ (∃ a ws, x = .ref a ∧ SqT K H1 a ws ∧ R (Itt K a) H1) ∨ ∃ z, x = .str z ∧ R (Its z) H1
theorem pi_V {X : Cx} {tg ex : Expr} {te : TE} (he : PE X ex te) : PI X tg ex (iV X.K te) := by
  refine ⟨fun pins s σ H R I h => thn (he.run pins s σ H _ I h) fun u s1 z => ?_⟩
  obtain ⟨x, H1, I1, rx, hq⟩ := z
  rcases hq with ⟨a, ws, rfl, hs, q⟩ | ⟨a, ws, rfl, hs, q⟩ | ⟨z, rfl, q⟩
  · cases rx
    have ⟨its, _, pl, _⟩ := I1.list hs
    exact wpAny_pyIter_list pl.isList (pi_one (tk := s1.toks) I1 _ (turn_list a _) ⟨_, Heap.get?_push_size _ rfl, rfl, rfl⟩ q)
  · cases rx
    have ⟨its, _, pl, _⟩ := I1.tuple hs
    exact wpAny_pyIter_tuple (show s1.heap.IsTuple a its.toArray from pl) (pi_one (tk := s1.toks) I1 _ (turn_tuple a _) ⟨_, Heap.get?_push_size _ rfl, rfl, rfl⟩ q)
  · have ⟨tok, eu⟩ := rx
    subst eu
    cases low : z.cps.all (· < 128) with
    | false => exact wpAny_pyIter_wide low (pi_one (tk := s1.toks) I1 _ (turn_str _ z tok "str_iterator" (.inr rfl)) ⟨_, Heap.get?_push_size _ rfl, rfl, rfl⟩ q)
    | true => exact wpAny_pyIter_ascii low (pi_one (tk := s1.toks) I1 _ (turn_str _ z tok "str_ascii_iterator" (.inl rfl)) ⟨_, Heap.get?_push_size _ rfl, rfl, rfl⟩ q)
theorem xi_val {X : Cx} (K : PySem.W.Frag) (e : X.K = K) {tg ex : Expr} {te : TX} (h : PE X ex (rw te)) : PI X tg ex (rwI (valI te)) := by
  subst e
  refine ⟨fun pins s σ H R I q => (pi_V (tg := tg) h).run pins s σ H R I ?_⟩
  obtain ⟨F, G, S, Ip, hr, ht, k⟩ := q
  refine ⟨F, G, S, _, hr, ht, fun v x S1 F1 H1 r1 s1 h1 => ?_⟩
  obtain ⟨its, ei, h1⟩ := h1
  -- a frozen list in hand
  have lst : ∀ {p : Addr} {ws : List V} {S2 : List PV} {F2 : Hp}, F2 p = some (.lst ws) → LvA F2 ws its → Rep F2 G H1 σ S2 → Same F F2 → Ip its S2 → (∃ a ws, V.ref p = .ref a ∧ SqL X.K H1 a ws ∧ R (Itl X.K a) H1) := fun e l r s q =>
    ⟨_, _, rfl, SqL.of (r.lf _ _ e), k _ _ _ _ _ r s (walkX_list e l) q⟩
  cases x with
  | d x =>
    have hx := r1.dat
    cases x with
    | tuple ds =>
      cases ei
      cases hx with
      | tup e l => exact .inr (.inl ⟨_, _, rfl, SqT.of (r1.lf _ _ e), k _ _ _ _ _ r1.rep s1 (walkX_tup e l) h1⟩)
    | list ds =>
      cases ei
      cases hx with
      | lst e l => exact .inl (lst e l r1.rep s1 h1)
    | str z =>
      cases ei
      cases hx
      exact .inr (.inr ⟨_, rfl, k _ _ _ _ _ r1.rep s1 walkX_str h1⟩)
    | _ => cases ei
  | l ds =>
    cases ei
    obtain ⟨p, ws, rfl, e1, l, sf, r2⟩ := r1.freeze
    exact .inl (lst upd_same (LvA.sm sf _ _ l) r2.rep (s1.trans sf) h1)
  | al i =>
    have ei : itemsOf (S1.getD i .un) = some its := ei
    have h1 : Ip its (match S1.getD i .un with | .l ds => S1.set i (.d (.list ds)) | _ => S1) := h1
    have ev : σ[i]? = some (some v) := by
      obtain ⟨f, r⟩ := r1.hd
      cases r with
      | al e => exact e
    have r2 := r1.moved
    cases es : S1.getD i .un with
    | l ds =>
      rw [es] at ei h1 r2
      cases ei
      obtain ⟨p, ws, rfl, e1, l, sf, r3⟩ := r2.freeze
      have r4 := r3.back ev
      rw [List.set_set] at r4
      exact .inl (lst upd_same (LvA.sm sf _ _ l) r4.rep (s1.trans sf) h1)
    | d x =>
      rw [es] at ei h1 r2
      have hx := r2.dat
      have r3 := r1.rep
      cases x with
      | tuple ds =>
        cases ei
        cases hx with
        | tup e l => exact .inr (.inl ⟨_, _, rfl, SqT.of (r1.lf _ _ e), k _ _ _ _ _ r3 s1 (walkX_tup e l) h1⟩)
      | list ds =>
        cases ei
        cases hx with
        | lst e l => exact .inl (lst e l r3 s1 h1)
      | str z =>
        cases ei
        cases hx
        exact .inr (.inr ⟨_, rfl, k _ _ _ _ _ r3 s1 walkX_str h1⟩)
      | _ => cases ei
    | _ => rw [es] at ei; cases ei
  | _ => cases ei
/-! ### for -/
inductive ForR (g : TXG) (tb : TXS) (D : Dn) (its : List PyData) (S0 : List PV) : Prop
  | mk (J : Nat → List PV → Prop) (h0 : J 0 S0) (hs : ∀ (k : Nat) (x : PyData) (S : List PV), its[k]? = some x → J k S → g (.d x) S fun S1 => tb { D with nx := J (k + 1), ct := J (k + 1), bk := D.nx } S1) (hd : ∀ S, J its.length S → D.nx S)
def forS (ti : TXI) (g : TXG) (tb : TXS) : TXS := fun D S => ti S fun its S0 => ForR g tb D its S0
theorem xs_for {X : Cx} {kp : Nat → Bool} {ti : TXI} {g : TXG} {tb : TXS} {st : Stmt} (h : PS X st (tFor (rwI ti) (rwG kp g) (rwS kp tb))) : PS X st (rwS kp (forS ti g tb)) := PS_imp h fun D σ H q => by
  obtain ⟨F, G, S, Dp, hr, ht, k⟩ := q
  refine ⟨F, G, S, _, hr, ht, fun J its S0 F0 H0 r0 s0 w h0 => ?_⟩
  obtain ⟨Jv, j0, step, done⟩ := h0
  obtain ⟨P, Y, w, hP, hY⟩ := w.ex
  refine for_it w (fun i σ' H' => ∃ F' S', Rep F' G H' σ' S' ∧ Same F0 F' ∧ Kp kp σ σ' ∧ Jv i S') ⟨F0, S0, r0, Same.refl _, Kp.refl .., j0⟩ (fun i σ' H' _ pv => ?_) (fun i x σ' H1 H2 hi pv y => ?_) (fun σ' H' pv => ?_)
  · obtain ⟨F', S', r', s', _, _⟩ := pv
    exact hP _ (s'.trans r'.lf)
  · obtain ⟨F', S', r', s', e', j'⟩ := pv
    obtain ⟨sh, z, ez, yz⟩ := hY i H1 x H2 hi (s'.trans r'.lf) y
    obtain ⟨F2, s2, r2⟩ := r'.yld s' sh yz
    refine ⟨F2, G, S', _, _, r2, step i z S' ez j', fun σ3 S3 F3 H3 r3 s3 e3 q3 => ⟨F3, G, S3, _, r3, q3, ?_, ?_, ?_, ?_⟩⟩
    · exact fun σ4 S4 F4 H4 r4 s4 e4 q4 => ⟨F4, S4, r4, (s'.trans s2).trans (s3.trans s4), (e'.trans e3).trans e4, q4⟩
    · exact k.rt.on ((s0.trans s').trans (s2.trans s3)) (e'.trans e3)
    · exact k.nx.on ((s0.trans s').trans (s2.trans s3)) (e'.trans e3)
    · exact fun σ4 S4 F4 H4 r4 s4 e4 q4 => ⟨F4, S4, r4, (s'.trans s2).trans (s3.trans s4), (e'.trans e3).trans e4, q4⟩
  · obtain ⟨F', S', r', s', e', j'⟩ := pv
    exact k.nx _ _ _ _ r' (s0.trans s') e' (done _ j')
/-- a written list of items, one behind another -/
def unr (g : TXG) (tb : TXS) (D : Dn) : List PyData → List PV → Prop
  | [], S => D.nx S
  | x :: r, S => g (.d x) S fun S1 => tb { D with nx := unr g tb D r, ct := unr g tb D r, bk := D.nx } S1
theorem for_unr {g : TXG} {tb : TXS} {D : Dn} {its : List PyData} {S0 : List PV} (h : unr g tb D its S0) : ForR g tb D its S0 := by
  refine ⟨fun k S => unr g tb D (its.drop k) S, h, fun k x S e q => ?_, fun S q => ?_⟩
  · have ed : its.drop k = x :: its.drop (k + 1) := by
      obtain ⟨hk, e2⟩ := List.getElem?_eq_some_iff.mp e
      rw [List.drop_eq_getElem_cons hk, e2]
    have q : unr g tb D (its.drop k) S := q
    rw [ed] at q
    exact q
  · have q : unr g tb D (its.drop its.length) S := q
    rw [List.drop_length] at q
    exact q
/-! ### while -/
inductive WhR (c : TXT) (tb : TXS) (D : Dn) (S : List PV) : Prop
  | mk (J : Nat → List PV → Prop) (h0 : ∃ m, J m S) (hs : ∀ m S, J m S → c S fun b S1 => pick b (tb { D with nx := fun S' => ∃ m', m' < m ∧ J m' S', ct := fun S' => ∃ m', m' < m ∧ J m' S', bk := D.nx } S1) (D.nx S1))
def whileS (c : TXT) (tb : TXS) : TXS := fun D S => WhR c tb D S
theorem xs_while {X : Cx} {kp : Nat → Bool} {c : TXT} {tb : TXS} {st : Stmt} (h : PS X st (tWhile (rwT c) (rwS kp tb))) : PS X st (rwS kp (whileS c tb)) := PS_imp h fun D σ H q => by
  obtain ⟨F, G, S, Dp, hr, ht, k⟩ := q
  obtain ⟨Jv, ⟨m0, j0⟩, step⟩ := ht
  refine ⟨fun m σ' H' => ∃ F' S', Rep F' G H' σ' S' ∧ Same F F' ∧ Kp kp σ σ' ∧ Jv m S', ⟨m0, F, S, hr, Same.refl _, Kp.refl .., j0⟩, fun m σ' H' pv => ?_⟩
  obtain ⟨F', S', r', s', e', j'⟩ := pv
  refine ⟨F', G, S', _, r', step m S' j', fun b S1 F1 H1 r1 s1 h1 => ?_⟩
  cases b with
  | true =>
    rw [if_pos rfl]
    refine ⟨fun σ4 H4 => ∃ m', m' < m ∧ ∃ F4 S4, Rep F4 G H4 σ4 S4 ∧ Same F F4 ∧ Kp kp σ σ4 ∧ Jv m' S4, fun _ _ z => z, F1, G, S1, _, r1, h1, ?_, ?_, ?_, ?_⟩
    · exact fun σ4 S4 F4 H4 r4 s4 e4 ⟨m', hm, q4⟩ => ⟨m', hm, F4, S4, r4, (s'.trans s1).trans s4, e'.trans e4, q4⟩
    · exact k.rt.on (s'.trans s1) e'
    · exact k.nx.on (s'.trans s1) e'
    · exact fun σ4 S4 F4 H4 r4 s4 e4 ⟨m', hm, q4⟩ => ⟨m', hm, F4, S4, r4, (s'.trans s1).trans s4, e'.trans e4, q4⟩
  | false =>
    rw [if_neg Bool.false_ne_true]
    exact k.nx _ _ _ _ r1 (s'.trans s1) e' h1
end
end Px

namespace Px
open PySem PySem.Spec PyProof.Rows L2 Fo
/-! ### comprehensions -/
def wipeX (S : List PV) : List Nat → List PV
  | [] => S
  | v :: vs => (wipeX S vs).set v .un
section
variable {F F' F0 G G' H H' : Hp} {σ σ' : L2.St} {S : List PV} {v : V} {vs : List V} {xs : List PV}
theorem RSl.unset : ∀ {S : List PV} {r : List (Option V)} {fs : List Addr} (i : Nat), RSl F H r S fs → ∃ fs', RSl F H r (S.set i .un) fs' ∧ fs'.Sublist fs
  | _, _, _, _, .nil => ⟨[], .nil, List.Sublist.refl _⟩
  | _, _, _, 0, .un h => ⟨_, .un h, List.Sublist.refl _⟩
  | _, _, _, 0, .cons h1 h2 => ⟨_, .un h2, List.sublist_append_right ..⟩
  | _, _, _, i + 1, .un h => by
    obtain ⟨fs', q2, q3⟩ := RSl.unset i h
    exact ⟨fs', .un q2, q3⟩
  | _, _, _, i + 1, .cons h1 h2 => by
    obtain ⟨fs', q2, q3⟩ := RSl.unset i h2
    exact ⟨_, .cons h1 q2, q3.append_left _⟩
theorem RSl.wiped {S : List PV} {r : List (Option V)} {fs : List Addr} (h : RSl F H r S fs) : ∀ (ws : List Nat), ∃ fs', RSl F H r (wipeX S ws) fs' ∧ fs'.Sublist fs
  | [] => ⟨fs, h, List.Sublist.refl _⟩
  | w :: ws => by
    obtain ⟨fs', q1, q3⟩ := RSl.wiped h ws
    obtain ⟨f2, p1, p3⟩ := RSl.unset w q1
    exact ⟨f2, p1, p3.trans q3⟩
theorem RSl.agree : ∀ {S : List PV} {r r' : List (Option V)} {fs : List Addr}, RSl F H r S fs → r'.length = r.length → (∀ (i : Nat) (x : PV), S[i]? = some x → x ≠ .un → r'[i]? = r[i]?) → RSl F H r' S fs
  | _, _, r', _, .nil, e, _ => by
    cases r' with
    | nil => exact .nil
    | cons _ _ => cases e
  | _, _, r', _, .un h, e, k => by
    cases r' with
    | nil => cases e
    | cons o r' => exact .un (RSl.agree h (Nat.succ.inj e) fun i x ex n => by simpa using k (i + 1) x (by simpa using ex) n)
  | _, _, r', _, .cons (x := x) h1 h2, e, k => by
    cases r' with
    | nil => cases e
    | cons o r' =>
      have tail := RSl.agree h2 (Nat.succ.inj e) fun i x ex n => by simpa using k (i + 1) x (by simpa using ex) n
      by_cases n : x = .un
      · subst n
        have nf : ∀ {f : List Addr} {v : V}, RV [] F H v .un f → f = [] := fun r => by cases r; rfl
        cases nf h1
        exact .un tail
      · have := k 0 x rfl n
        have e0 := Option.some.inj this
        subst e0
        exact .cons h1 tail
theorem wipe_get (σ : L2.St) (j : Nat) : ∀ ws : List Nat, (wipe σ ws)[j]? = if j ∈ ws then (if j < σ.length then some none else none) else σ[j]?
  | [] => by simp [wipe]
  | w :: ws => by
    unfold wipe
    by_cases e : w = j
    · subst e
      rw [if_pos (List.mem_cons_self ..)]
      by_cases hl : w < σ.length
      · rw [if_pos hl, List.getElem?_set_self (by rw [wipe_length]; exact hl)]
      · rw [if_neg hl, List.getElem?_eq_none (by rw [List.length_set, wipe_length]; omega)]
    · rw [List.getElem?_set_ne e, wipe_get σ j ws]
      have : (j ∈ w :: ws) ↔ j ∈ ws := by
        rw [List.mem_cons]
        exact ⟨fun h => h.elim (fun z => absurd z.symm e) id, .inr⟩
      simp only [this]
theorem wipeX_un (S : List PV) (j : Nat) : ∀ ws : List Nat, j ∈ ws → ∀ x, (wipeX S ws)[j]? = some x → x = .un
  | [], h, _, _ => nomatch h
  | w :: ws, h, x, e => by
    unfold wipeX at e
    by_cases z : w = j
    · subst z
      have hl := (List.getElem?_eq_some_iff.mp e).1
      rw [List.length_set] at hl
      rw [List.getElem?_set_self hl] at e
      exact (Option.some.inj e).symm
    · rw [List.getElem?_set_ne z] at e
      exact wipeX_un S j ws ((List.mem_cons.mp h).resolve_left (Ne.symm z)) x e
theorem wipeX_get (S : List PV) (j : Nat) : ∀ ws : List Nat, (wipeX S ws)[j]? = if j ∈ ws then (if j < S.length then some .un else none) else S[j]?
  | [] => by simp [wipeX]
  | w :: ws => by
    have hl : ∀ us : List Nat, (wipeX S us).length = S.length := fun us => by
      induction us with
      | nil => rfl
      | cons u us ih => unfold wipeX; rw [List.length_set, ih]
    unfold wipeX
    by_cases e : w = j
    · subst e
      rw [if_pos (List.mem_cons_self ..)]
      by_cases h : w < S.length
      · rw [if_pos h, List.getElem?_set_self (by rw [hl]; exact h)]
      · rw [if_neg h, List.getElem?_eq_none (by rw [List.length_set, hl]; omega)]
    · rw [List.getElem?_set_ne e, wipeX_get S j ws]
      have : (j ∈ w :: ws) ↔ j ∈ ws := by
        rw [List.mem_cons]
        exact ⟨fun h => h.elim (fun z => absurd z.symm e) id, .inr⟩
      simp only [this]
theorem wipeX_len (S : List PV) : ∀ us : List Nat, (wipeX S us).length = S.length
  | [] => rfl
  | u :: us => by unfold wipeX; rw [List.length_set, wipeX_len S us]
theorem wipeX_twice (S : List PV) (ws : List Nat) : wipeX (wipeX S ws) ws = wipeX S ws := by
  refine List.ext_getElem? fun j => ?_
  rw [wipeX_get, wipeX_len, wipeX_get]
  by_cases m : j ∈ ws
  · rw [if_pos m, if_pos m]
  · rw [if_neg m, if_neg m]
theorem LvA.snoc {F : Hp} : ∀ {ds : List PyData} {us : List V} {d : PyData} {u : V}, LvA F us ds → Lv F u d → LvA F (us ++ [u]) (ds ++ [d])
  | [], _, _, _, h, k => by cases h; exact .cons k .nil
  | _ :: _, _, _, _, h, k => by
    cases h with
    | cons h1 h2 => exact .cons h1 (LvA.snoc h2 k)
theorem RepA.wipedIn (h : Rep F G H σ S) (ws : List Nat) : Rep F G H (wipe σ ws) (wipeX S ws) ∧ Rep F G H σ (wipeX S ws) := by
  obtain ⟨fv, fs, h⟩ := h
  cases h.vl
  obtain ⟨fs', q1, q2⟩ := h.sl.wiped ws
  have nd : fs'.Nodup := q2.nodup h.nd
  have off : ∀ a ∈ fs', F a = none ∧ G a = none := fun a m => h.off a (q2.subset m)
  refine ⟨⟨[], fs', h.lf, h.lg, q1.agree (wipe_length ..) fun i x ex n => ?_, .nil, nd, off, h.dj⟩, ⟨[], fs', h.lf, h.lg, q1, .nil, nd, off, h.dj⟩⟩
  rw [wipe_get]
  by_cases m : i ∈ ws
  · exact absurd (wipeX_un S i ws m x ex) n
  · rw [if_neg m]
/-- back from a block -/
theorem RepA.wipedOut {σ2 : L2.St} (h : Rep F G H σ2 S) (ws : List Nat) (e : wipe σ2 ws = wipe σ ws) (el : σ2.length = σ.length) : Rep F G H σ (wipeX S ws) := by
  obtain ⟨fv, fs, h⟩ := h
  cases h.vl
  obtain ⟨fs', q1, q2⟩ := h.sl.wiped ws
  refine ⟨[], fs', h.lf, h.lg, q1.agree el.symm fun i x ex n => ?_, .nil, q2.nodup h.nd, fun a m => h.off a (q2.subset m), h.dj⟩
  have z := congrArg (fun τ : L2.St => τ[i]?) e
  simp only [wipe_get] at z
  by_cases m : i ∈ ws
  · exact absurd (wipeX_un S i ws m x ex) n
  · rw [if_neg m, if_neg m] at z
    exact z.symm
theorem Kp.wiped {σ2 : L2.St} {ws : List Nat} {kp : Nat → Bool} (hk : ∀ j, j ∉ ws → kp j = true) (h : Kp kp (wipe σ ws) σ2) : wipe σ2 ws = wipe σ ws := by
  refine List.ext_getElem? fun j => ?_
  rw [wipe_get, wipe_get]
  have el : σ2.length = σ.length := h.1.trans (wipe_length ..)
  by_cases m : j ∈ ws
  · rw [if_pos m, if_pos m, el]
  · rw [if_neg m, if_neg m]
    have := h.2 j (hk j m)
    rw [wipe_get, if_neg m] at this
    exact this
/-! the new list stands aside -/
theorem RepA.guard {D : Addr} {acc : List V} (h : Rep F G H σ S) (hD : H D = none) : Rep F (upd G D (.lst acc)) (upd H D (.lst acc)) σ S := by
  have h' := h.same (H' := upd H D (.lst acc)) (same_new hD)
  obtain ⟨fv, fs, h0⟩ := h
  obtain ⟨fv', fs', h1⟩ := h'
  cases h0.vl
  cases h1.vl
  have nF : F D = none := by
    cases q : F D with
    | none => rfl
    | some u => rw [h0.lf D u q] at hD; cases hD
  have ne : ∀ a ∈ fs', a ≠ D ∨ True := fun _ _ => .inr trivial
  refine ⟨[], fs, h1.lf, fun a o e => ?_, h0.sl.stay (fun _ _ q => q) fun a m => ?_, .nil, h0.nd, fun a m => ?_, fun a o e => ?_⟩
  · rcases upd_mine e with ⟨rfl, rfl⟩ | ⟨_, e⟩
    · exact upd_same
    · exact h1.lg a o e
  · obtain ⟨o, e, _⟩ := h0.sl.has a m
    rw [upd_ne (ne_of_none e hD)]
  · obtain ⟨o, e, _⟩ := h0.sl.has a m
    rw [upd_ne (ne_of_none e hD)]
    exact h0.off a m
  · rcases upd_mine e with ⟨rfl, rfl⟩ | ⟨_, e⟩
    · exact ⟨nF, fun _ z => nomatch z⟩
    · exact h0.dj a o e
theorem RepA.reguard {D : Addr} {acc acc' : List V} (h : Rep F (upd G D (.lst acc)) H σ S) : Rep F (upd G D (.lst acc')) (upd H D (.lst acc')) σ S := by
  obtain ⟨fv, fs, h0⟩ := h
  cases h0.vl
  have hF : F D = none := (h0.dj D _ upd_same).1
  have hn : ∀ a ∈ fs, a ≠ D := fun a m z => by
    have := (h0.off a m).2
    rw [z, upd_same] at this
    cases this
  refine ⟨[], fs, fun a o e => ?_, fun a o e => ?_, h0.sl.stay (fun _ _ q => q) fun a m => by rw [upd_ne (hn a m)], .nil, h0.nd, fun a m => ?_, fun a o e => ?_⟩
  · rw [upd_ne (fun z => by rw [z, hF] at e; cases e)]
    exact h0.lf a o e
  · rcases upd_mine e with ⟨rfl, rfl⟩ | ⟨n, e⟩
    · exact upd_same
    · rw [upd_ne n]
      exact h0.lg a o (by rw [upd_ne n]; exact e)
  · have z := h0.off a m
    rw [upd_ne (hn a m)] at z ⊢
    exact z
  · rcases upd_mine e with ⟨rfl, rfl⟩ | ⟨n, e⟩
    · exact ⟨hF, fun _ z => nomatch z⟩
    · exact h0.dj a o (by rw [upd_ne n]; exact e)
theorem RepA.unguard {D : Addr} {acc : List V} {ds : List PyData} (h : Rep F (upd G D (.lst acc)) H σ S) (hG : G D = none) (l : LvA F acc ds) : RepA F G H σ S [.ref D] [.l ds] := by
  obtain ⟨fv, fs, h0⟩ := h
  cases h0.vl
  have hn : ∀ a ∈ fs, a ≠ D := fun a m z => by
    have := (h0.off a m).2
    rw [z, upd_same] at this
    cases this
  have gne : ∀ a o, G a = some o → a ≠ D := fun a o e z => by rw [z, hG] at e; cases e
  refine ⟨[D], fs, h0.lf, fun a o e => h0.lg a o (by rw [upd_ne (gne a o e)]; exact e), h0.sl, RVs.cons (f := [D]) (.l (h0.lg _ _ upd_same) l) .nil, List.nodup_cons.mpr ⟨fun m => hn D m rfl, h0.nd⟩, fun a m => ?_, fun a o e => h0.dj a o (by rw [upd_ne (gne a o e)]; exact e)⟩
  rcases List.mem_cons.mp m with rfl | m
  · exact ⟨(h0.dj a _ upd_same).1, hG⟩
  · have z := h0.off a m
    rw [upd_ne (hn a m)] at z
    exact z
end
def yesT : TXT := fun S Q => Q true S
inductive LcR (g : TXG) (tt : TXT) (te : TX) (ws : List Nat) (Q : KP) (its : List PyData) (S0 : List PV) : Prop
  | mk (few : its.length < 16777216) (J : Nat → List PyData → List PV → Prop) (h0 : J 0 [] (wipeX S0 ws))
    (hs : ∀ (k : Nat) (x : PyData) (acc : List PyData) (S : List PV), its[k]? = some x → acc.length ≤ k → J k acc S → g (.d x) S fun S2 => tt S2 fun b S3 => pick b (te S3 fun y S4 => ∃ z, y = .d z ∧ force (wipeX S4 ws) (J (k + 1) (acc ++ [z]))) (force (wipeX S3 ws) (J (k + 1) acc)))
    (hd : ∀ acc S, acc.length ≤ its.length → J its.length acc S → Q (.l acc) S)
def lcX (ti : TXI) (g : TXG) (tt : TXT) (te : TX) (ws : List Nat) : TX := fun S Q => ti S fun its S0 => LcR g tt te ws Q its S0
/-- over written items, one behind another -/
def lcu (g : TXG) (tt : TXT) (te : TX) (ws : List Nat) (Q : KP) : List PyData → List PyData → List PV → Prop
  | [], acc, S => Q (.l acc) S
  | x :: r, acc, S => g (.d x) S fun S2 => tt S2 fun b S3 => pick b (te S3 fun y S4 => ∃ z, y = .d z ∧ force (wipeX S4 ws) (lcu g tt te ws Q r (acc ++ [z]))) (force (wipeX S3 ws) (lcu g tt te ws Q r acc))
theorem lc_unr {g : TXG} {tt : TXT} {te : TX} {ws : List Nat} {Q : KP} {its : List PyData} {S0 : List PV} (few : its.length < 16777216) (h : lcu g tt te ws Q its [] (wipeX S0 ws)) : LcR g tt te ws Q its S0 := by
  refine ⟨few, fun k acc S => lcu g tt te ws Q (its.drop k) acc S, h, fun k x acc S e hl q => ?_, fun acc S hl q => ?_⟩
  · have ed : its.drop k = x :: its.drop (k + 1) := by
      obtain ⟨hk, e2⟩ := List.getElem?_eq_some_iff.mp e
      rw [List.drop_eq_getElem_cons hk, e2]
    have q : lcu g tt te ws Q (its.drop k) acc S := q
    rw [ed] at q
    exact q
  · have q : lcu g tt te ws Q (its.drop its.length) acc S := q
    rw [List.drop_length] at q
    exact q
/-- each item is turned into one thing, nothing else happens -/
theorem lc_map {g : TXG} {te : TX} {ws : List Nat} {Q : KP} {its : List PyData} {S0 : List PV} (f : PyData → PyData) (few : its.length < 16777216)
    (hs : ∀ x ∈ its, ∀ R : KP, (∀ S4, wipeX S4 ws = wipeX S0 ws → R (.d (f x)) S4) → g (.d x) (wipeX S0 ws) fun S2 => te S2 R) (hd : Q (.l (its.map f)) (wipeX S0 ws)) : LcR g yesT te ws Q its S0 := by
  refine ⟨few, fun k acc S => S = wipeX S0 ws ∧ acc = (its.take k).map f, ⟨rfl, rfl⟩, fun k x acc S e hl q => ?_, fun acc S hl q => ?_⟩
  · obtain ⟨rfl, rfl⟩ := q
    exact hs x (List.mem_of_getElem? e) (fun y S4 => ∃ z, y = .d z ∧ force (wipeX S4 ws) fun S => S = wipeX S0 ws ∧ (its.take k).map f ++ [z] = (its.take (k + 1)).map f) fun S4 e4 => ⟨_, rfl, doforce ⟨e4, by
      rw [take_snoc e, List.map_append]
      rfl⟩⟩
  · obtain ⟨rfl, rfl⟩ := q
    rw [List.take_length]
    exact hd
theorem yes_sim {σ : L2.St} {H : Hp} {Q : Bool → Hp → Prop} (q : rwT yesT σ H Q) : tYes σ H Q := by
  obtain ⟨F, G, S, Qp, hr, ht, k⟩ := q
  exact k _ _ _ _ hr (Same.refl _) ht
/-- the slots beside these are kept -/
def kpOf (ws : List Nat) : Nat → Bool := fun j => !ws.contains j
theorem lc_sim {ti : TXI} {g : TXG} {tt : TXT} {te : TX} {ws : List Nat} {rt : TT} (hrt : ∀ σ H Q, rwT tt σ H Q → rt σ H Q) {σ : L2.St} {H : Hp} {Q : VK} (q : rw (lcX ti g tt te ws) σ H Q) : tLc (rwI ti) (rwG (kpOf ws) g) rt (rw te) ws σ H Q := by
  obtain ⟨F, G, S, Qp, hr, ht, k⟩ := q
  refine ⟨F, G, S, _, hr, ht, fun J its S0 F0 H0 r0 s0 w h0 => ?_⟩
  intro D hD
  obtain ⟨few, Jv, j0, step, done⟩ := h0
  obtain ⟨P, Y, w, hP, hY⟩ := w.ex
  have hG : G D = none := by
    obtain ⟨_, _, r⟩ := r0
    cases q : G D with
    | none => rfl
    | some u => rw [r.lg D u q] at hD; cases hD
  have rg := (RepA.guard (acc := []) r0 hD).wipedIn ws
  refine lc_it w (fun i H' => ∃ F' S' acc ds, Rep F' (upd G D (.lst acc)) H' σ S' ∧ Same F0 F' ∧ LvA F' acc ds ∧ ds.length ≤ i ∧ Jv i ds S' ∧ wipeX S' ws = S') ⟨F0, wipeX S0 ws, [], [], rg.2, Same.refl _, .nil, Nat.le_refl _, j0, ?_⟩ (fun i H' _ pv => ?_) (fun i x H1 H2 hi pv y => ?_) (fun H' pv => ?_)
  · exact wipeX_twice ..
  · obtain ⟨F', S', acc, ds, r', s', _⟩ := pv
    exact hP _ (s'.trans r'.lf)
  · obtain ⟨F', S', acc, ds, r', s', l', dl, j', ew⟩ := pv
    obtain ⟨sh, z, ez, yz⟩ := hY i H1 x H2 hi (s'.trans r'.lf) y
    obtain ⟨F2, s2, r2⟩ := r'.yld s' sh yz
    have r3 : RepA F2 (upd G D (.lst acc)) H2 (wipe σ ws) S' [x] [.d z] := by
      have := (r2.rep.wipedIn ws).1
      rw [ew] at this
      exact this.withD r2.dat
    refine ⟨F2, _, S', _, _, r3, step i z ds S' ez dl j', fun σ3 S3 F3 H3 q3 s3 e3 h3 => ?_⟩
    have ew3 := Kp.wiped (fun j hj => by simp [kpOf, hj]) e3
    have el3 : σ3.length = σ.length := e3.1.trans (wipe_length ..)
    refine ⟨ew3, hrt _ _ _ ⟨F3, _, S3, _, q3, h3, fun b S4 F4 H4 q4 s4 h4 => ?_⟩⟩
    cases b with
    | true =>
      rw [if_pos rfl]
      refine ⟨F4, _, S4, _, q4, h4, fun u r S5 F5 H5 q5 s5 h5 => ?_⟩
      obtain ⟨d, rfl, h5⟩ := h5
      have h5 := unforce h5
      have hl := q5.rep
      have eD : H5 D = some (.lst acc) := by
        obtain ⟨_, _, r⟩ := q5
        exact r.lg _ _ upd_same
      have sF := (s2.trans s3).trans (s4.trans s5)
      have la : LvA F5 (acc ++ [u]) (ds ++ [d]) := by
        exact LvA.snoc (LvA.sm sF _ _ l') q5.dat
      refine ⟨acc, eD, by rw [l'.len, sizeLine_eq]; have := hi; omega, F5, wipeX S5 ws, acc ++ [u], ds ++ [d], (hl.reguard).wipedOut ws ew3 el3, s'.trans sF, la, by rw [List.length_append]; exact Nat.succ_le_succ dl, h5, wipeX_twice ..⟩
    | false =>
      rw [if_neg Bool.false_ne_true]
      have sF := s2.trans (s3.trans s4)
      have h4 := unforce h4
      refine ⟨F4, wipeX S4 ws, acc, ds, q4.wipedOut ws ew3 el3, s'.trans sF, LvA.sm sF _ _ l', Nat.le_succ_of_le dl, h4, wipeX_twice ..⟩
  · obtain ⟨F', S', acc, ds, r', s', l', dl, j', _⟩ := pv
    exact k _ _ _ _ _ (r'.unguard hG l') (s0.trans s') (done _ _ dl j')
end Px

namespace Px
open PySem PySem.Spec PyProof.Rows L2 Fo
/-! ### defs and their calls -/
/-- what a def promises: its arguments, what is wanted of its answer and of the own things handed in -/
abbrev Ct := List PV → KP → Prop
def spP (c : Ct) : Sp := fun vs H Q _ => ∃ F G as Qc, RepA F G H [] [] vs as ∧ c as Qc ∧ ∀ v r as' F' H', RepA F' G H' [] [] (v :: vs) (r :: as') → Same F F' → Qc r as' → Q v H'
def takeX : List PV → List PV → List PV × List PV
  | S, [] => ([], S)
  | S, x :: xs => ((finX S x).1 :: (takeX (finX S x).2 xs).1, (takeX (finX S x).2 xs).2)
def giveX : List PV → List PV → List PV → List PV
  | S, .al i :: xs, a :: as => giveX (S.set i a) xs as
  | S, _ :: xs, _ :: as => giveX S xs as
  | S, _, _ => S
def callF (c : Ct) (dxs : List PV) (t : TXA) : TX := fun S Q => t S fun xs S1 => c ((takeX S1 xs).1 ++ dxs) fun r as' => force (giveX (takeX S1 xs).2 xs as') (Q r)
section
variable {F F' F0 G G' H H' : Hp} {σ σ' : L2.St} {S : List PV} {v : V} {vs us : List V} {xs ys : List PV} {x : PV}
theorem RepA.fin1 (h : RepA F G H σ S (v :: vs) (x :: xs)) : RepA F G H σ (finX S x).2 (v :: vs) ((finX S x).1 :: xs) := by
  cases x with
  | al j => exact h.moved
  | _ => exact h
theorem RepA.finNo (h : RepA F G H σ S vs xs) (x : PV) : ∀ i, (finX S x).1 ≠ .al i := by
  intro i
  cases x with
  | al j => exact h.slotNoal j i
  | _ => exact fun z => nomatch z
theorem RepA.takeAll : ∀ {xs : List PV} {vs dv : List V} {done S : List PV}, vs.length = xs.length → RepA F G H σ S (vs ++ dv) (xs ++ done) → (∀ y ∈ done, ∀ i, y ≠ .al i) →
    RepA F G H σ (takeX S xs).2 (dv ++ vs) (done ++ (takeX S xs).1) ∧ ∀ y ∈ done ++ (takeX S xs).1, ∀ i, y ≠ .al i
  | [], [], dv, done, S, _, h, n => by
    rw [List.append_nil]
    have e0 : (takeX S []).1 = [] := rfl
    rw [e0, List.append_nil]
    exact ⟨h, n⟩
  | [], _ :: _, _, _, _, e, _, _ => nomatch e
  | _ :: _, [], _, _, _, e, _, _ => nomatch e
  | x :: xs, v :: vs, dv, done, S, e, h, n => by
    have hf := h.finNo x
    have h1 := RepA.turn (vs := [v]) (xs := [(finX S x).1]) (us := vs ++ dv) (ys := xs ++ done) h.fin1 rfl
    rw [List.append_assoc, List.append_assoc] at h1
    have := RepA.takeAll (Nat.succ.inj e) h1 fun y m i => (List.mem_append.mp m).elim (fun m => n y m i) fun m => by rw [List.mem_singleton.mp m]; exact hf i
    rw [List.append_assoc, List.append_assoc] at this
    exact this
theorem giveL : ∀ {xs as : List PV} {vs : List V} {S : List PV} {fs fa : List Addr}, RSl F H σ S fs → RVs [] F H vs as fa → (fa ++ fs).Nodup → vs.length = xs.length → (∀ k i : Nat, xs[k]? = some (PV.al i) → ∃ u, vs[k]? = some u ∧ σ[i]? = some (some u)) →
    ∃ fs', RSl F H σ (giveX S xs as) fs' ∧ fs'.Nodup ∧ ∀ a ∈ fs', a ∈ fa ++ fs
  | [], _, _, S, fs, fa, h, _, n, _, _ => by
    refine ⟨fs, ?_, (List.nodup_append.mp n).2.1, fun a m => List.mem_append_right _ m⟩
    unfold giveX
    exact h
  | x :: xs, [], vs, S, fs, fa, h, r, n, e, _ => by
    cases r
    cases e
  | x :: xs, a :: as, vs, S, fs, fa, h, r, n, e, k => by
    cases r with
    | cons r1 r2 =>
      rename_i u vs f1 f2
      have nd := n
      rw [List.append_assoc] at nd
      have n1 := List.nodup_append.mp nd
      have k' : ∀ j i : Nat, xs[j]? = some (PV.al i) → ∃ u, vs[j]? = some u ∧ σ[i]? = some (some u) := fun j i z => by simpa using k (j + 1) i (by simpa using z)
      have skip : ∃ fs', RSl F H σ (giveX S xs as) fs' ∧ fs'.Nodup ∧ ∀ b ∈ fs', b ∈ (f1 ++ f2) ++ fs := by
        obtain ⟨fs', q1, q2, q3⟩ := giveL h r2 n1.2.1 (Nat.succ.inj e) k'
        exact ⟨fs', q1, q2, fun b m => by rw [List.append_assoc]; exact List.mem_append_right _ (q3 b m)⟩
      cases x with
      | al i =>
        obtain ⟨u', e1, e2⟩ := k 0 i rfl
        cases e1
        have hi := (List.getElem?_eq_some_iff.mp e2).1
        have el := h.len
        have nf : (f1 ++ fs).Nodup := List.nodup_append.mpr ⟨n1.1, (List.nodup_append.mp n1.2.1).2.1, fun a ha b hb => n1.2.2 a ha b (List.mem_append_right _ hb)⟩
        obtain ⟨fs1, q1, q2, q3⟩ := h.put (i := i) (by omega) r1 nf
        have eσ : σ.set i (some u) = σ := by
          refine List.ext_getElem? fun j => ?_
          by_cases z : i = j
          · subst z
            rw [List.getElem?_set_self hi, e2]
          · rw [List.getElem?_set_ne z]
        rw [eσ] at q1
        obtain ⟨fs', p1, p2, p3⟩ := giveL q1 r2 (List.nodup_append.mpr ⟨(List.nodup_append.mp n1.2.1).1, q2, fun b hb c hc z => by
          subst z
          rcases List.mem_append.mp (q3 b hc) with m | m
          · exact n1.2.2 b m b (List.mem_append_left _ hb) rfl
          · exact (List.nodup_append.mp n1.2.1).2.2 b hb b m rfl⟩) (Nat.succ.inj e) k'
        refine ⟨fs', p1, p2, fun b m => ?_⟩
        rcases List.mem_append.mp (p3 b m) with m | m
        · exact List.mem_append_left _ (List.mem_append_right _ m)
        · rcases List.mem_append.mp (q3 b m) with m | m
          · exact List.mem_append_left _ (List.mem_append_left _ m)
          · exact List.mem_append_right _ m
      | _ => exact skip
/-- the callee's state out of the caller's, and back -/
theorem RepA.callee (h : RepA F G H σ S vs xs) : ∃ G1, RepA F G1 H [] [] vs (takeX S xs).1 ∧ ∀ F' H' u r as', RepA F' G1 H' [] [] (u :: vs) (r :: as') → Same F F' → RepA F' G H' σ (giveX (takeX S xs).2 xs as') [u] [r] := by
  have hl : vs.length = xs.length := by obtain ⟨_, _, h⟩ := h; exact h.vl.len
  have al : ∀ k i : Nat, xs[k]? = some (PV.al i) → ∃ u, vs[k]? = some u ∧ σ[i]? = some (some u) := fun k i e => by
    obtain ⟨u, f, e1, r, _⟩ := h.at e
    cases r with
    | al z => exact ⟨u, e1, z⟩
  have ht := RepA.takeAll (dv := []) (done := []) hl (by rw [List.append_nil, List.append_nil]; exact h) (fun _ m => nomatch m)
  rw [List.nil_append, List.nil_append] at ht
  obtain ⟨ht, na⟩ := ht
  generalize (takeX S xs).1 = as at ht na
  generalize (takeX S xs).2 = S2 at ht
  obtain ⟨fv, fs, ht⟩ := ht
  have nd := List.nodup_append.mp ht.nd
  have offs : ∀ a ∈ fs, F a = none ∧ G a = none := fun a m => ht.off a (List.mem_append_right _ m)
  have sg : Same G (lock G H fs) := fun a o e => by
    have nm : a ∉ fs := fun m => by
      rw [(offs a m).2] at e
      cases e
    rw [lock_out nm]
    exact e
  refine ⟨lock G H fs, ⟨fv, [], ht.lf, fun a o e => ?_, .nil, ht.vl.others na, by rw [List.append_nil]; exact nd.1, fun a m => ?_, fun a o e => ?_⟩, fun F' H' u r as' k sf => ?_⟩
  · by_cases m : a ∈ fs
    · rw [lock_in m] at e; exact e
    · rw [lock_out m] at e; exact ht.lg a o e
  · rw [List.append_nil] at m
    refine ⟨(ht.off a (List.mem_append_left _ m)).1, ?_⟩
    rw [lock_out fun z => nd.2.2 a m a z rfl]
    exact (ht.off a (List.mem_append_left _ m)).2
  · by_cases m : a ∈ fs
    · refine ⟨(offs a m).1, ?_⟩
      rw [lock_in m] at e
      obtain ⟨o', e', n⟩ := ht.sl.has a m
      rw [e] at e'
      cases e'
      exact n
    · rw [lock_out m] at e; exact ht.dj a o e
  · obtain ⟨f, f0, k⟩ := k
    cases k.sl
    have knd := k.nd
    have koff := k.off
    rw [List.append_nil] at knd koff
    cases hv : k.vl with
    | cons k1 k2 =>
      rename_i fr fa
      have keepH : ∀ a ∈ fs, H' a = H a := fun a m => by
        obtain ⟨o, e, _⟩ := ht.sl.has a m
        rw [e]
        exact k.lg a o (by rw [lock_in m]; exact e)
      have apart : ∀ a ∈ fr ++ fa, a ∉ fs := fun a m z => by
        obtain ⟨o, e, _⟩ := ht.sl.has a z
        have := (koff a m).2
        rw [lock_in z, e] at this
        cases this
      have sl' := ht.sl.stay sf keepH
      have n2 := List.nodup_append.mp knd
      obtain ⟨fs', q1, q2, q3⟩ := giveL (xs := xs) sl' k2 (List.nodup_append.mpr ⟨n2.2.1, nd.2.1, fun a ha b hb z => apart a (List.mem_append_right _ ha) (z ▸ hb)⟩) hl al
      refine ⟨fr ++ [], fs', k.lf, fun a o e => k.lg a o (sg a o e), q1, RVs.cons k1.any .nil, ?_, fun a m => ?_, fun a o e => k.dj a o (sg a o e)⟩
      · rw [List.append_nil]
        refine List.nodup_append.mpr ⟨n2.1, q2, fun a ha b hb z => ?_⟩
        subst z
        rcases List.mem_append.mp (q3 a hb) with m | m
        · exact n2.2.2 a ha a m rfl
        · exact apart a (List.mem_append_left _ ha) m
      · have back : ∀ a, a ∈ fr ++ fa → F' a = none ∧ G a = none := fun a m => ⟨(koff a m).1, by
          have z := (koff a m).2
          rwa [lock_out (apart a m)] at z⟩
        rw [List.append_nil] at m
        rcases List.mem_append.mp m with m | m
        · exact back a (List.mem_append_left _ m)
        · rcases List.mem_append.mp (q3 a m) with m | m
          · exact back a (List.mem_append_right _ m)
          · refine ⟨?_, (offs a m).2⟩
            obtain ⟨o, e, _⟩ := ht.sl.has a m
            exact (k.dj a o (by rw [lock_in m]; exact e)).1
end
inductive CvA : List V → List PV → Prop
  | nil : CvA [] []
  | cons {v : V} {x : PyData} {vs : List V} {xs : List PV} : Cv v x → CvA vs xs → CvA (v :: vs) (.d x :: xs)
theorem RepA.withAll {F G H : Hp} {σ : L2.St} {S : List PV} : ∀ {dv : List V} {dx : List PV} {vs : List V} {xs : List PV}, CvA dv dx → RepA F G H σ S vs xs → RepA F G H σ S (vs ++ dv) (xs ++ dx) := by
  intro dv dx vs xs c h
  obtain ⟨fv, fs, h⟩ := h
  have hc : ∀ {dv : List V} {dx : List PV}, CvA dv dx → RVs σ F H dv dx [] := fun c => by
    induction c with
    | nil => exact .nil
    | cons c _ ih => exact RVs.cons (f := []) (.d c.lv) ih
  refine ⟨fv ++ [], fs, h.lf, h.lg, h.sl, h.vl.app (hc c), ?_, ?_, h.dj⟩ <;> rw [List.append_nil]
  · exact h.nd
  · exact h.off
theorem giveX_take : ∀ (xs as S : List PV), giveX S xs as = giveX S xs (as.take xs.length)
  | [], as, S => by cases as <;> rfl
  | x :: xs, [], S => by cases x <;> rfl
  | x :: xs, a :: as, S => by
    show _ = giveX S (x :: xs) (a :: as.take xs.length)
    cases x <;> exact giveX_take xs as _
theorem callF_sim {c : Ct} {dv : List V} {dx : List PV} {ta : TXA} {E : XK} (cd : CvA dv dx) {σ : L2.St} {H : Hp} {Q : VK} (q : rw (callF c dx ta) σ H Q) : tCall (spP c) dv E (rwA ta) σ H Q := by
  obtain ⟨F, G, S, Qp, hr, ht, k⟩ := q
  refine ⟨F, G, S, _, hr, ht, fun vs xs S1 F1 H1 r1 s1 h1 => ?_⟩
  obtain ⟨G1, rc, back⟩ := r1.callee
  refine ⟨F1, G1, _, _, rc.withAll cd, h1, fun v r as' F' H' r2 s2 q2 => ?_⟩
  have ll : as'.length = vs.length + dv.length := by
    obtain ⟨_, _, r⟩ := r2
    have := r.vl.len
    simp only [List.length_cons, List.length_append] at this
    omega
  have lv : vs.length = xs.length := by obtain ⟨_, _, r⟩ := r1; exact r.vl.len
  rw [← List.take_append_drop vs.length as'] at r2
  have r3 := RepA.turn (vs := v :: vs) (us := dv) (xs := r :: as'.take vs.length) (ys := as'.drop vs.length) r2 (by simp only [List.length_cons, List.length_take]; omega)
  have r4 := r3.drop (by rw [List.length_drop]; omega)
  have q2 : Qp r (giveX (takeX S1 xs).2 xs as') := unforce q2
  rw [giveX_take, ← lv] at q2
  exact k _ _ _ _ _ (back _ _ _ _ _ r4 s2) (s1.trans s2) q2
/-! ### a def's body -/
def backL : List Bool → List PV → List PV
  | true :: m, x :: S => x :: backL m S
  | false :: m, _ :: S => .un :: backL m S
  | _, _ => []
def kpM (m : List Bool) : Nat → Bool := fun i => m.getD i false
theorem backL_sim {F H : Hp} : ∀ {m : List Bool} {S : List PV} {σ : List (Option V)} {vs : List V} {fs : List Addr}, RSl F H σ S fs → vs.length = m.length → m.length ≤ S.length → (∀ i : Nat, m[i]? = some true → ∃ v, vs[i]? = some v ∧ σ[i]? = some (some v)) →
    ∃ f, RVs [] F H vs (backL m S) f ∧ f.Sublist fs
  | [], S, σ, vs, fs, _, e, _, _ => by
    cases vs with
    | nil => exact ⟨[], .nil, List.nil_sublist _⟩
    | cons _ _ => cases e
  | b :: m, [], σ, vs, fs, _, _, e, _ => absurd e (Nat.not_succ_le_zero _)
  | b :: m, x :: S, σ, [], fs, _, e, _, _ => nomatch e
  | b :: m, x :: S, σ, v :: vs, fs, h, e, l, k => by
    have k' : ∀ {τ : List (Option V)} {o : Option V}, σ = o :: τ → ∀ i : Nat, m[i]? = some true → ∃ v, vs[i]? = some v ∧ τ[i]? = some (some v) := fun {τ o} eq i z => by
      obtain ⟨u, e1, e2⟩ := k (i + 1) (by simpa using z)
      rw [eq] at e2
      exact ⟨u, by simpa using e1, by simpa using e2⟩
    have e' := Nat.succ.inj e
    have l' := Nat.le_of_succ_le_succ l
    have tail : ∀ {τ : List (Option V)} {o : Option V} {g : List Addr}, σ = o :: τ → RSl F H τ S g → ∃ f, RVs [] F H vs (backL m S) f ∧ f.Sublist g := fun eq h => backL_sim h e' l' (k' eq)
    cases b with
    | false =>
      cases h with
      | un h =>
        obtain ⟨f, q1, q2⟩ := tail rfl h
        exact ⟨[] ++ f, .cons (.un v) q1, q2⟩
      | cons h1 h2 =>
        obtain ⟨f, q1, q2⟩ := tail rfl h2
        exact ⟨[] ++ f, .cons (.un v) q1, q2.trans (List.sublist_append_right ..)⟩
    | true =>
      obtain ⟨u, e1, e2⟩ := k 0 rfl
      cases e1
      cases h with
      | un h =>
        obtain ⟨f, q1, q2⟩ := tail rfl h
        exact ⟨[] ++ f, .cons (.un v) q1, q2⟩
      | cons h1 h2 =>
        cases e2
        obtain ⟨f, q1, q2⟩ := tail rfl h2
        exact ⟨_, .cons h1 q1, q2.append_left _⟩
theorem slots_of {F H : Hp} (m : Nat) : ∀ {as : List PV} {vs : List V} {f : List Addr}, RVs [] F H vs as f → RSl F H (vs.map some ++ List.replicate m none) (as ++ List.replicate m .un) f
  | [], vs, f, h => by
    cases h
    show RSl F H (List.replicate m none) (List.replicate m .un) []
    induction m with
    | zero => exact .nil
    | succ m ih => exact .un ih
  | a :: as, _, _, h => by
    cases h with
    | cons h1 h2 => exact .cons h1 (slots_of m h2)
def dnC (mask : List Bool) (Qc : KP) : Dn where
  nx := fun S => Qc (.d .none) (backL mask S)
  rt := fun r S => Qc (finX S r).1 (backL mask (finX S r).2)
theorem enter {c : Ct} {mask : List Bool} {N : List Str} {vs : List V} {H : Hp} {Q : VK} {E : XK} {t : TXS} (h : spP c vs H Q E) (hl : vs.length = mask.length) (hN : mask.length ≤ N.length)
    (ht : ∀ as Qc, c as Qc → as.length = mask.length → t (dnC mask Qc) (as ++ List.replicate (N.length - mask.length) .un)) : rwS (kpM mask) t { nx := fun _ H' => Q .non H', rt := Q } (start N vs) H := by
  obtain ⟨F, G, as, Qc, hr, hc, k⟩ := h
  have la : vs.length = as.length := by obtain ⟨_, _, r⟩ := hr; exact r.vl.len
  have r0 : Rep F G H (start N vs) (as ++ List.replicate (N.length - mask.length) .un) := by
    obtain ⟨fv, fs, r⟩ := hr
    cases r.sl
    have nd := r.nd
    have off := r.off
    rw [List.append_nil] at nd off
    refine ⟨[], fv, r.lf, r.lg, ?_, .nil, nd, off, r.dj⟩
    unfold L2.start
    rw [hl]
    exact slots_of _ r.vl
  have lS : (as ++ List.replicate (N.length - mask.length) PV.un).length = N.length := by
    rw [List.length_append, List.length_replicate]
    omega
  have out : ∀ {u : V} {r : PV} {σ' : L2.St} {S' : List PV} {F' H' : Hp}, RepA F' G H' σ' S' [u] [r] → Same F F' → Kp (kpM mask) (start N vs) σ' → Qc (finX S' r).1 (backL mask (finX S' r).2) → Q u H' := fun {u r σ' S' F' H'} r' s' e' q' => by
    have r1 := r'.fin1
    have l1 := r1.lenS
    have na := r'.finNo r
    generalize (finX S' r).1 = r2 at r1 na q'
    generalize (finX S' r).2 = S2 at r1 l1 q'
    obtain ⟨fv, fs, r1⟩ := r1
    have l0 := r0.lenS
    have lσ : σ'.length = N.length := by rw [e'.1, ← l0, lS]
    obtain ⟨f, q1, q2⟩ := backL_sim (m := mask) (vs := vs) r1.sl hl (by omega) fun i z => by
      have hi : i < mask.length := (List.getElem?_eq_some_iff.mp z).1
      have hv : i < vs.length := by omega
      refine ⟨vs[i], List.getElem?_eq_getElem hv, ?_⟩
      rw [e'.2 i (by unfold kpM; rw [List.getD_eq_getElem?_getD, z]; rfl)]
      unfold L2.start
      rw [List.getElem?_append_left (by rw [List.length_map]; exact hv), List.getElem?_map, List.getElem?_eq_getElem hv]
      rfl
    have nd := List.nodup_append.mp r1.nd
    refine k u r2 _ F' H' ⟨fv ++ f, [], r1.lf, r1.lg, .nil, (RVs.others r1.vl fun y m => by rw [List.mem_singleton.mp m]; exact na).app q1, ?_, fun a m => ?_, r1.dj⟩ s' q'
    · rw [List.append_nil]
      exact List.nodup_append.mpr ⟨nd.1, q2.nodup nd.2.1, fun a ha b hb => nd.2.2 a ha b (q2.subset hb)⟩
    · rw [List.append_nil] at m
      exact r1.off a ((List.mem_append.mp m).elim (List.mem_append_left _) fun m => List.mem_append_right _ (q2.subset m))
  refine ⟨F, G, _, dnC mask Qc, r0, ht as Qc hc (by omega), ⟨fun σ' S' F' H' r' s' e' q' => ?_, fun u r σ' S' F' H' r' s' e' q' => out r' s' e' q', fun _ _ _ _ _ _ _ z => z.elim, fun _ _ _ _ _ _ _ z => z.elim⟩⟩
  exact out (r := .d .none) (r'.withD .non) s' e' q'
theorem spP_len {c : Ct} {n : Nat} (h : ∀ as Q, c as Q → as.length = n) {vs : List V} {H : Hp} {Q : VK} {E : XK} (q : spP c vs H Q E) : vs.length = n := by
  obtain ⟨F, G, as, Qc, hr, hc, _⟩ := q
  rw [← h as Qc hc]
  obtain ⟨_, _, r⟩ := hr
  exact r.vl.len
end Px

namespace Fo
open PySem PySem.Spec PyProof.Rows L2 TL HT
/-! ### a tuple turned about: t[::-1] -/
theorem back_bounds (n : Nat) : Builtin.Slice.sliceAdjust none none (-1) (n : Int) = ((n : Int) - 1, -1) := rfl
theorem back_many (n : Nat) : Builtin.Slice.slicePlaces ((n : Int) - 1) (-1) (-1) = n := by
  rw [Builtin.Slice.slicePlaces, if_neg (by decide : ¬ (-1 : Int) > 0)]
  split
  · rw [show (- -1 : Int) = 1 from rfl, Int.ediv_one]; omega
  · omega
theorem pick_all {f : Nat → Option Value} {g : Nat → Value} : ∀ l : List Nat, (∀ k ∈ l, f k = some (g k)) → l.filterMap f = l.map g
  | [], _ => rfl
  | k :: l, h => by rw [List.filterMap_cons_some (h k (List.mem_cons_self ..)), List.map_cons, pick_all l fun j hj => h j (List.mem_cons_of_mem _ hj)]
theorem back_items (xs : Array Value) : ((List.range xs.size).filterMap fun (k : Nat) => xs[((xs.size : Int) - 1 + (k : Int) * -1).toNat]?) = xs.toList.reverse := by
  have e : ∀ k ∈ List.range xs.size, xs[((xs.size : Int) - 1 + (k : Int) * -1).toNat]? = some (xs.toList.reverse.getD k .none) := fun k hk => by
    have hk := List.mem_range.mp hk
    rw [show ((xs.size : Int) - 1 + (k : Int) * -1).toNat = xs.size - 1 - k by omega, ← Array.getElem?_toList, List.getD_eq_getElem?_getD, List.getElem?_reverse (by rw [Array.length_toList]; exact hk), Array.length_toList,
      List.getElem?_eq_getElem (by rw [Array.length_toList]; omega)]
    rfl
  rw [pick_all _ e]
  refine List.ext_getElem (by simp) fun i _ high => ?_
  simp only [List.getElem_map, List.getElem_range, List.getD_eq_getElem?_getD, List.getElem?_eq_getElem high]
  rfl
section
variable {P : Program} {w : World} {A : Around} {E : Value → Shared → Prop} {s : Shared}
theorem back_applied {sl : Addr} {u : Tok} {n : Nat} {Q : Int × Int × Nat → Shared → Prop} (hs : s.heap.IsSliceOf sl .none .none (.int (-1) u)) (goal : Q ((n : Int) - 1, -1, n) s) :
    wpAny (model P w) A (Builtin.Slice.sliceApplied (.ref sl) (pure (n : Int))) Q E s := by
  rcases hs with ⟨o, there, _, data⟩
  rw [Builtin.Slice.sliceApplied, Builtin.Slice.sliceFields]
  refine wpAny_bind (wpAny_bind (wpAny_field there data (x := .none) rfl (wpAny_bind (wpAny_field there data (x := .none) rfl (wpAny_bind (wpAny_field there data (x := .int (-1) u) rfl (wpAny_pure (wpAny_bind (slicePart_int ?_)))))))))
  show wpAny _ _ (if ((-1 : Int) == 0) = true then _ else _) _ _ s
  rw [if_neg (by decide)]
  refine wpAny_bind (slicePart_none (wpAny_bind (slicePart_none (wpAny_bind (wpAny_pure ?_)))))
  show wpAny _ _ (match Builtin.Slice.sliceAdjust none none (-1) (n : Int) with | (lo, hi) => pure (lo, (-1 : Int), Builtin.Slice.slicePlaces lo hi (-1))) _ _ s
  rw [back_bounds]
  show wpAny _ _ (pure ((n : Int) - 1, (-1 : Int), Builtin.Slice.slicePlaces ((n : Int) - 1) (-1) (-1))) _ _ s
  rw [back_many]
  exact wpAny_pure goal
theorem item_back {t sl : Addr} {xs : Array Value} {u : Tok} {Q : Value → Shared → Prop} (ht : IsTup s.heap t xs) (hs : s.heap.IsSliceOf sl .none .none (.int (-1) u)) (small : xs.size ≤ sizeLine)
    (goal : Q (.ref s.heap.objs.size) { s with heap := s.heap.push { cls := .type "tuple", data := .seq xs.toList.reverse.toArray } }) : wpAny (model P w) A (getItem (.ref t) (.ref sl)) Q E s := by
  have isSlice : s.TypeIs (.ref sl) "slice" := by
    obtain ⟨o, there, cls, _⟩ := hs
    exact ⟨o, there, cls⟩
  have fits : sizeOk (.seq xs.toList.reverse.toArray) := by
    show xs.toList.reverse.toArray.size ≤ sizeLine
    simpa using small
  unfold getItem
  try refine wpAny_holding ?_
  try refine wpAny_bind (wpAny_pure ?_)
  refine wpAny_bind (wpAny_sequenceKey ht.typeIs (by decide) (wpAny_bind (wpAny_callSpecial?_slot (name := Str.ofString "__getitem__") ht.typeIs PyProof.Rows.slot_tuple_getitem ?_)))
  refine wpAny_call_entry PyProof.Rows.slot_tuple_getitem ht.typeIs entry_tuple_getitem (?_ : wpAny _ _ (Builtin.Tuple.tupleItemsOf (.ref t) >>= _) _ _ s) (args_tuple_getitem _ _)
  refine wpAny_bind (tupleItemsOf_ ht (wpAny_bind (wpAny_typeOf isSlice ?_)))
  rw [if_pos (by decide)]
  refine wpAny_bind (back_applied (n := xs.size) hs ?_)
  show wpAny _ _ (if (((xs.size : Int) - 1 == 0) && ((-1 : Int) == 1) && (xs.size == xs.size)) = true then _ else _) _ _ s
  rw [if_neg (by simp), back_items]
  first
    | exact wpAny_bind (m := Builtin.Tuple.tupleExact _) (wpAny_newObj_type (wpAny_pure ⟨_, rfl, wpAny_pure goal⟩) fits)
    | exact wpAny_bind (wpAny_bind (m := Builtin.Tuple.tupleExact _) (wpAny_newObj_type (wpAny_pure ⟨_, rfl, wpAny_pure goal⟩) fits))
    | exact wpAny_bind (m := Builtin.Tuple.tupleExact _) (wpAny_newObj_type (wpAny_bind (wpAny_pure (wpAny_pure ⟨_, rfl, wpAny_pure goal⟩))) fits)
end
def tBack (te : TE) (ts : TO) : TE := fun σ H Q => te σ H fun x H1 => ts σ H1 fun st H2 => st = some (-1) ∧ ∃ a xs, x = .ref a ∧ H2 a = some (.tup xs) ∧ New (.tup xs.reverse) H2 Q
theorem vals_back : ∀ {xs : List V} {us : List Value}, Vals xs us → Vals xs.reverse us.reverse
  | _, _, .nil => .nil
  | x :: xs, u :: us, .cons h r => by
    rw [List.reverse_cons (a := x), List.reverse_cons (a := u)]
    exact (vals_back r).append (.cons h .nil)
theorem pe_sliceB {X : Cx} {e st : Expr} {te : TE} {ts : TO} {p2 pos : Pos} (he : PE X e te) (hs : PO X (some st) ts) : PE X (.Subscript e (.Slice none none (some st) p2) pos) (tBack te ts) := by
  refine ⟨fun pins s σ H Q I h => Subscript_ (thn (he.run pins s σ H _ I h) fun v s1 ⟨x, H1, I1, r1, q1⟩ => wpAny_Slice ?_)⟩
  rw [evalPart_none]
  refine wpAny_pure (wpAny_pure (thn (hs.run pins s1 σ H1 _ I1 q1) fun vs s2 told => ?_))
  obtain ⟨z, H2, I2, part, rfl, a, xs, rfl, ha, goal⟩ := told
  cases r1
  cases part with | int _ u =>
  have I3 : Inv X pins σ H2 { s2 with heap := s2.heap.push { cls := .type "slice", data := .fields #[.none, .none, .int (-1) u] } } := I2.kept (t' := s2.toks) fun b o q => Heap.get?_push_of_some _ q
  obtain ⟨its, r, ht, small⟩ := I3.tuple (SqT.of (K := X.K) ha)
  have len : its.toArray.size = xs.length := by rw [List.size_toArray, r.length]
  show wpAny _ _ (subscriptTail e (.Slice none none (some st) p2) (.ref a) (.ref s2.heap.objs.size)) _ _ _
  refine tail_any (ops := [.ref a, .ref s2.heap.objs.size]) ht.typeIs PyProof.Rows.slot_tuple_getitem.lookup (item_back ht (Heap.IsSliceOf.new ..) (by rw [len]; exact small) ?_) (by with_unfolding_all rfl)
  refine ⟨.ref _, _, I3.laid (t' := s2.toks) (o := .tup xs.reverse) (fun b o q => Heap.get?_push_of_some _ q) (Nat.le_refl _) ?_, rfl, goal.at _ (I3.hok.fresh (Nat.le_refl _))⟩
  exact ⟨by rw [List.length_reverse]; exact small, _, vals_back r, IsTup.new _ _⟩
end Fo

namespace Fo
open PySem PySem.Spec PyProof.Rows L2 TL
/-! ### a tuple times a number, one too -/
/-- times one: the tuple itself -/
theorem tup_once {at_ : Addr} {inside : Array Value} {epoch : Nat} {attrs : Option Addr} {slots : Array (Option Value)} {u : Tok} :
    Meets (Builtin.«tuple.__mul__» ⟨[.ref at_, .int 1 u], []⟩) (fun _ Rs st =>
      st.heap.get? at_ = some ⟨.type "tuple", attrs, .seq inside epoch, slots⟩ ∧ Rs (.ok (.ret (.ref at_))) st) := by
  refine Meets.of_wp fun _ _ _ Rs st both => ?_
  rcases st with ⟨heap, gens, drawn, toks, os⟩
  rcases both with ⟨stands, done⟩
  have index := AutoSeq1.idx_int
  have far : ¬ ((1 : Int) < -(2 ^ 63) ∨ (1 : Int) ≥ 2 ^ 63) := by decide
  wp_walk using wpAny_loadPart' stands
  all_goals exact ⟨_, rfl, done⟩
def rMulT : R2 := fun x y H Q => ∃ l k xs, x = .ref l ∧ y = .int k ∧ H l = some (.tup xs) ∧ xs ≠ [] ∧ 1 ≤ k ∧ k ≤ 1000 ∧ xs.length ≤ 1000 ∧ ∀ p H', Same H H' → H' p = some (.tup (List.replicate k.toNat xs).flatten) → Q (.ref p) H'
section
variable {X : Cx}
theorem op_mulT : OpR X (binaryOp .Mult) rMulT := by
  rintro pins s σ H _ _ v u Q I rx ry ⟨at_, k, xs, rfl, rfl, stands, some_, low, high, few, goal⟩
  rcases Int.lt_or_eq_of_le low with more | once
  · -- two or more: the library's rule
    refine op_repT pins s σ H _ _ v u Q I rx ry ⟨at_, k, xs, rfl, rfl, SqT.of stands, some_, by omega, high, few, fun fresh none_ => ?_⟩
    exact goal fresh _ (same_new none_) upd_same
  · subst once
    have asked : Q (.ref at_) H := goal at_ H (Same.refl H) (by rw [stands]; show _ = some (HO.tup (List.replicate 1 xs).flatten); simp)
    have tuple := (I.tuple (SqT.of (K := X.K) stands)).choose_spec.2.1
    cases rx
    cases ry with | intro tok same =>
    subst same
    rcases tuple with ⟨⟨kind, attrs, data, slots⟩, here, isTuple, epoch, isSeq⟩
    cases (show kind = _ from isTuple)
    cases (show data = _ from isSeq)
    have typed : s.TypeIs (.ref at_) "tuple" := ⟨_, here, rfl⟩
    have number : ∀ s' : Shared, s'.TypeIs (.int 1 tok) "int" := fun s' => typeIs_int s' 1 tok
    have last : wpAny (model X.prog X.w) X.A (call (.builtin "tuple.__mul__") [.ref at_, .int 1 tok]) (EP X pins σ Q) X.xe s :=
      call_meets F.slot_tuple_mul typed F.entry_tuple_mul (F.args_tuple_mul_2 (.ref at_) (.int 1 tok)) tup_once ⟨here, .ref at_, H, I, rfl, asked⟩
    refine wpAny_binaryOp_repeat_ref (by decide) typed number noFill_tuple_mul F.fills_int_mul F.slot_int_rmul repeat_tuple F.slot_int_index.lookup ?_
    exact call_meets F.slot_int_rmul (number s) F.entry_int_rmul (F.args_int_rmul_2 _ _) (int_rmul_tuple 1 tok at_ _ epoch attrs slots) ⟨here, rfl, typed, last⟩
end
end Fo

namespace Fo
open PySem PySem.Spec PyProof.Rows L2
/-! ### lots -/
structure LSt where
  ways : List (Option Nat)
  good : Bool
structure Lot where
  signs : Cs
  states : List LSt
instance : Inhabited LSt := ⟨⟨[], false⟩⟩
def dN : Option Nat → PyData
  | none => .none
  | some n => .int (n : Int)
def dLs (s : LSt) : PyData := .tuple [.tuple (s.ways.map dN), .bool s.good]
def dLot (l : Lot) : PyData := .tuple [.str (tx l.signs), .tuple (l.states.map dLs)]
structure Lot.Ok (l : Lot) : Prop where
  ne : 0 < l.states.length
  ways : ∀ s ∈ l.states, s.ways.length = l.signs.length
  there : ∀ s ∈ l.states, ∀ n, some n ∈ s.ways → n < l.states.length
  once : l.signs.Nodup
def Lot.sta (l : Lot) (s : Nat) : LSt := l.states.getD s default
def Lot.step (l : Lot) : Option Nat → Nat → Option Nat
  | none, _ => none
  | some s, c => if c ∈ l.signs then (l.sta s).ways.getD (l.signs.idxOf c) none else none
def Lot.on (l : Lot) (s : Option Nat) (t : Cs) : Option Nat := t.foldl l.step s
def Lot.word (l : Lot) (t : Cs) : Bool := match l.on (some 0) t with
  | none => false
  | some s => (l.sta s).good
theorem Lot.on_none (l : Lot) : ∀ t : Cs, l.on none t = none
  | [] => rfl
  | c :: t => Lot.on_none l t
theorem Lot.on_snoc (l : Lot) (s : Option Nat) (t : Cs) (c : Nat) : l.on s (t ++ [c]) = l.step (l.on s t) c := by
  unfold Lot.on
  rw [List.foldl_append]
  rfl
theorem Lot.on_split (l : Lot) (s : Option Nat) (t : Cs) (i : Nat) : l.on s t = l.on (l.on s (t.take i)) (t.drop i) := by
  unfold Lot.on
  rw [← List.foldl_append, List.take_append_drop]
theorem Lot.on_stop {l : Lot} {s : Option Nat} {t : Cs} {i : Nat} (h : l.on s (t.take i) = none) : l.on s t = none := by
  rw [Lot.on_split l s t i, h, Lot.on_none]
theorem Lot.sta_at {l : Lot} {s : Nat} (h : s < l.states.length) : l.states[s]? = some (l.sta s) := by
  unfold Lot.sta
  rw [List.getD_eq_getElem?_getD, List.getElem?_eq_getElem h]
  rfl
theorem Lot.sta_mem {l : Lot} {s : Nat} (h : s < l.states.length) : l.sta s ∈ l.states := List.mem_of_getElem? (Lot.sta_at h)
theorem Lot.way_at {l : Lot} (o : l.Ok) {s c : Nat} (hs : s < l.states.length) (hc : c ∈ l.signs) : (l.sta s).ways[l.signs.idxOf c]? = some (l.step (some s) c) := by
  have hi := List.idxOf_lt_length_iff.mpr hc
  have hl := o.ways _ (Lot.sta_mem hs)
  show _ = some (if c ∈ l.signs then (l.sta s).ways.getD (l.signs.idxOf c) none else none)
  rw [if_pos hc, List.getD_eq_getElem?_getD, List.getElem?_eq_getElem (by omega)]
  rfl
theorem Lot.step_lt {l : Lot} (o : l.Ok) {s c n : Nat} (hs : s < l.states.length) (h : l.step (some s) c = some n) : n < l.states.length := by
  have hc : c ∈ l.signs := by
    rcases Classical.em (c ∈ l.signs) with q | q
    · exact q
    · have e : l.step (some s) c = none := if_neg q
      rw [e] at h
      cases h
  have w := Lot.way_at o hs hc
  rw [h] at w
  exact o.there _ (Lot.sta_mem hs) n (List.mem_of_getElem? w)
theorem Lot.on_lt {l : Lot} (o : l.Ok) : ∀ (t : Cs) (s n : Nat), s < l.states.length → l.on (some s) t = some n → n < l.states.length
  | [], s, n, hs, h => by
    cases h
    exact hs
  | c :: t, s, n, hs, h => by
    have h : l.on (l.step (some s) c) t = some n := h
    cases e : l.step (some s) c with
    | none =>
      rw [e, Lot.on_none] at h
      cases h
    | some m =>
      rw [e] at h
      exact Lot.on_lt o t m n (Lot.step_lt o hs e) h
/-! ### how many words -/
def bump (xs : List Int) (k : Nat) (v : Int) : List Int := xs.set k (xs.getD k 0 + v)
def bumps (v : Int) : List (Option Nat) → List Int → List Int
  | [], a => a
  | none :: ws, a => bumps v ws a
  | some k :: ws, a => bumps v ws (bump a k v)
def sweep : List Int → List LSt → List Int → List Int
  | c :: cs, s :: ss, a => sweep cs ss (bumps c s.ways a)
  | _, _, a => a
def Lot.more (l : Lot) (cs : List Int) : List Int := sweep cs l.states (List.replicate l.states.length 0)
def Lot.cnt (l : Lot) : Nat → List Int
  | 0 => 1 :: List.replicate (l.states.length - 1) 0
  | n + 1 => l.more (l.cnt n)
def total : List Int → List LSt → List Int
  | c :: cs, s :: ss => if s.good then c :: total cs ss else total cs ss
  | _, _ => []
def Lot.many (l : Lot) (n : Nat) : Int := (total (l.cnt n) l.states).sum
theorem bump_len (xs : List Int) (k : Nat) (v : Int) : (bump xs k v).length = xs.length := List.length_set
theorem bumps_len (v : Int) : ∀ (ws : List (Option Nat)) (a : List Int), (bumps v ws a).length = a.length
  | [], _ => rfl
  | none :: ws, a => bumps_len v ws a
  | some k :: ws, a => (bumps_len v ws _).trans (bump_len a k v)
theorem sweep_len : ∀ (cs : List Int) (ss : List LSt) (a : List Int), (sweep cs ss a).length = a.length
  | [], _, _ => rfl
  | _ :: _, [], _ => rfl
  | c :: cs, s :: ss, a => (sweep_len cs ss _).trans (bumps_len c s.ways a)
theorem Lot.cnt_len {l : Lot} (o : l.Ok) : ∀ n, (l.cnt n).length = l.states.length
  | 0 => by
    show (1 :: List.replicate (l.states.length - 1) 0 : List Int).length = _
    have := o.ne
    rw [List.length_cons, List.length_replicate]
    omega
  | n + 1 => (sweep_len _ _ _).trans List.length_replicate
theorem bump_get {xs : List Int} {k : Nat} (v : Int) (j : Nat) (h : k < xs.length) : (bump xs k v).getD j 0 = xs.getD j 0 + if k = j then v else 0 := by
  unfold bump
  rw [List.getD_eq_getElem?_getD, List.getElem?_set]
  by_cases e : k = j
  · subst e
    rw [if_pos rfl, if_pos h, if_pos rfl]
    rfl
  · rw [if_neg e, if_neg e, List.getD_eq_getElem?_getD, Int.add_zero]
theorem bumps_get (v : Int) (j : Nat) : ∀ (ws : List (Option Nat)) (a : List Int), (∀ k, some k ∈ ws → k < a.length) → (bumps v ws a).getD j 0 = a.getD j 0 + v * (ws.count (some j) : Nat)
  | [], a, _ => by
    show a.getD j 0 = a.getD j 0 + v * ((0 : Nat) : Int)
    simp
  | none :: ws, a, h => by
    have e : (none :: ws).count (some j) = ws.count (some j) := by rw [List.count_cons]; simp
    rw [e]
    exact bumps_get v j ws a fun k hk => h k (List.mem_cons_of_mem _ hk)
  | some k :: ws, a, h => by
    have hk := h k (List.mem_cons_self ..)
    have ih := bumps_get v j ws (bump a k v) fun m hm => by rw [bump_len]; exact h m (List.mem_cons_of_mem _ hm)
    show (bumps v ws (bump a k v)).getD j 0 = _
    rw [ih, bump_get v j hk, List.count_cons]
    by_cases e : k = j
    · subst e
      simp [Int.mul_add]
      omega
    · have ne : (some k == some j) = false := by simpa using e
      rw [if_neg e, ne]
      simp
/-- what comes to j, by the counts c from the states from k on -/
def flow (c : Nat → Int) (j : Nat) : List LSt → Nat → Int
  | [], _ => 0
  | s :: ss, k => c k * (s.ways.count (some j) : Nat) + flow c j ss (k + 1)
theorem sweep_get (j : Nat) (c : Nat → Int) : ∀ (cs : List Int) (ss : List LSt) (a : List Int) (k : Nat), cs.length = ss.length → (∀ i, cs.getD i 0 = c (k + i)) → (∀ s ∈ ss, ∀ n, some n ∈ s.ways → n < a.length) →
    (sweep cs ss a).getD j 0 = a.getD j 0 + flow c j ss k
  | [], [], a, k, _, _, _ => (Int.add_zero _).symm
  | [], _ :: _, _, _, h, _, _ => by simp at h
  | _ :: _, [], _, _, h, _, _ => by simp at h
  | x :: cs, s :: ss, a, k, h, hc, ht => by
    have ih := sweep_get j c cs ss (bumps x s.ways a) (k + 1) (by simpa using h) (fun i => by have := hc (i + 1); rw [show k + 1 + i = k + (i + 1) by omega, ← this]; rfl) fun s' hs n hn => by rw [bumps_len]; exact ht s' (List.mem_cons_of_mem _ hs) n hn
    have e0 : x = c k := hc 0
    show (sweep cs ss (bumps x s.ways a)).getD j 0 = _
    rw [ih, bumps_get x j s.ways a (ht s (List.mem_cons_self ..)), e0]
    show _ = a.getD j 0 + (c k * _ + flow c j ss (k + 1))
    omega
theorem flow_zero (j : Nat) : ∀ (ss : List LSt) (k : Nat), flow (fun _ => 0) j ss k = 0
  | [], _ => rfl
  | s :: ss, k => by
    show 0 * _ + flow (fun _ => 0) j ss (k + 1) = 0
    rw [flow_zero j ss (k + 1), Int.zero_mul, Int.add_zero]
theorem flow_one (c : Nat → Int) (j m : Nat) : ∀ (ss : List LSt) (k : Nat), flow (fun i => c i + if m = i then 1 else 0) j ss k = flow c j ss k + if k ≤ m then (((ss[m - k]?).map fun s => s.ways.count (some j)).getD 0 : Nat) else 0
  | [], k => by
    show (0 : Int) = 0 + _
    split <;> simp
  | s :: ss, k => by
    have ih := flow_one c j m ss (k + 1)
    show (c k + if m = k then 1 else 0) * ((s.ways.count (some j) : Nat) : Int) + flow _ j ss (k + 1) = c k * ((s.ways.count (some j) : Nat) : Int) + flow c j ss (k + 1) + _
    rw [ih, Int.add_mul]
    rcases Nat.lt_trichotomy m k with h | h | h
    · rw [if_neg (show ¬ m = k by omega), if_neg (show ¬ k + 1 ≤ m by omega), if_neg (show ¬ k ≤ m by omega)]
      omega
    · subst h
      rw [if_pos rfl, if_neg (show ¬ m + 1 ≤ m by omega), if_pos (Nat.le_refl m), Nat.sub_self]
      show c m * _ + 1 * _ + (_ + 0) = c m * _ + _ + ((s.ways.count (some j) : Nat) : Int)
      omega
    · rw [if_neg (show ¬ m = k by omega), if_pos (show k + 1 ≤ m by omega), if_pos (show k ≤ m by omega), show m - k = (m - (k + 1)) + 1 by omega, List.getElem?_cons_succ]
      omega
/-- the ways of a state -/
def Lot.roads (l : Lot) (j : Nat) : Option Nat → Nat
  | none => 0
  | some s => (l.sta s).ways.count (some j)
theorem flow_list {l : Lot} (j : Nat) : ∀ F : List (Option Nat), (∀ s, some s ∈ F → s < l.states.length) → flow (fun i => ((F.count (some i) : Nat) : Int)) j l.states 0 = ((F.map (l.roads j)).sum : Nat)
  | [], _ => flow_zero j l.states 0
  | none :: F, h => by
    have ih := flow_list j F fun s hs => h s (List.mem_cons_of_mem _ hs)
    have e : (fun i => (((none :: F).count (some i) : Nat) : Int)) = fun i => ((F.count (some i) : Nat) : Int) := funext fun i => by rw [List.count_cons]; simp
    rw [e, ih, List.map_cons, List.sum_cons]
    show _ = (((0 : Nat) + _ : Nat) : Int)
    rw [Nat.zero_add]
  | some m :: F, h => by
    have ih := flow_list j F fun s hs => h s (List.mem_cons_of_mem _ hs)
    have hm := h m (List.mem_cons_self ..)
    have e : (fun i => (((some m :: F).count (some i) : Nat) : Int)) = fun i => ((F.count (some i) : Nat) : Int) + if m = i then 1 else 0 := funext fun i => by
      rw [List.count_cons]
      by_cases q : m = i
      · subst q
        simp
      · have ne : (some m == some i) = false := by simpa using q
        rw [ne, if_neg q]
        simp
    rw [e, flow_one, ih, List.map_cons, List.sum_cons, if_pos (Nat.zero_le m), Nat.sub_zero, Lot.sta_at hm]
    show _ + (((l.sta m).ways.count (some j) : Nat) : Int) = (((l.sta m).ways.count (some j) + _ : Nat) : Int)
    omega
/-- all texts of a length, as they are made -/
def longer (g : Cs) (ts : List Cs) : List Cs := ts.flatMap fun t => g.map fun c => t ++ [c]
def texts (g : Cs) : Nat → List Cs
  | 0 => [[]]
  | n + 1 => longer g (texts g n)
theorem map_ways : ∀ (g : Cs) (ws : List (Option Nat)), g.Nodup → ws.length = g.length → (g.map fun c => ws.getD (g.idxOf c) none) = ws
  | [], [], _, _ => rfl
  | [], _ :: _, _, h => by simp at h
  | _ :: _, [], _, h => by simp at h
  | a :: g, w :: ws, d, h => by
    obtain ⟨d1, d2⟩ := List.nodup_cons.mp d
    have ih := map_ways g ws d2 (by simpa using h)
    rw [List.map_cons, List.idxOf_cons_self]
    show w :: _ = w :: ws
    congr 1
    refine Eq.trans (List.map_congr_left fun c hc => ?_) ih
    have ne : (a == c) = false := beq_eq_false_iff_ne.mpr fun e => d1 (e ▸ hc)
    rw [List.idxOf_cons, ne, cond_false]
    rfl
theorem step_all {l : Lot} (o : l.Ok) {s : Nat} (hs : s < l.states.length) : l.signs.map (l.step (some s)) = (l.sta s).ways := by
  refine Eq.trans (List.map_congr_left fun c hc => ?_) (map_ways l.signs (l.sta s).ways o.once (o.ways _ (Lot.sta_mem hs)))
  exact if_pos hc
theorem on_longer {l : Lot} (ts : List Cs) : (longer l.signs ts).map (l.on (some 0)) = (ts.map (l.on (some 0))).flatMap fun o => l.signs.map (l.step o) := by
  unfold longer
  rw [List.map_flatMap, List.flatMap_map]
  congr 1
  funext t
  rw [List.map_map]
  exact List.map_congr_left fun c _ => Lot.on_snoc l (some 0) t c
theorem count_flat {l : Lot} (o : l.Ok) (j : Nat) : ∀ F : List (Option Nat), (∀ s, some s ∈ F → s < l.states.length) → (F.flatMap fun q => l.signs.map (l.step q)).count (some j) = (F.map (l.roads j)).sum
  | [], _ => rfl
  | q :: F, h => by
    have ih := count_flat o j F fun s hs => h s (List.mem_cons_of_mem _ hs)
    rw [List.flatMap_cons, List.count_append, ih, List.map_cons, List.sum_cons]
    congr 1
    cases q with
    | none =>
      show (l.signs.map fun _ => (none : Option Nat)).count (some j) = 0
      exact List.count_eq_zero.mpr fun hm => by
        obtain ⟨c, _, e⟩ := List.mem_map.mp hm
        cases e
    | some s => rw [step_all o (h s (List.mem_cons_self ..))]; rfl
theorem on_some_lt {l : Lot} (o : l.Ok) {ts : List Cs} : ∀ s, some s ∈ ts.map (l.on (some 0)) → s < l.states.length := fun s hs => by
  obtain ⟨t, _, e⟩ := List.mem_map.mp hs
  exact Lot.on_lt o t 0 s o.ne e
theorem cnt_get {l : Lot} (o : l.Ok) : ∀ (n j : Nat), (l.cnt n).getD j 0 = ((((texts l.signs n).map (l.on (some 0))).count (some j) : Nat) : Int)
  | 0, j => by
    show (1 :: List.replicate (l.states.length - 1) 0 : List Int).getD j 0 = (([some 0].count (some j) : Nat) : Int)
    cases j with
    | zero => rfl
    | succ j =>
      rw [List.getD_eq_getElem?_getD, List.getElem?_cons_succ, List.getElem?_replicate]
      have e : [some 0].count (some (j + 1)) = 0 := by simp [List.count_cons]
      rw [e]
      split <;> rfl
  | n + 1, j => by
    have ih := cnt_get o n
    have z := sweep_get j (fun i => (l.cnt n).getD i 0) (l.cnt n) l.states (List.replicate l.states.length 0) 0 (Lot.cnt_len o n) (fun i => by rw [Nat.zero_add]) (fun s hs k hk => by rw [List.length_replicate]; exact o.there s hs k hk)
    show (sweep (l.cnt n) l.states (List.replicate l.states.length 0)).getD j 0 = _
    have e0 : (List.replicate l.states.length (0 : Int)).getD j 0 = 0 := by
      rw [List.getD_eq_getElem?_getD, List.getElem?_replicate]
      split <;> rfl
    rw [z, e0, Int.zero_add, show (fun i => (l.cnt n).getD i 0) = fun i => ((((texts l.signs n).map (l.on (some 0))).count (some i) : Nat) : Int) from funext ih, flow_list j _ (on_some_lt o)]
    show _ = ((((longer l.signs (texts l.signs n)).map (l.on (some 0))).count (some j) : Nat) : Int)
    rw [on_longer, count_flat o j _ (on_some_lt o)]
/-- the good ones -/
def goods (c : Nat → Int) : List LSt → Nat → Int
  | [], _ => 0
  | s :: ss, k => (if s.good then c k else 0) + goods c ss (k + 1)
theorem total_sum (c : Nat → Int) : ∀ (cs : List Int) (ss : List LSt) (k : Nat), cs.length = ss.length → (∀ i, cs.getD i 0 = c (k + i)) → (total cs ss).sum = goods c ss k
  | [], [], _, _, _ => rfl
  | [], _ :: _, _, h, _ => by simp at h
  | _ :: _, [], _, h, _ => by simp at h
  | x :: cs, s :: ss, k, h, hc => by
    have ih := total_sum c cs ss (k + 1) (by simpa using h) (fun i => by have := hc (i + 1); rw [show k + 1 + i = k + (i + 1) by omega, ← this]; rfl)
    have e0 : x = c k := hc 0
    show (if s.good then x :: total cs ss else total cs ss).sum = (if s.good then c k else 0) + goods c ss (k + 1)
    cases s.good
    · rw [if_neg Bool.false_ne_true, if_neg Bool.false_ne_true, ih, Int.zero_add]
    · rw [if_pos rfl, if_pos rfl, List.sum_cons, ih, e0]
theorem goods_zero : ∀ (ss : List LSt) (k : Nat), goods (fun _ => 0) ss k = 0
  | [], _ => rfl
  | s :: ss, k => by
    show (if s.good then (0 : Int) else 0) + goods (fun _ => 0) ss (k + 1) = 0
    rw [goods_zero ss (k + 1)]
    cases s.good <;> rfl
theorem goods_one (c : Nat → Int) (m : Nat) : ∀ (ss : List LSt) (k : Nat), goods (fun i => c i + if m = i then 1 else 0) ss k = goods c ss k + if k ≤ m ∧ ((ss[m - k]?).map LSt.good).getD false = true then 1 else 0
  | [], k => by
    show (0 : Int) = 0 + _
    rw [if_neg (by simp)]
    rfl
  | s :: ss, k => by
    have ih := goods_one c m ss (k + 1)
    show (if s.good then c k + (if m = k then 1 else 0) else 0) + goods _ ss (k + 1) = (if s.good then c k else 0) + goods c ss (k + 1) + _
    rw [ih]
    rcases Nat.lt_trichotomy m k with h | h | h
    · rw [if_neg (show ¬ m = k by omega), if_neg (show ¬ (k + 1 ≤ m ∧ _) from fun z => by omega), if_neg (show ¬ (k ≤ m ∧ _) from fun z => by omega), Int.add_zero, Int.add_zero, Int.add_zero]
    · subst h
      rw [if_pos rfl, if_neg (show ¬ (m + 1 ≤ m ∧ _) from fun z => by omega), Nat.sub_self]
      show _ = _ + if m ≤ m ∧ s.good = true then (1 : Int) else 0
      cases s.good
      · simp
      · simp
        omega
    · rw [if_neg (show ¬ m = k by omega), show m - k = (m - (k + 1)) + 1 by omega, List.getElem?_cons_succ, Int.add_zero]
      have p1 : k + 1 ≤ m := by omega
      have p2 : k ≤ m := by omega
      simp only [p1, p2, true_and]
      omega
def Lot.fine (l : Lot) : Option Nat → Bool
  | none => false
  | some s => (l.sta s).good
theorem goods_list {l : Lot} : ∀ F : List (Option Nat), (∀ s, some s ∈ F → s < l.states.length) → goods (fun i => ((F.count (some i) : Nat) : Int)) l.states 0 = ((F.countP l.fine : Nat) : Int)
  | [], _ => goods_zero l.states 0
  | none :: F, h => by
    have ih := goods_list F fun s hs => h s (List.mem_cons_of_mem _ hs)
    have e : (fun i => (((none :: F).count (some i) : Nat) : Int)) = fun i => ((F.count (some i) : Nat) : Int) := funext fun i => by rw [List.count_cons]; simp
    rw [e, ih, List.countP_cons]
    rfl
  | some m :: F, h => by
    have ih := goods_list F fun s hs => h s (List.mem_cons_of_mem _ hs)
    have hm := h m (List.mem_cons_self ..)
    have e : (fun i => (((some m :: F).count (some i) : Nat) : Int)) = fun i => ((F.count (some i) : Nat) : Int) + if m = i then 1 else 0 := funext fun i => by
      rw [List.count_cons]
      by_cases q : m = i
      · subst q
        simp
      · have ne : (some m == some i) = false := by simpa using q
        rw [ne, if_neg q]
        simp
    rw [e, goods_one, ih, List.countP_cons, Nat.sub_zero, Lot.sta_at hm]
    show _ + (if 0 ≤ m ∧ (l.sta m).good = true then (1 : Int) else 0) = ((F.countP l.fine + if (l.sta m).good = true then 1 else 0 : Nat) : Int)
    cases (l.sta m).good
    · rw [if_neg (fun z => Bool.false_ne_true z.2), if_neg Bool.false_ne_true]
      rfl
    · rw [if_pos ⟨Nat.zero_le m, rfl⟩, if_pos rfl]
      rfl
/-- as many as all texts that are words -/
theorem many_words {l : Lot} (o : l.Ok) (n : Nat) : l.many n = (((texts l.signs n).filter l.word).length : Nat) := by
  unfold Lot.many
  rw [total_sum (fun i => (l.cnt n).getD i 0) (l.cnt n) l.states 0 (Lot.cnt_len o n) (fun i => by rw [Nat.zero_add]), show (fun i => (l.cnt n).getD i 0) = fun i => ((((texts l.signs n).map (l.on (some 0))).count (some i) : Nat) : Int) from funext (cnt_get o n), goods_list _ (on_some_lt o), List.countP_map, ← List.countP_eq_length_filter]
  congr 2
section
variable {X : Cx}
def rRepN : R2 := fun x y H Q => ∃ (l : Addr) (k : Nat) (xs : List V), x = .ref l ∧ y = .int (k : Int) ∧ H l = some (.lst xs) ∧ k ≤ 50000 ∧ xs.length * k ≤ 50000 ∧ New (.lst (List.replicate k xs).flatten) H Q
def rMulN : R2 := fun x y H Q => rI CMul (fun i j => .int (i * j)) x y H Q ∨ rRepN x y H Q
theorem op_mulN : OpR X (binaryOp .Mult) rMulN := op_mul.or (OpR_imp op_rep fun x y H Q h => by
  obtain ⟨l, k, xs, rfl, rfl, e, small, fits, q⟩ := h
  refine ⟨l, (k : Int), xs, rfl, rfl, e, by omega, by omega, ?_, ?_⟩
  · rw [Int.toNat_natCast, sizeLine_eq]
    omega
  · rw [Int.toNat_natCast]
    exact q.at)
theorem ints_rep (x : Int) : ∀ m : Nat, (List.replicate m [V.int x]).flatten = (List.replicate m x).map V.int
  | 0 => rfl
  | m + 1 => by
    rw [List.replicate_succ, List.flatten_cons, ints_rep x m]
    rfl
def rGetN : V → V → Hp → VK → Prop := fun o i H Q => ∃ (p : Addr) (xs : List V) (j : Nat) (x : V), o = .ref p ∧ i = .int (j : Int) ∧ H p = some (.lst xs) ∧ xs[j]? = some x ∧ Q x H
theorem get_listN : PGet X rGetN := by
  rintro pins s σ H _ _ ov iv Q I ro ri ⟨p, xs, j, x, rfl, rfl, hp, hx, q⟩
  cases ro
  obtain ⟨t, rfl⟩ := ri
  obtain ⟨us, r, here, small⟩ := I.list (SqL.of (K := X.K) hp)
  obtain ⟨u, hu, ru⟩ := r.get hx
  have lt := (List.getElem?_eq_some_iff.mp hx).1
  rw [sizeLine_eq] at small
  refine wpAny_getItem_list here.isList (Int.natCast_nonneg j) ?_ (x := u) (by simpa using hu) ⟨x, H, I, ru, q⟩
  omega
theorem kSum (K : PySem.W.Frag) (e : X.K = K) (calm : X.calm = true) : CallR X (.builtin "sum") (rSum K) := e ▸ cr_sum calm
end
end Fo

namespace Px
open PySem PySem.Spec PyProof.Rows L2 Fo TL
section
variable {F F' F0 G G' H H' : Hp} {σ σ' : L2.St} {S : List PV} {v u : V} {vs us : List V} {xs ys : List PV} {x y : PV} {Qp : KP} {Q : VK}
/-! ### what stands in hand -/
theorem RepA.looks (h : RepA F G H σ S vs xs) {k : Nat} (e : xs[k]? = some x) : ∃ v f, vs[k]? = some v ∧ RV [] F H v (look S x) f := by
  obtain ⟨v, f, ev, r, _⟩ := h.at e
  cases x with
  | al i =>
    cases r with
    | al es =>
      show ∃ v f, vs[k]? = some v ∧ RV [] F H v (S.getD i .un) f
      by_cases n : S.getD i .un = .un
      · rw [n]
        exact ⟨v, [], ev, .un v⟩
      · have hi : i < S.length := by
          by_cases hi : i < S.length
          · exact hi
          · exact absurd (by rw [List.getD_eq_getElem?_getD, List.getElem?_eq_none (by omega)]; rfl) n
        have e1 : S[i]? = some (S.getD i .un) := by rw [List.getD_eq_getElem?_getD, List.getElem?_eq_getElem hi]; rfl
        obtain ⟨w, g, e2, r2, _⟩ := h.chg e1 n
        rw [es] at e2
        cases e2
        exact ⟨_, g, ev, r2⟩
  | _ => exact ⟨v, f, ev, r.other fun i z => nomatch z⟩
theorem RepA.look0 (h : RepA F G H σ S (v :: vs) (x :: xs)) : ∃ f, RV [] F H v (look S x) f := by
  obtain ⟨u, f, e, r⟩ := h.looks (k := 0) rfl
  cases e
  exact ⟨f, r⟩
theorem RepA.look1 (h : RepA F G H σ S (v :: u :: vs) (x :: y :: xs)) : ∃ f, RV [] F H u (look S y) f := by
  obtain ⟨w, f, e, r⟩ := h.looks (k := 1) rfl
  cases e
  exact ⟨f, r⟩
def asList : PV → Option (List PyData)
  | .l a => some a
  | .d (.list a) => some a
  | _ => none
theorem RV.lst {f : List Addr} {a : List PyData} (r : RV [] F H v x f) (s : Same F H) (e : asList x = some a) : ∃ p ws, v = .ref p ∧ H p = some (.lst ws) ∧ LvA F ws a := by
  cases r with
  | l h1 h2 => cases e; exact ⟨_, _, rfl, h1, h2⟩
  | d h =>
    cases h with
    | lst h1 h2 => cases e; exact ⟨_, _, rfl, s _ _ h1, h2⟩
    | _ => cases e
  | _ => cases e
theorem RV.tup {f : List Addr} {a : List PyData} (r : RV [] F H v (.d (.tuple a)) f) (s : Same F H) : ∃ p ws, v = .ref p ∧ H p = some (.tup ws) ∧ LvA F ws a := by
  cases r with
  | d h =>
    cases h with
    | tup h1 h2 => exact ⟨_, _, rfl, s _ _ h1, h2⟩
theorem RV.dat {f : List Addr} {a : PyData} (r : RV [] F H v (.d a) f) : Lv F v a := by
  cases r with
  | d h => exact h
theorem LvA.appd {F : Hp} : ∀ {ds es : List PyData} {us ws : List V}, LvA F us ds → LvA F ws es → LvA F (us ++ ws) (ds ++ es)
  | [], _, _, _, h, k => by cases h; exact k
  | _ :: _, _, _, _, h, k => by
    cases h with
    | cons h1 h2 => exact .cons h1 (LvA.appd h2 k)
theorem LvA.takes {F : Hp} : ∀ {ds : List PyData} {us : List V} (n : Nat), LvA F us ds → LvA F (us.take n) (ds.take n)
  | _, _, 0, _ => .nil
  | [], _, n + 1, h => by cases h; exact .nil
  | _ :: _, _, n + 1, h => by
    cases h with
    | cons h1 h2 => exact .cons h1 (LvA.takes n h2)
theorem LvA.drops {F : Hp} : ∀ {ds : List PyData} {us : List V} (n : Nat), LvA F us ds → LvA F (us.drop n) (ds.drop n)
  | _, _, 0, h => h
  | [], _, n + 1, h => by cases h; exact .nil
  | _ :: _, _, n + 1, h => by
    cases h with
    | cons h1 h2 => exact LvA.drops n h2
theorem LvA.nthd {F : Hp} : ∀ {ds : List PyData} {us : List V} {i : Nat} {d : PyData}, LvA F us ds → ds[i]? = some d → ∃ x, us[i]? = some x ∧ Lv F x d
  | [], _, i, d, _, e => by simp at e
  | _ :: _, _, i, d, h, e => by
    cases h with
    | cons h1 h2 =>
      cases i with
      | zero => simp at e; subst e; exact ⟨_, rfl, h1⟩
      | succ i =>
        obtain ⟨x, e1, e2⟩ := LvA.nthd (i := i) h2 (by simpa using e)
        exact ⟨x, by simpa using e1, e2⟩
/-! the answers -/
theorem Fin.dat {z : PyData} (k : Fin F G σ Qp Q) (h : RepA F G H σ S vs xs) (l : Lv F v z) (q : Qp (.d z) S) : Q v H := k _ _ _ _ _ (Rep.withD h.rep l) (Same.refl _) q
theorem Fin.lst {ws : List V} {ds : List PyData} (k : Fin F G σ Qp Q) (h : RepA F G H σ S vs xs) (l : LvA F ws ds) (q : Qp (.l ds) S) : New (.lst ws) H Q := fun p H' n s e =>
  k _ _ _ _ _ (RepA.new (f := [p]) h.rep s (fun a m => by rw [List.mem_singleton.mp m]; exact n) (List.nodup_cons.mpr ⟨fun m => (nomatch m), .nil⟩) (.l e l)) (Same.refl _) q
theorem Fin.tup {ws : List V} {ds : List PyData} (k : Fin F G σ Qp Q) (h : RepA F G H σ S vs xs) (l : LvA F ws ds) (q : Qp (.d (.tuple ds)) S) : Got (.tup ws) H Q := fun p H' s e => by
  obtain ⟨F', s', e', r'⟩ := RepA.tup h.rep s e
  exact k _ _ _ _ _ (Rep.withD r' (.tup e' (LvA.sm s' _ _ l))) s' q
theorem line_eq : (16777216 : Nat) = sizeLine := sizeLine_eq.symm
/-! ### + -/
def pAdd : P2 := fun S x y Q => match look S x, look S y with
  | .d (.int i), .d (.int j) => Q (.d (.int (i + j))) S
  | .d (.str a), .d (.str b) => (tl a).length + (tl b).length ≤ 16777216 ∧ Q (.d (.str (tx (tl a ++ tl b)))) S
  | .d (.tuple a), .d (.tuple b) => a.length + b.length ≤ 16777216 ∧ Q (.d (.tuple (a ++ b))) S
  | .l a, .l b => a.length + b.length ≤ 16777216 ∧ Q (.l (a ++ b)) S
  | .l a, .d (.list b) => a.length + b.length ≤ 16777216 ∧ Q (.l (a ++ b)) S
  | .d (.list a), .l b => a.length + b.length ≤ 16777216 ∧ Q (.l (a ++ b)) S
  | .d (.list a), .d (.list b) => a.length + b.length ≤ 16777216 ∧ Q (.l (a ++ b)) S
  | _, _ => False
theorem sim_add : Sim2 rAddG pAdd := by
  intro F G H σ S v u x y Qp Q r hp k
  obtain ⟨f1, r1⟩ := r.look0
  obtain ⟨f2, r2⟩ := r.look1
  unfold pAdd at hp
  have lists : ∀ {a b : List PyData}, asList (look S x) = some a → asList (look S y) = some b → a.length + b.length ≤ 16777216 ∧ Qp (.l (a ++ b)) S → rAddG v u H Q := fun {a b} ea eb h => by
    obtain ⟨p, ws, rfl, e1, l1⟩ := r1.lst r.lf ea
    obtain ⟨q, zs, rfl, e2, l2⟩ := r2.lst r.lf eb
    exact .inr (.inr (.inl ⟨p, q, ws, zs, rfl, rfl, e1, e2, by rw [l1.len, l2.len, ← line_eq]; exact h.1, k.lst r (LvA.appd l1 l2) h.2⟩))
  split at hp
  · rename_i i j e1 e2
    rw [e1] at r1
    rw [e2] at r2
    cases r1.dat
    cases r2.dat
    exact .inl ⟨i, j, rfl, rfl, k.dat r (.int _) hp⟩
  · rename_i a b e1 e2
    rw [e1] at r1
    rw [e2] at r2
    cases r1.dat
    cases r2.dat
    refine .inr (.inl ⟨a, b, rfl, rfl, by rw [len_tl, len_tl, ← line_eq]; exact hp.1, ?_⟩)
    rw [show a ++ b = tx (tl a ++ tl b) by rw [← tx_app, tx_tl, tx_tl]]
    exact k.dat r (.str _) hp.2
  · rename_i a b e1 e2
    rw [e1] at r1
    rw [e2] at r2
    obtain ⟨p, ws, rfl, e1, l1⟩ := r1.tup r.lf
    obtain ⟨q, zs, rfl, e2, l2⟩ := r2.tup r.lf
    exact .inr (.inr (.inr ⟨p, q, ws, zs, rfl, rfl, e1, e2, by rw [l1.len, l2.len, ← line_eq]; exact hp.1, k.tup r (LvA.appd l1 l2) hp.2⟩))
  · rename_i a b e1 e2; exact lists (by rw [e1]; rfl) (by rw [e2]; rfl) hp
  · rename_i a b e1 e2; exact lists (by rw [e1]; rfl) (by rw [e2]; rfl) hp
  · rename_i a b e1 e2; exact lists (by rw [e1]; rfl) (by rw [e2]; rfl) hp
  · rename_i a b e1 e2; exact lists (by rw [e1]; rfl) (by rw [e2]; rfl) hp
  · exact hp.elim
/-! ### ints -/
def asInt : PV → Option Int
  | .d (.int i) => some i
  | _ => none
/-- two ints, a condition, an answer -/
def pInt (C : Int → Int → Prop) (f : Int → Int → PyData) : P2 := fun S x y Q => match look S x, look S y with
  | .d (.int i), .d (.int j) => C i j ∧ Q (.d (f i j)) S
  | _, _ => False
def pInt0 (f : Int → Int → PyData) : P2 := fun S x y Q => match look S x, look S y with
  | .d (.int i), .d (.int j) => Q (.d (f i j)) S
  | _, _ => False
theorem sim_int {C : Int → Int → Prop} {g : Int → Int → V} {f : Int → Int → PyData} {r : R2} (hr : ∀ i j H Q, C i j → Q (g i j) H → r (.int i) (.int j) H Q) (hg : ∀ i j, Cv (g i j) (f i j)) : Sim2 r (pInt C f) := by
  intro F G H σ S v u x y Qp Q r hp k
  obtain ⟨f1, r1⟩ := r.look0
  obtain ⟨f2, r2⟩ := r.look1
  unfold pInt at hp
  split at hp
  · rename_i i j e1 e2
    rw [e1] at r1
    rw [e2] at r2
    cases r1.dat
    cases r2.dat
    exact hr i j H Q hp.1 (k.dat r (hg i j).lv hp.2)
  · exact hp.elim
theorem sim_int0 {g : Int → Int → V} {f : Int → Int → PyData} {r : R2} (hr : ∀ i j H Q, Q (g i j) H → r (.int i) (.int j) H Q) (hg : ∀ i j, Cv (g i j) (f i j)) : Sim2 r (pInt0 f) := by
  intro F G H σ S v u x y Qp Q r hp k
  obtain ⟨f1, r1⟩ := r.look0
  obtain ⟨f2, r2⟩ := r.look1
  unfold pInt0 at hp
  split at hp
  · rename_i i j e1 e2
    rw [e1] at r1
    rw [e2] at r2
    cases r1.dat
    cases r2.dat
    exact hr i j H Q (k.dat r (hg i j).lv hp)
  · exact hp.elim
abbrev pSub : P2 := pInt0 fun i j => .int (i - j)
theorem sim_sub : Sim2 (rI0 fun i j => .int (i - j)) pSub := sim_int0 (fun i j H Q q => ⟨i, j, rfl, rfl, q⟩) fun _ _ => .int _
abbrev pMod : P2 := pInt (fun _ j => j ≠ 0) fun i j => .int (i.fmod j)
theorem sim_mod : Sim2 (rI (fun _ j => j ≠ 0) fun i j => .int (i.fmod j)) pMod := sim_int (fun i j H Q c q => ⟨i, j, rfl, rfl, c, q⟩) fun _ _ => .int _
abbrev pDiv : P2 := pInt CDivN fun i j => .int (i.fdiv j)
theorem sim_div : Sim2 (rI CDivN fun i j => .int (i.fdiv j)) pDiv := sim_int (fun i j H Q c q => ⟨i, j, rfl, rfl, c, q⟩) fun _ _ => .int _
abbrev pPow : P2 := pInt CPow fun i j => .int (i ^ j.toNat)
theorem sim_pow : Sim2 (rI CPow fun i j => .int (i ^ j.toNat)) pPow := sim_int (fun i j H Q c q => ⟨i, j, rfl, rfl, c, q⟩) fun _ _ => .int _
end
end Px

namespace Px
open PySem PySem.Spec PyProof.Rows L2 Fo TL
section
variable {F F' F0 G G' H H' : Hp} {σ σ' : L2.St} {S : List PV} {v u : V} {vs us : List V} {xs ys : List PV} {x y : PV} {Qp : KP} {Q : VK}
/-! ### own lists in hand become data -/
def frz1 (S : List PV) : PV → PV × List PV
  | .l ds => (.d (.list ds), S)
  | .al i => match S.getD i .un with
    | .l ds => (.d (.list ds), S.set i (.d (.list ds)))
    | .d z => (.d z, S)
    | _ => (.al i, S)
  | x => (x, S)
def frzA : List PV → List PV → List PV × List PV
  | S, [] => ([], S)
  | S, x :: xs => ((frz1 S x).1 :: (frzA (frz1 S x).2 xs).1, (frzA (frz1 S x).2 xs).2)
theorem RepA.frz (h : RepA F G H σ S (v :: vs) (x :: xs)) : ∃ F', Same F F' ∧ RepA F' G H σ (frz1 S x).2 (v :: vs) ((frz1 S x).1 :: xs) := by
  cases x with
  | l ds =>
    obtain ⟨p, ws, rfl, _, _, sf, r⟩ := h.freeze
    exact ⟨_, sf, r⟩
  | al i =>
    have ev : σ[i]? = some (some v) := by
      obtain ⟨f, r⟩ := h.hd
      cases r with
      | al e => exact e
    show ∃ F', Same F F' ∧ RepA F' G H σ (match S.getD i .un with | .l ds => (PV.d (.list ds), S.set i (.d (.list ds))) | .d z => (.d z, S) | _ => (.al i, S)).2 (v :: vs) ((match S.getD i .un with | .l ds => (PV.d (.list ds), S.set i (.d (.list ds))) | .d z => (.d z, S) | _ => (.al i, S)).1 :: xs)
    have hm := h.moved
    cases es : S.getD i .un with
    | l ds =>
      rw [es] at hm
      obtain ⟨p, ws, rfl, _, _, sf, r⟩ := hm.freeze
      have r4 := r.back ev
      rw [List.set_set] at r4
      exact ⟨_, sf, r4⟩
    | d z =>
      rw [es] at hm
      have r4 := hm.back ev
      rw [List.set_set] at r4
      have eS : S.set i (.d z) = S := by
        refine List.ext_getElem? fun j => ?_
        by_cases e : i = j
        · subst e
          by_cases hi : i < S.length
          · rw [List.getElem?_set_self hi, ← es, List.getD_eq_getElem?_getD, List.getElem?_eq_getElem hi]
            rfl
          · rw [List.getElem?_eq_none (by rw [List.length_set]; omega), List.getElem?_eq_none (by omega)]
        · rw [List.getElem?_set_ne e]
      rw [eS] at r4
      exact ⟨F, Same.refl _, r4⟩
    | _ => exact ⟨F, Same.refl _, h⟩
  | _ => exact ⟨F, Same.refl _, h⟩
theorem RepA.frzN : ∀ {xs : List PV} {vs dv : List V} {done S : List PV} {F : Hp}, vs.length = xs.length → RepA F G H σ S (vs ++ dv) (xs ++ done) → ∃ F', Same F F' ∧ RepA F' G H σ (frzA S xs).2 (dv ++ vs) (done ++ (frzA S xs).1)
  | [], [], dv, done, S, F, _, h => ⟨F, Same.refl _, by
    have e0 : (frzA S []).1 = [] := rfl
    rw [e0, List.append_nil, List.append_nil]
    exact h⟩
  | [], _ :: _, _, _, _, _, e, _ => nomatch e
  | _ :: _, [], _, _, _, _, e, _ => nomatch e
  | x :: xs, v :: vs, dv, done, S, F, e, h => by
    obtain ⟨F1, s1, h1⟩ := RepA.frz (vs := vs ++ dv) (xs := xs ++ done) h
    have h2 := RepA.turn (vs := [v]) (xs := [(frz1 S x).1]) (us := vs ++ dv) (ys := xs ++ done) h1 rfl
    rw [List.append_assoc, List.append_assoc] at h2
    obtain ⟨F2, s2, h3⟩ := RepA.frzN (Nat.succ.inj e) h2
    rw [List.append_assoc, List.append_assoc] at h3
    exact ⟨F2, s1.trans s2, h3⟩
theorem RepA.frzs (h : RepA F G H σ S vs xs) : ∃ F', Same F F' ∧ RepA F' G H σ (frzA S xs).2 vs (frzA S xs).1 := by
  have hl : vs.length = xs.length := by obtain ⟨_, _, r⟩ := h; exact r.vl.len
  have := RepA.frzN (dv := []) (done := []) hl (by rw [List.append_nil, List.append_nil]; exact h)
  rw [List.nil_append, List.nil_append] at this
  exact this
/-- all of them data -/
def allD : List PV → Option (List PyData)
  | [] => some []
  | .d x :: r => match allD r with
    | some ds => some (x :: ds)
    | none => none
  | _ :: _ => none
theorem allD_lv : ∀ {xs : List PV} {vs : List V} {f : List Addr} {ds : List PyData}, RVs σ F H vs xs f → allD xs = some ds → LvA F vs ds
  | [], _, _, _, h, e => by cases h; cases e; exact .nil
  | x :: xs, _, _, ds, h, e => by
    cases h with
    | cons h1 h2 =>
      cases x with
      | d z =>
        unfold allD at e
        cases q : allD xs with
        | none => rw [q] at e; cases e
        | some es =>
          rw [q] at e
          cases e
          cases h1 with
          | d h1 => exact .cons h1 (allD_lv h2 q)
      | _ => cases e
theorem RepA.datA {ds : List PyData} (h : RepA F G H σ S vs xs) (e : allD xs = some ds) : LvA F vs ds := by
  obtain ⟨_, _, h⟩ := h
  exact allD_lv h.vl e
/-! ### displays -/
/-- (a, b, ..): data, or a pack of own things -/
def tupX (t : TXA) : TX := fun S Q => t S fun xs S1 => xs.length ≤ 16777216 ∧ match allD xs with
  | some ds => Q (.d (.tuple ds)) S1
  | none => Q (.t (takeX S1 xs).1) (takeX S1 xs).2
def lstX (t : TXA) : TX := fun S Q => t S fun xs S1 => xs.length ≤ 16777216 ∧ ∃ ds, allD (frzA S1 xs).1 = some ds ∧ Q (.l ds) (frzA S1 xs).2
variable {X : Cx} {e : Expr} {tr : TXA}
theorem x_tup (h : PE X e (tTupN (rwA tr))) : PE X e (rw (tupX tr)) := PE_imp h fun σ H Q q => by
  obtain ⟨F, G, S, Qp, hr, ht, k⟩ := q
  refine ⟨F, G, S, _, hr, ht, fun vs xs S1 F1 H1 r1 s1 h1 => ?_⟩
  obtain ⟨few, h1⟩ := h1
  have hl : vs.length = xs.length := by obtain ⟨_, _, r⟩ := r1; exact r.vl.len
  refine ⟨by rw [hl, ← line_eq]; exact few, ?_⟩
  cases ea : allD xs with
  | some ds =>
    rw [ea] at h1
    exact ((k.up s1).tup r1 (r1.datA ea) h1).new
  | none =>
    rw [ea] at h1
    intro p H' n s e
    have hm := RepA.takeAll (dv := []) (done := []) hl (by rw [List.append_nil, List.append_nil]; exact r1) (fun _ m => nomatch m)
    rw [List.nil_append, List.nil_append] at hm
    obtain ⟨F2, s2, e2, r2⟩ := RepA.tup hm.1 s e
    obtain ⟨f, fs, r2⟩ := r2
    refine k _ _ _ _ _ ⟨f ++ [], fs, r2.lf, r2.lg, r2.sl, RVs.cons (.t e2 (r2.vl.others hm.2)) .nil, by rw [List.append_nil]; exact r2.nd, by rw [List.append_nil]; exact r2.off, r2.dj⟩ (s1.trans s2) h1
theorem x_lst (h : PE X e (tLstN (rwA tr))) : PE X e (rw (lstX tr)) := PE_imp h fun σ H Q q => by
  obtain ⟨F, G, S, Qp, hr, ht, k⟩ := q
  refine ⟨F, G, S, _, hr, ht, fun vs xs S1 F1 H1 r1 s1 h1 => ?_⟩
  obtain ⟨few, ds, ed, h1⟩ := h1
  have hl : vs.length = xs.length := by obtain ⟨_, _, r⟩ := r1; exact r.vl.len
  obtain ⟨F2, s2, r2⟩ := r1.frzs
  exact ⟨by rw [hl, ← line_eq]; exact few, (k.up (s1.trans s2)).lst r2 (r2.datA ed) h1⟩
/-! ### * -/
def pMul : P2 := fun S x y Q => match look S x, look S y with
  | .d (.int i), .d (.int j) => CMul i j ∧ Q (.d (.int (i * j))) S
  | .l a, .d (.int j) => 0 ≤ j ∧ j ≤ 50000 ∧ a.length * j.toNat ≤ 50000 ∧ Q (.l (List.replicate j.toNat a).flatten) S
  | .d (.tuple a), .d (.int j) => a ≠ [] ∧ 1 ≤ j ∧ j ≤ 1000 ∧ a.length ≤ 1000 ∧ Q (.d (.tuple (List.replicate j.toNat a).flatten)) S
  | _, _ => False
theorem LvA.reps {F : Hp} {ds : List PyData} {us : List V} (h : LvA F us ds) : ∀ n : Nat, LvA F (List.replicate n us).flatten (List.replicate n ds).flatten
  | 0 => .nil
  | n + 1 => LvA.appd h (LvA.reps h n)
def rMulP : R2 := fun x y H Q => rMulN x y H Q ∨ rMulT x y H Q
theorem op_mulP {X : Cx} : OpR X (binaryOp .Mult) rMulP := op_mulN.or op_mulT
theorem sim_mul : Sim2 rMulP pMul := by
  intro F G H σ S v u x y Qp Q r hp k
  obtain ⟨f1, r1⟩ := r.look0
  obtain ⟨f2, r2⟩ := r.look1
  unfold pMul at hp
  split at hp
  · rename_i i j e1 e2
    rw [e1] at r1
    rw [e2] at r2
    cases r1.dat
    cases r2.dat
    exact .inl (.inl ⟨i, j, rfl, rfl, hp.1, k.dat r (.int _) hp.2⟩)
  · rename_i a j e1 e2
    obtain ⟨p, ws, rfl, g1, l1⟩ := r1.lst r.lf (by rw [e1]; rfl)
    rw [e2] at r2
    cases r2.dat
    obtain ⟨h1, h2, h3, h4⟩ := hp
    obtain ⟨n, rfl⟩ : ∃ n : Nat, j = (n : Int) := ⟨j.toNat, by omega⟩
    rw [Int.toNat_natCast] at h3 h4
    exact .inl (.inr ⟨p, n, ws, rfl, rfl, g1, by omega, by rw [l1.len]; exact h3, k.lst r (LvA.reps l1 n) h4⟩)
  · rename_i a j e1 e2
    rw [e1] at r1
    rw [e2] at r2
    cases r2.dat
    obtain ⟨p, ws, rfl, g1, l1⟩ := r1.tup r.lf
    obtain ⟨h0, h1, h2, h3, h4⟩ := hp
    refine .inr ⟨p, j, ws, rfl, rfl, g1, fun z => h0 ?_, h1, h2, by rw [l1.len]; exact h3, k.tup r (LvA.reps l1 _) h4⟩
    have := l1.len
    rw [z] at this
    exact List.length_eq_zero_iff.mp this.symm
  · exact hp.elim
/-! ### comparisons -/
def pCmp (fi : Int → Int → Bool) (fs : Cs → Cs → Bool) : P2 := fun S x y Q => match look S x, look S y with
  | .d (.int i), .d (.int j) => Q (.d (.bool (fi i j))) S
  | .d (.str a), .d (.str b) => Q (.d (.bool (fs (tl a) (tl b)))) S
  | _, _ => False
def rCmpP (fi : Int → Int → Bool) (fs : Cs → Cs → Bool) : R2 := fun x y H Q => (∃ i j, x = .int i ∧ y = .int j ∧ Q (.bl (fi i j)) H) ∨ ∃ a b : Str, x = .str a ∧ y = .str b ∧ Q (.bl (fs (tl a) (tl b))) H
theorem sim_cmp {fi : Int → Int → Bool} {fs : Cs → Cs → Bool} : Sim2 (rCmpP fi fs) (pCmp fi fs) := by
  intro F G H σ S v u x y Qp Q r hp k
  obtain ⟨f1, r1⟩ := r.look0
  obtain ⟨f2, r2⟩ := r.look1
  unfold pCmp at hp
  split at hp
  · rename_i i j e1 e2
    rw [e1] at r1
    rw [e2] at r2
    cases r1.dat
    cases r2.dat
    exact .inl ⟨i, j, rfl, rfl, k.dat r (.bl _) hp⟩
  · rename_i i j e1 e2
    rw [e1] at r1
    rw [e2] at r2
    cases r1.dat
    cases r2.dat
    exact .inr ⟨i, j, rfl, rfl, k.dat r (.bl _) hp⟩
  · exact hp.elim
abbrev pLt := pCmp (fun i j => decide (i < j)) fun a b => decide (a < b)
abbrev pLe := pCmp (fun i j => decide (i ≤ j)) fun a b => !decide (b < a)
abbrev pGt := pCmp (fun i j => decide (j < i)) fun a b => decide (b < a)
abbrev pGe := pCmp (fun i j => decide (j ≤ i)) fun a b => !decide (a < b)
theorem op_ltP {X : Cx} : OpR X (compareOp .Lt) (rCmpP (fun i j => decide (i < j)) fun a b => decide (a < b)) := OpR.or op_lt op_lt_str
theorem op_leP {X : Cx} : OpR X (compareOp .LtE) (rCmpP (fun i j => decide (i ≤ j)) fun a b => !decide (b < a)) := OpR.or op_le op_le_str
theorem op_gtP {X : Cx} : OpR X (compareOp .Gt) (rCmpP (fun i j => decide (j < i)) fun a b => decide (b < a)) := OpR.or op_gt op_gt_str
theorem op_geP {X : Cx} : OpR X (compareOp .GtE) (rCmpP (fun i j => decide (j ≤ i)) fun a b => !decide (a < b)) := OpR.or op_ge op_ge_str
/-- what == compares -/
def asD : PV → Option PyData
  | .d x => some x
  | .l ds => some (.list ds)
  | _ => none
/-- == of flat data of like kinds -/
def eqP : PyData → PyData → Option Bool
  | .int i, .int j => some (decide (i = j))
  | .str a, .str b => some (decide (tl a = tl b))
  | .bool a, .bool b => some (a == b)
  | .none, .none => some true
  | _, _ => none
def pEqB (neg : Bool) : P2 := fun S x y Q => match asD (look S x), asD (look S y) with
  | some a, some b => match eqP a b with
    | some k => Q (.d (.bool (neg ^^ k))) S
    | none => SeqAt.shaped a = true ∧ SeqAt.shaped b = true ∧ Q (.d (.bool (neg ^^ PyData.eqv a b))) S
  | _, _ => False
abbrev pEq := pEqB false
abbrev pNe := pEqB true
mutual
theorem lv_dp {K : PySem.W.Frag} {H : Hp} : ∀ (d : PyData) (v : V), d.hasDict = false → Lv H v d → Dp K H v d
  | .none, _, _, h => by cases h; exact .non
  | .bool b, _, _, h => by cases h; exact .bl b
  | .int i, _, _, h => by cases h; exact .int i
  | .str x, _, _, h => by cases h; exact .str x
  | .tuple ds, _, e, h => by
    cases h with
    | tup h1 h2 => exact .tup (SqT.of h1) (lva_dp ds _ (by simpa only [PyData.hasDict] using e) h2)
  | .list ds, _, e, h => by
    cases h with
    | lst h1 h2 => exact .lst (SqL.of h1) (lva_dp ds _ (by simpa only [PyData.hasDict] using e) h2)
  | .dict _, _, e, _ => by simp only [PyData.hasDict] at e; cases e
theorem lva_dp {K : PySem.W.Frag} {H : Hp} : ∀ (ds : List PyData) (vs : List V), PyData.hasDictAll ds = false → LvA H vs ds → DpAll K H vs ds
  | [], _, _, h => by cases h; exact .nil
  | d :: ds, _, e, h => by
    cases h with
    | cons h1 h2 =>
      have e : d.hasDict = false ∧ PyData.hasDictAll ds = false := by simpa only [PyData.hasDictAll, Bool.or_eq_false_iff] using e
      exact .cons (lv_dp d _ e.1 h1) (lva_dp ds _ e.2 h2)
end
theorem no_dict {d : PyData} (h : SeqAt.shaped d = true) : d.hasDict = false := by
  have h : (d.canLay0 && decide (d.depth ≤ 64)) = true := h
  rw [Bool.and_eq_true] at h
  exact PyData.hasDict_of_canLay d h.1
theorem eqP_flat {a b : PyData} {k : Bool} (e : eqP a b = some k) : a.hasDict = false ∧ b.hasDict = false := by
  cases a <;> cases b <;> first | (cases e; done) | exact ⟨by simp only [PyData.hasDict], by simp only [PyData.hasDict]⟩
theorem RV.dp {K : PySem.W.Frag} {f : List Addr} {a : PyData} (r : RV [] F H v x f) (s : Same F H) (e : asD x = some a) (nd : a.hasDict = false) : Dp K H v a := by
  have go : ∀ (d : PyData) (v : V), d.hasDict = false → Lv F v d → Dp K H v d := fun d v z h => lv_dp d v z (Lv.sm s _ _ h)
  cases r with
  | d h => cases e; exact go _ _ nd h
  | l h1 h2 =>
    cases e
    exact .lst (SqL.of h1) (lva_dp _ _ (by simpa only [PyData.hasDict] using nd) (LvA.sm s _ _ h2))
  | _ => cases e
theorem sim_eq {K : PySem.W.Frag} : Sim2 (rEqG K) pEq := by
  intro F G H σ S v u x y Qp Q r hp k
  obtain ⟨f1, r1⟩ := r.look0
  obtain ⟨f2, r2⟩ := r.look1
  unfold pEq pEqB at hp
  split at hp
  · rename_i a b e1 e2
    split at hp
    · rename_i k' e
      have d1 := r1.dp (K := K) r.lf e1 (eqP_flat e).1
      have d2 := r2.dp (K := K) r.lf e2 (eqP_flat e).2
      have fin : ∀ c : Bool, c = k' → Q (.bl c) H := fun c z => by
        subst z
        rw [Bool.false_xor] at hp
        exact k.dat r (.bl _) hp
      cases d1 <;> cases d2 <;> cases e
      · exact .inl ⟨rfl, fin _ (decide_eq_true rfl)⟩
      · exact .inl ⟨rfl, fin _ (by rw [dec_bl])⟩
      · exact .inl ⟨rfl, fin _ (by rw [dec_int, Bool.beq_eq_decide_eq])⟩
      · rename_i a b
        refine .inl ⟨rfl, fin _ ?_⟩
        by_cases z : a = b
        · subst z
          rw [decide_eq_true rfl, decide_eq_true rfl]
        · rw [decide_eq_false (fun q => z (V.str.inj q)), decide_eq_false (fun q => z (ext_tl q))]
    · rw [Bool.false_xor] at hp
      exact .inr ⟨a, b, r1.dp (K := K) r.lf e1 (no_dict hp.1), r2.dp (K := K) r.lf e2 (no_dict hp.2.1), hp.1, hp.2.1, k.dat r (.bl _) hp.2.2⟩
  · exact hp.elim
theorem sim_ne {K : PySem.W.Frag} : Sim2 (rNeG K) pNe := by
  intro F G H σ S v u x y Qp Q r hp k
  obtain ⟨f1, r1⟩ := r.look0
  obtain ⟨f2, r2⟩ := r.look1
  unfold pNe pEqB at hp
  split at hp
  · rename_i a b e1 e2
    split at hp
    · rename_i k' e
      have d1 := r1.dp (K := K) r.lf e1 (eqP_flat e).1
      have d2 := r2.dp (K := K) r.lf e2 (eqP_flat e).2
      have fin : ∀ c : Bool, (!c) = !k' → Q (.bl (!c)) H := fun c z => by
        rw [z]
        rw [Bool.true_xor] at hp
        exact k.dat r (.bl _) hp
      cases d1 <;> cases d2 <;> cases e
      · exact .inl ⟨rfl, fin _ (by rw [decide_eq_true rfl])⟩
      · exact .inl ⟨rfl, fin _ (by rw [dec_bl])⟩
      · exact .inl ⟨rfl, fin _ (by rw [dec_int, Bool.beq_eq_decide_eq])⟩
      · rename_i a b
        refine .inl ⟨rfl, fin _ ?_⟩
        by_cases z : a = b
        · subst z
          rw [decide_eq_true rfl, decide_eq_true rfl]
        · rw [decide_eq_false (fun q => z (V.str.inj q)), decide_eq_false (fun q => z (ext_tl q))]
    · rw [Bool.true_xor] at hp
      exact .inr ⟨a, b, r1.dp (K := K) r.lf e1 (no_dict hp.1), r2.dp (K := K) r.lf e2 (no_dict hp.2.1), hp.1, hp.2.1, k.dat r (.bl _) hp.2.2⟩
  · exact hp.elim
/-! is None, is True, in -/
def isNon : PV → Option Bool
  | .d .none => some true
  | .d _ => some false
  | .l _ => some false
  | .t _ => some false
  | _ => none
def pIsN (neg : Bool) : P2 := fun S x y Q => match look S y with
  | .d .none => ∃ b, isNon (look S x) = some b ∧ Q (.d (.bool (neg ^^ b))) S
  | _ => False
theorem RV.non {f : List Addr} {b : Bool} (r : RV [] F H v x f) (e : isNon x = some b) : decide (v = .non) = b := by
  cases r with
  | d h => cases h <;> cases e <;> rfl
  | l h1 h2 => cases e; rfl
  | t h1 h2 => cases e; rfl
  | _ => cases e
theorem sim_isN : Sim2 (fun x y H Q => y = .non ∧ Q (.bl (decide (x = .non))) H) (pIsN false) := by
  intro F G H σ S v u x y Qp Q r hp k
  obtain ⟨f1, r1⟩ := r.look0
  obtain ⟨f2, r2⟩ := r.look1
  unfold pIsN at hp
  split at hp
  · rename_i e2
    rw [e2] at r2
    cases r2.dat
    obtain ⟨b, eb, hp⟩ := hp
    rw [Bool.false_xor] at hp
    rw [r1.non eb]
    exact ⟨rfl, k.dat r (.bl _) hp⟩
  · exact hp.elim
theorem sim_notN : Sim2 (fun x y H Q => y = .non ∧ Q (.bl (!decide (x = .non))) H) (pIsN true) := by
  intro F G H σ S v u x y Qp Q r hp k
  obtain ⟨f1, r1⟩ := r.look0
  obtain ⟨f2, r2⟩ := r.look1
  unfold pIsN at hp
  split at hp
  · rename_i e2
    rw [e2] at r2
    cases r2.dat
    obtain ⟨b, eb, hp⟩ := hp
    rw [Bool.true_xor] at hp
    rw [r1.non eb]
    exact ⟨rfl, k.dat r (.bl _) hp⟩
  · exact hp.elim
def pIsB (neg : Bool) : P2 := fun S x y Q => match look S x, look S y with
  | .d (.bool a), .d (.bool b) => Q (.d (.bool (neg ^^ (a == b)))) S
  | _, _ => False
theorem sim_isB : Sim2 rIsB (pIsB false) := by
  intro F G H σ S v u x y Qp Q r hp k
  obtain ⟨f1, r1⟩ := r.look0
  obtain ⟨f2, r2⟩ := r.look1
  unfold pIsB at hp
  split at hp
  · rename_i a b e1 e2
    rw [e1] at r1
    rw [e2] at r2
    cases r1.dat
    cases r2.dat
    rw [Bool.false_xor, Bool.beq_eq_decide_eq] at hp
    exact ⟨a, b, rfl, rfl, k.dat r (.bl _) hp⟩
  · exact hp.elim
theorem sim_notB : Sim2 rNotB (pIsB true) := by
  intro F G H σ S v u x y Qp Q r hp k
  obtain ⟨f1, r1⟩ := r.look0
  obtain ⟨f2, r2⟩ := r.look1
  unfold pIsB at hp
  split at hp
  · rename_i a b e1 e2
    rw [e1] at r1
    rw [e2] at r2
    cases r1.dat
    cases r2.dat
    rw [Bool.true_xor, Bool.beq_eq_decide_eq] at hp
    exact ⟨a, b, rfl, rfl, k.dat r (.bl _) hp⟩
  · exact hp.elim
/-- flat data -/
def flatD : PyData → Bool
  | .none => true
  | .bool _ => true
  | .int _ => true
  | .str _ => true
  | _ => false
theorem flat_lv {d : PyData} (h : Lv F v d) (e : flatD d = true) : flatV v = true := by cases h <;> first | rfl | cases e
theorem eqv_lv {d z : PyData} (h : Lv F v d) (k : Lv F u z) (e : flatD d = true) (e' : flatD z = true) : eqV v u = PyData.eqv d z := by
  cases h <;> first | cases e; done | (cases k <;> first | (cases e'; done) | simp [eqV, PyData.eqv])
def inD (x : PyData) (ds : List PyData) : Bool := ds.any fun z => PyData.eqv z x
theorem inV_lv {d : PyData} (h : Lv F v d) (e : flatD d = true) : ∀ {ds : List PyData} {ws : List V}, LvA F ws ds → ds.all flatD = true → inV v ws = inD d ds ∧ ws.all flatV = true
  | [], _, l, _ => by cases l; exact ⟨rfl, rfl⟩
  | z :: ds, _, l, f => by
    cases l with
    | cons l1 l2 =>
      rw [List.all_cons, Bool.and_eq_true] at f
      obtain ⟨i1, i2⟩ := inV_lv h e l2 f.2
      refine ⟨?_, ?_⟩
      · show (eqV _ v || inV v _) = (PyData.eqv z d || inD d ds)
        rw [i1, eqv_lv l1 h f.1 e]
      · rw [List.all_cons, i2, flat_lv l1 f.1]
        rfl
def asSeq : PV → Option (List PyData)
  | .l a => some a
  | .d (.list a) => some a
  | .d (.tuple a) => some a
  | _ => none
def pIn (neg : Bool) : P2 := fun S x y Q => match look S y with
  | .d (.str z) => ∃ c, look S x = .d (.str (tx [c])) ∧ Q (.d (.bool (neg ^^ decide (c ∈ tl z)))) S
  | w => ∃ a ds, look S x = .d a ∧ asSeq w = some ds ∧ flatD a = true ∧ ds.all flatD = true ∧ Q (.d (.bool (neg ^^ inD a ds))) S
theorem RV.seq {K : PySem.W.Frag} {f : List Addr} {a : List PyData} (r : RV [] F H v x f) (s : Same F H) (e : asSeq x = some a) : ∃ p ws, v = .ref p ∧ (SqL K H p ws ∨ SqT K H p ws) ∧ LvA F ws a := by
  cases r with
  | l h1 h2 => cases e; exact ⟨_, _, rfl, .inl (SqL.of h1), h2⟩
  | d h =>
    cases h with
    | lst h1 h2 => cases e; exact ⟨_, _, rfl, .inl (SqL.of (s _ _ h1)), h2⟩
    | tup h1 h2 => cases e; exact ⟨_, _, rfl, .inr (SqT.of (s _ _ h1)), h2⟩
    | _ => cases e
  | _ => cases e
theorem sim_in {K : PySem.W.Frag} : Sim2 (rInG K) (pIn false) := by
  intro F G H σ S v u x y Qp Q r hp k
  obtain ⟨f1, r1⟩ := r.look0
  obtain ⟨f2, r2⟩ := r.look1
  unfold pIn at hp
  split at hp
  · rename_i z e2
    obtain ⟨c, e1, hp⟩ := hp
    rw [e1] at r1
    rw [e2] at r2
    cases r1.dat
    cases r2.dat
    rw [Bool.false_xor] at hp
    exact .inl ⟨c, z, rfl, rfl, k.dat r (.bl _) hp⟩
  · obtain ⟨a, ds, e1, e2, f1, f2, hp⟩ := hp
    rw [e1] at r1
    obtain ⟨p, ws, rfl, hs, l⟩ := r2.seq (K := K) r.lf e2
    obtain ⟨i1, i2⟩ := inV_lv r1.dat f1 l f2
    rw [Bool.false_xor] at hp
    refine .inr ⟨p, ws, rfl, hs, flat_lv r1.dat f1, i2, ?_⟩
    rw [if_neg Bool.false_ne_true, i1]
    exact k.dat r (.bl _) hp
theorem sim_nin {K : PySem.W.Frag} : Sim2 (rNinG K) (pIn true) := by
  intro F G H σ S v u x y Qp Q r hp k
  obtain ⟨f1, r1⟩ := r.look0
  obtain ⟨f2, r2⟩ := r.look1
  unfold pIn at hp
  split at hp
  · rename_i z e2
    obtain ⟨c, e1, hp⟩ := hp
    rw [e1] at r1
    rw [e2] at r2
    cases r1.dat
    cases r2.dat
    rw [Bool.true_xor] at hp
    exact .inl ⟨c, z, rfl, rfl, k.dat r (.bl _) hp⟩
  · obtain ⟨a, ds, e1, e2, f1, f2, hp⟩ := hp
    rw [e1] at r1
    obtain ⟨p, ws, rfl, hs, l⟩ := r2.seq (K := K) r.lf e2
    obtain ⟨i1, i2⟩ := inV_lv r1.dat f1 l f2
    rw [Bool.true_xor] at hp
    refine .inr ⟨p, ws, rfl, hs, flat_lv r1.dat f1, i2, ?_⟩
    rw [if_pos rfl, i1]
    exact k.dat r (.bl _) hp
/-! a chain -/
def chainX (p p' : P2) (ta tb tc : TX) : TX := fun S Q => ta S fun x S1 => tb S1 fun y S2 => ∃ z, y = .d z ∧ p S2 x y fun w S3 => ∃ b, isTr w = some b ∧ pick b (tc S3 fun w' S4 => p' S4 (.d z) w' Q) (Q (.d (.bool false)) S3)
theorem chain_sim {r r' : R2} {p p' : P2} (sim : Sim2 r p) (sim' : Sim2 r' p') {ta tb tc : TX} {σ : L2.St} {H : Hp} {Q : VK} (q : rw (chainX p p' ta tb tc) σ H Q) : tChain r r' (rw ta) (rw tb) (rw tc) σ H Q := by
  obtain ⟨F, G, S, Qp, hr, ht, k⟩ := q
  refine ⟨F, G, S, _, hr, ht, fun v x S1 F1 H1 r1 s1 h1 => ?_⟩
  obtain ⟨G1, sg, r2, more⟩ := r1.aside
  refine ⟨F1, G1, S1, _, r2, h1, fun u y S2 F2 H2 r3 s2 h2 => ?_⟩
  have r4 := more _ _ _ _ _ r3 s2
  obtain ⟨z, rfl, h2⟩ := h2
  have dz := r4.tl.dat
  refine sim _ _ _ _ _ _ _ _ _ _ _ r4 h2 (fun w w' S3 F3 H3 r5 s3 h3 => ?_)
  obtain ⟨b, eb, h3⟩ := h3
  cases tr_dat eb
  cases r5.dat
  refine ⟨b, rfl, ?_⟩
  have s13 := (s1.trans s2).trans s3
  cases b with
  | true =>
    rw [if_pos rfl]
    have r6 := Rep.withD r5.rep (Lv.sm s3 _ _ dz)
    obtain ⟨G2, sg2, r7, more2⟩ := r6.aside
    exact ⟨F3, G2, S3, _, r7, h3, fun w2 y2 S4 F4 H4 r8 s4 h4 => sim' _ _ _ _ _ _ _ _ _ _ _ (more2 _ _ _ _ _ r8 s4) h4 (k.up (s13.trans s4))⟩
  | false =>
    rw [if_neg Bool.false_ne_true]
    exact k _ _ _ _ _ r5 s13 h3
theorem x_chain {r r' : R2} {p p' : P2} (sim : Sim2 r p) (sim' : Sim2 r' p') {ta tb tc : TX} (h : PE X e (tChain r r' (rw ta) (rw tb) (rw tc))) : PE X e (rw (chainX p p' ta tb tc)) := PE_imp h fun _ _ _ q => chain_sim sim sim' q
theorem xt_chain {r r' : R2} {p p' : P2} (sim : Sim2 r p) (sim' : Sim2 r' p') {ta tb tc : TX} (h : PT X e (tTest (tChain r r' (rw ta) (rw tb) (rw tc)))) : PT X e (rwT (testX (chainX p p' ta tb tc))) := PT_imp h fun _ _ _ q => chain_sim sim sim' (test_sim q)
end
end Px

namespace Px
open PySem PySem.Spec PyProof.Rows L2 Fo TL
section
variable {F F' F0 G G' H H' : Hp} {σ σ' : L2.St} {S : List PV} {v u : V} {vs us : List V} {xs ys : List PV} {x y : PV} {Qp : KP} {Q : VK} {X : Cx} {e : Expr} {tr : TXA} {K : PySem.W.Frag}
/-! ### subscripts -/
theorem at_lv {ds : List PyData} {ws : List V} {i : Int} {z : PyData} (l : LvA F ws ds) (e : atI ds i = some z) : ∃ w, atI ws i = some w ∧ Lv F w z := by
  unfold atI at e ⊢
  rw [l.len]
  cases h : ixN ds.length i with
  | none => rw [h] at e; cases e
  | some j =>
    rw [h] at e
    exact LvA.nthd l e
def pIx : P2 := fun S x y Q => match look S x, look S y with
  | .d (.tuple a), .d (.int i) => ∃ z, atI a i = some z ∧ Q (.d z) S
  | .d (.list a), .d (.int i) => ∃ z, atI a i = some z ∧ Q (.d z) S
  | .l a, .d (.int i) => ∃ z, atI a i = some z ∧ Q (.d z) S
  | .d (.str a), .d (.int i) => ∃ c, atI (tl a) i = some c ∧ (tl a).length ≤ 16777216 ∧ Q (.d (.str (tx [c]))) S
  | _, _ => False
theorem sim_ix : Sim2 (rIx K) pIx := by
  intro F G H σ S v u x y Qp Q r hp k
  obtain ⟨f1, r1⟩ := r.look0
  obtain ⟨f2, r2⟩ := r.look1
  unfold pIx at hp
  have lst : ∀ {a : List PyData} {i : Int}, asList (look S x) = some a → look S y = .d (.int i) → (∃ z, atI a i = some z ∧ Qp (.d z) S) → rIx K v u H Q := fun {a i} ea ei h => by
    obtain ⟨z, ez, h⟩ := h
    obtain ⟨p, ws, rfl, g1, l1⟩ := r1.lst r.lf ea
    rw [ei] at r2
    cases r2.dat
    obtain ⟨w, ew, lw⟩ := at_lv l1 ez
    exact .inl ⟨p, ws, i, w, rfl, rfl, SqL.of g1, ew, k.dat r lw h⟩
  split at hp
  · rename_i a i e1 e2
    rw [e1] at r1
    rw [e2] at r2
    cases r2.dat
    obtain ⟨z, ez, h⟩ := hp
    obtain ⟨p, ws, rfl, g1, l1⟩ := r1.tup r.lf
    obtain ⟨w, ew, lw⟩ := at_lv l1 ez
    exact .inr (.inl ⟨p, ws, i, w, rfl, rfl, SqT.of g1, ew, k.dat r lw h⟩)
  · rename_i a i e1 e2; exact lst (by rw [e1]; rfl) e2 hp
  · rename_i a i e1 e2; exact lst (by rw [e1]; rfl) e2 hp
  · rename_i a i e1 e2
    rw [e1] at r1
    rw [e2] at r2
    cases r1.dat
    cases r2.dat
    obtain ⟨c, ec, few, h⟩ := hp
    exact .inr (.inr ⟨a, i, c, rfl, rfl, by rw [len_tl, ← line_eq]; exact few, ec, k.dat r (.str (tx [c])) h⟩)
  · exact hp.elim
theorem x_ix {ta tb : TX} (h : PE X e (tOp (rIx K) (rw ta) (rw tb))) : PE X e (rw (binX pIx ta tb)) := PE_imp h fun _ _ _ q => bin_sim sim_ix q
/-! slices -/
abbrev TXO := List PV → (Option Int → List PV → Prop) → Prop
def rwO (t : TXO) : TO := fun σ H Q => ∃ F G S Qp, Rep F G H σ S ∧ t S Qp ∧ ∀ o S' F' H', Rep F' G H' σ S' → Same F F' → Qp o S' → Q o H'
def noO : TXO := fun S Q => Q none S
def someO (t : TX) : TXO := fun S Q => t S fun x S1 => ∃ i, asInt x = some i ∧ Q (some i) S1
theorem PO_imp {X : Cx} {e : Option Expr} {t t' : TO} (h : PO X e t) (i : ∀ σ H Q, t' σ H Q → t σ H Q) : PO X e t' := ⟨fun pins s σ H Q I q => h.run pins s σ H Q I (i _ _ _ q)⟩
theorem xo_none : PO X none (rwO noO) := PO_imp po_none fun σ H Q q => by
  obtain ⟨F, G, S, Qp, hr, ht, k⟩ := q
  exact k _ _ _ _ hr (Same.refl _) ht
theorem int_dat {x : PV} {i : Int} (h : asInt x = some i) : x = .d (.int i) := by
  cases x with
  | d x => cases x <;> cases h; rfl
  | _ => cases h
theorem xo_some {te : TX} (h : PE X e (rw te)) : PO X (some e) (rwO (someO te)) := PO_imp (po_some h) fun σ H Q q => by
  obtain ⟨F, G, S, Qp, hr, ht, k⟩ := q
  refine ⟨F, G, S, _, hr, ht, fun v x S1 F1 H1 r1 s1 h1 => ?_⟩
  obtain ⟨i, ei, h1⟩ := h1
  cases int_dat ei
  cases r1.dat
  exact ⟨i, rfl, k _ _ _ _ r1.rep s1 h1⟩
def cutD {α : Type} (xs : List α) (lo hi : Option Int) : List α := (xs.drop (HT.sIx xs.length 0 lo)).take (HT.sIx xs.length xs.length hi - HT.sIx xs.length 0 lo)
def pSl (S : List PV) (x : PV) (lo hi : Option Int) (Q : KP) : Prop := match look S x with
  | .d (.tuple a) => Q (.d (.tuple (cutD a lo hi))) S
  | .d (.list a) => Q (.l (cutD a lo hi)) S
  | .l a => Q (.l (cutD a lo hi)) S
  | .d (.str a) => (tl a).length ≤ 16777216 ∧ Q (.d (.str (tx (cutD (tl a) lo hi)))) S
  | _ => False
def slX (te : TX) (tlo thi : TXO) : TX := fun S Q => te S fun x S1 => tlo S1 fun lo S2 => thi S2 fun hi S3 => pSl S3 x lo hi Q
theorem cut_lv {ds : List PyData} {ws : List V} (l : LvA F ws ds) (lo hi : Option Int) : LvA F (cutV ws lo hi) (cutD ds lo hi) := by
  unfold cutV cutD
  rw [l.len]
  exact LvA.takes _ (LvA.drops _ l)
theorem x_slice {te : TX} {tlo thi : TXO} (h : PE X e (tSl (rSlG K) (rw te) (rwO tlo) (rwO thi))) : PE X e (rw (slX te tlo thi)) := PE_imp h fun σ H Q q => by
  obtain ⟨F, G, S, Qp, hr, ht, k⟩ := q
  refine ⟨F, G, S, _, hr, ht, fun v x S1 F1 H1 r1 s1 h1 => ?_⟩
  obtain ⟨G1, sg, r2, more⟩ := r1.aside
  refine ⟨F1, G1, S1, _, r2, h1, fun lo S2 F2 H2 r3 s2 h2 => ⟨F2, G1, S2, _, r3, h2, fun hi S3 F3 H3 r4 s3 h3 => ?_⟩⟩
  have r5 := more _ _ _ _ _ r4 (s2.trans s3)
  rw [List.append_nil, List.append_nil] at r5
  obtain ⟨f, rv⟩ := r5.look0
  have k' := k.up (s1.trans (s2.trans s3))
  have h3 : pSl S3 x lo hi Qp := h3
  unfold pSl at h3
  have lst : ∀ {a : List PyData}, asList (look S3 x) = some a → Qp (.l (cutD a lo hi)) S3 → rSlG K v lo hi H3 Q := fun {a} ea h => by
    obtain ⟨p, ws, rfl, g1, l1⟩ := rv.lst r5.lf ea
    exact .inl ⟨p, ws, rfl, SqL.of g1, k'.lst r5 (cut_lv l1 lo hi) h⟩
  split at h3
  · rename_i a e1
    rw [e1] at rv
    obtain ⟨p, ws, rfl, g1, l1⟩ := rv.tup r5.lf
    exact .inr (.inl ⟨p, ws, rfl, g1, k'.tup r5 (cut_lv l1 lo hi) h3⟩)
  · rename_i a e1; exact lst (by rw [e1]; rfl) h3
  · rename_i a e1; exact lst (by rw [e1]; rfl) h3
  · rename_i a e1
    rw [e1] at rv
    cases rv.dat
    refine .inr (.inr ⟨a, rfl, by rw [len_tl, ← line_eq]; exact h3.1, ?_⟩)
    have ec : cutS a lo hi = tx (cutD (tl a) lo hi) := by
      unfold cutS cutD tx
      rw [len_tl]
    rw [ec]
    exact k'.dat r5 (.str _) h3.2
  · exact h3.elim
def backX (te ts : TX) : TX := fun S Q => te S fun x S1 => ts S1 fun s S2 => asInt s = some (-1) ∧ match look S2 x with
  | .d (.tuple a) => Q (.d (.tuple a.reverse)) S2
  | _ => False
theorem LvA.rev {F : Hp} : ∀ {ds : List PyData} {us : List V}, LvA F us ds → LvA F us.reverse ds.reverse
  | [], _, h => by cases h; exact .nil
  | d :: ds, _, h => by
    cases h with
    | cons h1 h2 =>
      rw [List.reverse_cons, List.reverse_cons]
      exact LvA.appd (LvA.rev h2) (.cons h1 .nil)
theorem x_back {te ts : TX} (h : PE X e (tBack (rw te) (tPart (rw ts)))) : PE X e (rw (backX te ts)) := PE_imp h fun σ H Q q => by
  obtain ⟨F, G, S, Qp, hr, ht, k⟩ := q
  refine ⟨F, G, S, _, hr, ht, fun v x S1 F1 H1 r1 s1 h1 => ?_⟩
  obtain ⟨G1, sg, r2, more⟩ := r1.aside
  refine ⟨F1, G1, S1, _, r2, h1, fun u y S2 F2 H2 r3 s2 h2 => ?_⟩
  have r4 := more _ _ _ _ _ r3 s2
  obtain ⟨ei, h2⟩ := h2
  cases int_dat ei
  cases r4.tl.dat
  obtain ⟨f, rv⟩ := r4.look0
  refine ⟨-1, rfl, rfl, ?_⟩
  split at h2
  · rename_i a e1
    rw [e1] at rv
    obtain ⟨p, ws, rfl, g1, l1⟩ := rv.tup r4.lf
    exact ⟨p, ws, rfl, g1, ((k.up (s1.trans s2)).tup r4 (LvA.rev l1) h2).new⟩
  · exact h2.elim
/-! ### built-ins -/
/-- of one argument -/
def one1 (p : List PV → PV → KP → Prop) : PC' := fun S xs Q => match xs with
  | [x] => p S x Q
  | _ => False
def Sim1 (r : List V → Hp → VK → Prop) (p : List PV → PV → KP → Prop) : Prop := ∀ F G H σ S v x Qp Q, RepA F G H σ S [v] [x] → p S x Qp → Fin F G σ Qp Q → r [v] H Q
theorem sim_one {r : List V → Hp → VK → Prop} {p : List PV → PV → KP → Prop} (sim : Sim1 r p) : SimC r (one1 p) := by
  intro F G H σ S vs xs Qp Q r hp k
  have hl : vs.length = xs.length := by obtain ⟨_, _, r⟩ := r; exact r.vl.len
  match xs, vs, hl, hp with
  | [x], [v], _, hp => exact sim _ _ _ _ _ _ _ _ _ r hp k
def two2 (p : P2) : PC' := fun S xs Q => match xs with
  | [x, y] => p S x y Q
  | _ => False
theorem sim_two {r : List V → Hp → VK → Prop} {p : P2} (sim : Sim2 (fun x y => r [x, y]) p) : SimC r (two2 p) := by
  intro F G H σ S vs xs Qp Q r hp k
  have hl : vs.length = xs.length := by obtain ⟨_, _, r⟩ := r; exact r.vl.len
  match xs, vs, hl, hp with
  | [x, y], [v, u], _, hp => exact sim _ _ _ _ _ _ _ _ _ _ _ r hp k
def pLen (S : List PV) (x : PV) (Q : KP) : Prop := match look S x with
  | .d (.tuple a) => Q (.d (.int (a.length : Nat))) S
  | .d (.list a) => Q (.d (.int (a.length : Nat))) S
  | .l a => Q (.d (.int (a.length : Nat))) S
  | .d (.str a) => (tl a).length ≤ 16777216 ∧ Q (.d (.int ((tl a).length : Nat))) S
  | _ => False
theorem sim_len : Sim1 (rLenN K) pLen := by
  intro F G H σ S v x Qp Q r hp k
  obtain ⟨f, rv⟩ := r.look0
  unfold pLen at hp
  have lst : ∀ {a : List PyData}, asList (look S x) = some a → Qp (.d (.int (a.length : Nat))) S → rLenN K [v] H Q := fun {a} ea h => by
    obtain ⟨p, ws, rfl, g1, l1⟩ := rv.lst r.lf ea
    exact ⟨_, _, rfl, .inl ⟨ws, SqL.of g1, rfl⟩, k.dat r (.int _) (by rw [l1.len]; exact h)⟩
  split at hp
  · rename_i a e1
    rw [e1] at rv
    obtain ⟨p, ws, rfl, g1, l1⟩ := rv.tup r.lf
    exact ⟨_, _, rfl, .inr ⟨ws, SqT.of g1, rfl⟩, k.dat r (.int _) (by rw [l1.len]; exact hp)⟩
  · rename_i a e1; exact lst (by rw [e1]; rfl) hp
  · rename_i a e1; exact lst (by rw [e1]; rfl) hp
  · rename_i a e1
    rw [e1] at rv
    cases rv.dat
    exact ⟨_, _, rfl, ⟨by rw [len_tl, ← line_eq]; exact hp.1, rfl⟩, k.dat r (.int _) (by rw [len_tl]; exact hp.2)⟩
  · exact hp.elim
/-- what kind of thing it is -/
def tyP : PV → Option String
  | .d .none => some "NoneType"
  | .d (.bool _) => some "bool"
  | .d (.int _) => some "int"
  | .d (.str _) => some "str"
  | .d (.tuple _) => some "tuple"
  | .d (.list _) => some "list"
  | .d (.dict _) => some "dict"
  | .l _ => some "list"
  | .t _ => some "tuple"
  | _ => none
def kits (T : String) : List PV → Option Bool
  | [] => some false
  | .ty s :: r => match kitB T s, kits T r with
    | some a, some b => some (a || b)
    | _, _ => none
  | _ :: _ => none
def pIsi : P2 := fun S x c Q => match c with
  | .ty s => ∃ T b, tyP (look S x) = some T ∧ kitB T s = some b ∧ Q (.d (.bool b)) S
  | .t cs => ∃ T b, tyP (look S x) = some T ∧ kits T cs = some b ∧ Q (.d (.bool b)) S
  | _ => False
theorem RV.tyx {f : List Addr} {T : String} (r : RV [] F H v x f) (s : Same F H) (e : tyP x = some T) : TyX K H v (.type T) := by
  cases r with
  | d h =>
    cases h with
    | non => cases e; exact .base .non
    | bl b => cases e; exact .base (.bl b)
    | int i => cases e; exact .base (.int i)
    | str z => cases e; exact .base (.str z)
    | tup h1 h2 => cases e; exact .base (.tup (s _ _ h1))
    | lst h1 h2 => cases e; exact .base (.lst (s _ _ h1))
    | dct h1 h2 => cases e; exact .base (.dK (s _ _ h1))
  | l h1 h2 => cases e; exact .base (.lst h1)
  | t h1 h2 => cases e; exact .base (.tup (s _ _ h1))
  | _ => cases e
theorem kits_any {T : String} : ∀ {cs : List PV} {ws : List V} {f : List Addr} {b : Bool}, RVs [] F H ws cs f → kits T cs = some b → ∃ us, Paired ClsV ws us ∧ PySem.W.kitAny K (.type T) us = some b
  | [], _, _, _, h, e => by
    cases h
    cases e
    exact ⟨[], .nil, kitAny_nil⟩
  | c :: cs, _, _, b, h, e => by
    cases h with
    | cons h1 h2 =>
      cases c with
      | ty s =>
        cases h1
        unfold kits at e
        cases e1 : kitB T s with
        | none => rw [e1] at e; cases e
        | some a =>
          cases e2 : kits T cs with
          | none => rw [e1, e2] at e; cases e
          | some b' =>
            rw [e1, e2] at e
            cases e
            obtain ⟨us, p, q⟩ := kits_any h2 e2
            refine ⟨.type s :: us, .cons (.ty s) p, kitAny_cons (kit_ty e1) (fun z => ?_) (fun z => ?_)⟩
            · rw [q, z]
              rfl
            · rw [z]
              rfl
      | _ => cases e
theorem sim_isi : Sim2 (fun x y => rIsiG K [x, y]) pIsi := by
  intro F G H σ S v u x y Qp Q r hp k
  obtain ⟨f1, r1⟩ := r.look0
  unfold pIsi at hp
  split at hp
  · rename_i s
    obtain ⟨T, b, eT, eb, hp⟩ := hp
    obtain ⟨f2, r2⟩ := r.tl.hd
    cases r2
    exact .inl ⟨v, .ty s, .type T, .type s, b, rfl, .ty s, r1.tyx r.lf eT, kit_ty eb, k.dat r (.bl _) hp⟩
  · rename_i cs
    obtain ⟨T, b, eT, eb, hp⟩ := hp
    obtain ⟨f2, r2⟩ := r.tl.hd
    cases r2 with
    | t h1 h2 =>
      obtain ⟨us, p, q⟩ := kits_any (K := K) h2 eb
      exact .inr ⟨v, _, _, .type T, us, b, rfl, r.lf _ _ h1, p, r1.tyx r.lf eT, q, k.dat r (.bl _) hp⟩
  · exact hp.elim
def pListOf (S : List PV) (x : PV) (Q : KP) : Prop := match look S x with
  | .d (.tuple a) => Q (.l a) S
  | .d (.list a) => Q (.l a) S
  | .l a => Q (.l a) S
  | .d (.str a) => (tl a).length ≤ 16777216 ∧ Q (.l ((tl a).map fun c => .str (tx [c]))) S
  | _ => False
theorem sgs_lv (l : Cs) : LvA F (sgs l) (l.map fun c => .str (tx [c])) := by
  unfold sgs
  induction l with
  | nil => exact .nil
  | cons c l ih => exact .cons (.str _) ih
theorem sim_list : Sim1 (rListG K) pListOf := by
  intro F G H σ S v x Qp Q r hp k
  obtain ⟨f, rv⟩ := r.look0
  unfold pListOf at hp
  have lst : ∀ {a : List PyData}, asList (look S x) = some a → Qp (.l a) S → rListG K [v] H Q := fun {a} ea h => by
    obtain ⟨p, ws, rfl, g1, l1⟩ := rv.lst r.lf ea
    exact .inl ⟨p, ws, rfl, .inl (SqL.of g1), k.lst r l1 h⟩
  split at hp
  · rename_i a e1
    rw [e1] at rv
    obtain ⟨p, ws, rfl, g1, l1⟩ := rv.tup r.lf
    exact .inl ⟨p, ws, rfl, .inr (SqT.of g1), k.lst r l1 hp⟩
  · rename_i a e1; exact lst (by rw [e1]; rfl) hp
  · rename_i a e1; exact lst (by rw [e1]; rfl) hp
  · rename_i a e1
    rw [e1] at rv
    cases rv.dat
    exact .inr ⟨a, rfl, by rw [← line_eq, show a.cps.size = (tl a).length from (Array.length_toList).symm]; exact hp.1, k.lst r (sgs_lv _) hp.2⟩
  · exact hp.elim
def pTupOf (S : List PV) (x : PV) (Q : KP) : Prop := match look S x with
  | .d (.tuple a) => Q (.d (.tuple a)) S
  | .d (.list a) => Q (.d (.tuple a)) S
  | .l a => Q (.d (.tuple a)) S
  | _ => False
theorem sim_tuple : Sim1 (rTupN K) pTupOf := by
  intro F G H σ S v x Qp Q r hp k
  obtain ⟨f, rv⟩ := r.look0
  unfold pTupOf at hp
  have lst : ∀ {a : List PyData}, asList (look S x) = some a → Qp (.d (.tuple a)) S → rTupN K [v] H Q := fun {a} ea h => by
    obtain ⟨p, ws, rfl, g1, l1⟩ := rv.lst r.lf ea
    exact ⟨p, ws, rfl, .inl ⟨SqL.of g1, (k.tup r l1 h).new⟩⟩
  split at hp
  · rename_i a e1
    rw [e1] at rv
    obtain ⟨p, ws, rfl, g1, l1⟩ := id (rv.tup r.lf)
    exact ⟨p, ws, rfl, .inr ⟨SqT.of g1, k.dat r rv.dat hp⟩⟩
  · rename_i a e1; exact lst (by rw [e1]; rfl) hp
  · rename_i a e1; exact lst (by rw [e1]; rfl) hp
  · exact hp.elim
/-- a list of ints, of truths, of texts -/
def intsOf : List PyData → Option (List Int)
  | [] => some []
  | .int i :: r => match intsOf r with
    | some l => some (i :: l)
    | none => none
  | _ :: _ => none
def truthsOf : List PyData → Option (List Bool)
  | [] => some []
  | .bool i :: r => match truthsOf r with
    | some l => some (i :: l)
    | none => none
  | _ :: _ => none
def textsOf : List PyData → Option (List Str)
  | [] => some []
  | .str i :: r => match textsOf r with
    | some l => some (i :: l)
    | none => none
  | _ :: _ => none
theorem ints_lv : ∀ {ds : List PyData} {ws : List V} {l : List Int}, LvA F ws ds → intsOf ds = some l → ws = l.map V.int
  | [], _, _, h, e => by cases h; cases e; rfl
  | d :: ds, _, l, h, e => by
    cases h with
    | cons h1 h2 =>
      cases d with
      | int i =>
        have e : (match intsOf ds with | some l => some (i :: l) | none => none) = some l := e
        cases q : intsOf ds with
        | none => rw [q] at e; cases e
        | some m =>
          rw [q] at e
          cases e
          cases h1
          rw [ints_lv h2 q]
          rfl
      | _ => cases e
theorem truths_lv : ∀ {ds : List PyData} {ws : List V} {l : List Bool}, LvA F ws ds → truthsOf ds = some l → ws = l.map V.bl
  | [], _, _, h, e => by cases h; cases e; rfl
  | d :: ds, _, l, h, e => by
    cases h with
    | cons h1 h2 =>
      cases d with
      | bool i =>
        have e : (match truthsOf ds with | some l => some (i :: l) | none => none) = some l := e
        cases q : truthsOf ds with
        | none => rw [q] at e; cases e
        | some m =>
          rw [q] at e
          cases e
          cases h1
          rw [truths_lv h2 q]
          rfl
      | _ => cases e
theorem texts_lv : ∀ {ds : List PyData} {ws : List V} {l : List Str}, LvA F ws ds → textsOf ds = some l → ws = l.map V.str
  | [], _, _, h, e => by cases h; cases e; rfl
  | d :: ds, _, l, h, e => by
    cases h with
    | cons h1 h2 =>
      cases d with
      | str i =>
        have e : (match textsOf ds with | some l => some (i :: l) | none => none) = some l := e
        cases q : textsOf ds with
        | none => rw [q] at e; cases e
        | some m =>
          rw [q] at e
          cases e
          cases h1
          rw [texts_lv h2 q]
          rfl
      | _ => cases e
def pSum (S : List PV) (x : PV) (Q : KP) : Prop := ∃ ds l, asList (look S x) = some ds ∧ intsOf ds = some l ∧ Q (.d (.int l.sum)) S
theorem sim_sum : Sim1 (rSum K) pSum := by
  intro F G H σ S v x Qp Q r hp k
  obtain ⟨f, rv⟩ := r.look0
  obtain ⟨ds, l, e1, e2, hp⟩ := hp
  obtain ⟨p, ws, rfl, g1, l1⟩ := rv.lst r.lf e1
  cases ints_lv l1 e2
  exact ⟨p, l, rfl, SqL.of g1, k.dat r (.int _) hp⟩
def pAll (S : List PV) (x : PV) (Q : KP) : Prop := ∃ ds l, asList (look S x) = some ds ∧ truthsOf ds = some l ∧ Q (.d (.bool (l.all id))) S
def pAny (S : List PV) (x : PV) (Q : KP) : Prop := ∃ ds l, asList (look S x) = some ds ∧ truthsOf ds = some l ∧ Q (.d (.bool (l.any id))) S
theorem sim_all : Sim1 (rAll K) pAll := by
  intro F G H σ S v x Qp Q r hp k
  obtain ⟨f, rv⟩ := r.look0
  obtain ⟨ds, l, e1, e2, hp⟩ := hp
  obtain ⟨p, ws, rfl, g1, l1⟩ := rv.lst r.lf e1
  cases truths_lv l1 e2
  exact ⟨p, l, rfl, SqL.of g1, k.dat r (.bl _) hp⟩
theorem sim_any : Sim1 (rAny K) pAny := by
  intro F G H σ S v x Qp Q r hp k
  obtain ⟨f, rv⟩ := r.look0
  obtain ⟨ds, l, e1, e2, hp⟩ := hp
  obtain ⟨p, ws, rfl, g1, l1⟩ := rv.lst r.lf e1
  cases truths_lv l1 e2
  exact ⟨p, l, rfl, SqL.of g1, k.dat r (.bl _) hp⟩
def pSorted (S : List PV) (x : PV) (Q : KP) : Prop := ∃ ds l, asList (look S x) = some ds ∧ textsOf ds = some l ∧ l.length < 64 ∧ ∀ ys : List Str, ys.Perm l → sortedS ys = true → Q (.l (ys.map .str)) S
theorem sim_sorted : Sim1 (rSortN K) pSorted := by
  intro F G H σ S v x Qp Q r hp k
  obtain ⟨f, rv⟩ := r.look0
  obtain ⟨ds, l, e1, e2, few, hp⟩ := hp
  obtain ⟨p, ws, rfl, g1, l1⟩ := rv.lst r.lf e1
  cases texts_lv l1 e2
  refine ⟨p, l, rfl, SqL.of g1, few, fun ys pm so => k.lst r ?_ (hp ys pm so)⟩
  clear pm so
  induction ys with
  | nil => exact .nil
  | cons y ys ih => exact .cons (.str y) ih
def pMin : P2 := fun S x y Q => match look S x, look S y with
  | .d (.int i), .d (.int j) => Q (.d (.int (if j < i then j else i))) S
  | _, _ => False
def pMax : P2 := fun S x y Q => match look S x, look S y with
  | .d (.int i), .d (.int j) => Q (.d (.int (if j > i then j else i))) S
  | _, _ => False
theorem sim_min : Sim2 (fun x y H Q => ∃ i j, [x, y] = [V.int i, .int j] ∧ Q (.int (if j < i then j else i)) H) pMin := by
  intro F G H σ S v u x y Qp Q r hp k
  obtain ⟨f1, r1⟩ := r.look0
  obtain ⟨f2, r2⟩ := r.look1
  unfold pMin at hp
  split at hp
  · rename_i i j e1 e2
    rw [e1] at r1
    rw [e2] at r2
    cases r1.dat
    cases r2.dat
    exact ⟨i, j, rfl, k.dat r (.int _) hp⟩
  · exact hp.elim
theorem sim_max : Sim2 (fun x y H Q => ∃ i j, [x, y] = [V.int i, .int j] ∧ Q (.int (if j > i then j else i)) H) pMax := by
  intro F G H σ S v u x y Qp Q r hp k
  obtain ⟨f1, r1⟩ := r.look0
  obtain ⟨f2, r2⟩ := r.look1
  unfold pMax at hp
  split at hp
  · rename_i i j e1 e2
    rw [e1] at r1
    rw [e2] at r2
    cases r1.dat
    cases r2.dat
    exact ⟨i, j, rfl, k.dat r (.int _) hp⟩
  · exact hp.elim
def pIntOf (S : List PV) (x : PV) (Q : KP) : Prop := match look S x with
  | .d (.int i) => Q (.d (.int i)) S
  | .d (.bool b) => Q (.d (.int (if b then 1 else 0))) S
  | _ => False
theorem sim_intOf : Sim1 (fun xs H Q => (∃ i, xs = [V.int i] ∧ Q (.int i) H) ∨ ∃ k, xs = [.bl k] ∧ Q (.int (if k then 1 else 0)) H) pIntOf := by
  intro F G H σ S v x Qp Q r hp k
  obtain ⟨f, rv⟩ := r.look0
  unfold pIntOf at hp
  split at hp
  · rename_i i e1
    rw [e1] at rv
    cases rv.dat
    exact .inl ⟨i, rfl, k.dat r (.int _) hp⟩
  · rename_i i e1
    rw [e1] at rv
    cases rv.dat
    exact .inr ⟨i, rfl, k.dat r (.int _) hp⟩
  · exact hp.elim
/-- repr of data -/
def pRepr (S : List PV) (x : PV) (Q : KP) : Prop := ∃ d, asD (look S x) = some d ∧ (match d with | .tuple _ => True | .list _ => True | _ => False) ∧ RP d 60 1000000 ∧ Q (.d (.str d.shown)) S
theorem sim_repr : Sim1 (rRepr K) pRepr := by
  intro F G H σ S v x Qp Q r hp k
  obtain ⟨f, rv⟩ := r.look0
  obtain ⟨d, e1, kind, rp, hp⟩ := hp
  have dp := rv.dp (K := K) r.lf e1 (PyData.hasDict_of_canLay d rp.lay)
  have er : ∃ a, v = .ref a := by
    cases dp <;> first | exact ⟨_, rfl⟩ | exact kind.elim
  obtain ⟨a, rfl⟩ := er
  exact ⟨a, d, rfl, dp, rp, k.dat r (.str _) hp⟩
end
end Px

namespace Px
open PySem PySem.Spec PyProof.Rows L2 Fo TL
section
variable {F F' F0 G G' H H' : Hp} {σ σ' : L2.St} {S : List PV} {v u : V} {vs us : List V} {xs ys : List PV} {x y : PV} {Qp : KP} {Q : VK} {X : Cx} {e : Expr} {tr : TXA} {K : PySem.W.Frag}
/-! ### methods -/
/-- the receiver's kind -/
def tyM (T : String) (x : PV) : Prop := match x with
  | .l _ => T = "list"
  | .d (.list _) => T = "list"
  | .d (.str _) => T = "str"
  | _ => False
theorem RV.tym {T : String} {f : List Addr} (r : RV [] F H v x f) (s : Same F H) (e : tyM T x) : tyV K T v H := by
  unfold tyM at e
  split at e
  · cases r with
    | l h1 h2 => exact .inl ⟨e, _, SqL.of h1⟩
  · cases r.dat with
    | lst h1 h2 => exact .inl ⟨e, _, SqL.of (s _ _ h1)⟩
  · cases r.dat
    exact e
  · exact e.elim
abbrev PM := List PV → PV → List PV → KP → Prop
def SimM (r : V → List V → Hp → VK → Prop) (p : PM) : Prop := ∀ F G H σ S v x vs xs Qp Q, RepA F G H σ S (v :: vs) (x :: xs) → p S x xs Qp → Fin F G σ Qp Q → r v vs H Q
def methX (T : String) (p : PM) (to : TX) (t : TXA) : TX := fun S Q => to S fun x S1 => tyM T (look S1 x) ∧ t S1 fun xs S2 => p (frzA S2 xs).2 x (frzA S2 xs).1 Q
def methX0 (T : String) (p : PM) (to : TX) : TX := fun S Q => to S fun x S1 => tyM T (look S1 x) ∧ p S1 x [] Q
theorem RepA.frzTl (h : RepA F G H σ S (v :: vs) (x :: xs)) : ∃ F', Same F F' ∧ RepA F' G H σ (frzA S xs).2 (v :: vs) (x :: (frzA S xs).1) := by
  have h1 := RepA.turn (vs := [v]) (xs := [x]) (us := vs) (ys := xs) h rfl
  have hl : vs.length = xs.length := by obtain ⟨_, _, r⟩ := h.tl; exact r.vl.len
  obtain ⟨F', s', h2⟩ := RepA.frzN (vs := vs) (xs := xs) (dv := [v]) (done := [x]) hl h1
  exact ⟨F', s', h2⟩
theorem x_meth {T : String} {r : V → List V → Hp → VK → Prop} {p : PM} {to : TX} (sim : SimM r p) (h : PE X e (tBM K T r (rw to) (rwA tr))) : PE X e (rw (methX T p to tr)) := PE_imp h fun σ H Q q => by
  obtain ⟨F, G, S, Qp, hr, ht, k⟩ := q
  refine ⟨F, G, S, _, hr, ht, fun v x S1 F1 H1 r1 s1 h1 => ?_⟩
  obtain ⟨ty, h1⟩ := h1
  obtain ⟨f, rv⟩ := r1.look0
  obtain ⟨G1, sg, r2, more⟩ := r1.aside
  refine ⟨rv.tym r1.lf ty, F1, G1, S1, _, r2, h1, fun us ys S2 F2 H2 r3 s2 h2 => ?_⟩
  obtain ⟨F3, s3, r4⟩ := (more _ _ _ _ _ r3 s2).frzTl
  exact sim _ _ _ _ _ _ _ _ _ _ _ r4 h2 (k.up ((s1.trans s2).trans s3))
theorem x_meth0 {T : String} {r : V → List V → Hp → VK → Prop} {p : PM} {to : TX} (sim : SimM r p) (h : PE X e (tBM0 K T r (rw to))) : PE X e (rw (methX0 T p to)) := PE_imp h fun σ H Q q => by
  obtain ⟨F, G, S, Qp, hr, ht, k⟩ := q
  refine ⟨F, G, S, _, hr, ht, fun v x S1 F1 H1 r1 s1 h1 => ?_⟩
  obtain ⟨ty, h1⟩ := h1
  obtain ⟨f, rv⟩ := r1.look0
  exact ⟨rv.tym r1.lf ty, sim _ _ _ _ _ _ _ _ _ _ _ r1 h1 (k.up s1)⟩
/-- the list of a name, changed -/
theorem RepA.chgL {i : Nat} {ds : List PyData} (h : RepA F G H σ S (v :: vs) (.al i :: xs)) (e : S.getD i .un = .l ds) : ∃ p ws, v = .ref p ∧ H p = some (.lst ws) ∧ LvA F ws ds ∧ F p = none ∧ G p = none ∧
    ∀ H' ws' ds', But p H H' → H' p = some (.lst ws') → LvA F ws' ds' → RepA F G H' σ (S.set i (.l ds')) (v :: vs) (.al i :: xs) := by
  have hi : i < S.length := by
    by_cases hi : i < S.length
    · exact hi
    · rw [List.getD_eq_getElem?_getD, List.getElem?_eq_none (by omega)] at e
      cases e
  have e1 : S[i]? = some (.l ds) := by rw [← e, List.getD_eq_getElem?_getD, List.getElem?_eq_getElem hi]; rfl
  obtain ⟨w, f, ew, r, off, chg⟩ := h.chg e1 (fun z => nomatch z)
  have ev : σ[i]? = some (some v) := by
    obtain ⟨f, r⟩ := h.hd
    cases r with
    | al e => exact e
  rw [ev] at ew
  cases ew
  cases r with
  | l h1 h2 =>
    rename_i p ws
    have z := off p (List.mem_singleton_self _)
    exact ⟨p, ws, rfl, h1, h2, z.1, z.2, fun H' ws' ds' b e' l' => chg H' (.l ds') [p] (fun a o n q => b a o (fun z => n (by rw [z]; exact List.mem_singleton_self _)) q) (.l e' l') (List.nodup_cons.mpr ⟨fun m => (nomatch m), .nil⟩) fun a m => .inl m⟩
/-- the same of a list in hand -/
theorem Fin.non {v' : V} (k : Fin F G σ Qp Q) (h : RepA F G H σ S vs xs) (q : Qp (.d .none) S) : Q .non H := k.dat h .non q
def pApp : PM := fun S x xs Q => match x, xs with
  | .al i, [.d z] => match S.getD i .un with
    | .l ds => ds.length < 16777216 ∧ force (S.set i (.l (ds ++ [z]))) (Q (.d .none))
    | _ => False
  | _, _ => False
theorem sim_app : SimM rAppN pApp := by
  intro F G H σ S v x vs xs Qp Q r hp k
  have hl : vs.length = xs.length := by obtain ⟨_, _, r⟩ := r.tl; exact r.vl.len
  unfold pApp at hp
  split at hp
  · rename_i i z
    match vs, hl with
    | [u], _ =>
      split at hp
      · rename_i ds e
        have dz := r.tl.dat
        obtain ⟨p, ws, rfl, g1, l1, _, _, chg⟩ := r.chgL e
        refine ⟨p, ws, u, rfl, rfl, g1, by rw [l1.len, ← line_eq]; exact hp.1, fun H' b e' => ?_⟩
        exact k.dat (chg H' _ _ b e' (LvA.snoc l1 dz)) .non (unforce hp.2)
      · exact hp.elim
  · exact hp.elim
def pPopAt : PM := fun S x xs Q => match x, xs with
  | .al i, [.d (.int j)] => match S.getD i .un with
    | .l ds => ds.length ≤ 1000000 ∧ ∃ k z, ixN ds.length j = some k ∧ ds[k]? = some z ∧ force (S.set i (.l (ds.eraseIdx k))) (Q (.d z))
    | _ => False
  | _, _ => False
theorem LvA.erase {F : Hp} : ∀ {ds : List PyData} {us : List V} (n : Nat), LvA F us ds → LvA F (us.eraseIdx n) (ds.eraseIdx n)
  | [], _, _, h => by cases h; exact .nil
  | _ :: _, _, 0, h => by
    cases h with
    | cons h1 h2 => exact h2
  | _ :: _, _, n + 1, h => by
    cases h with
    | cons h1 h2 => exact .cons h1 (LvA.erase n h2)
theorem LvA.sets {F : Hp} {d : PyData} {u : V} (k : Lv F u d) : ∀ {ds : List PyData} {us : List V} (n : Nat), LvA F us ds → LvA F (us.set n u) (ds.set n d)
  | [], _, _, h => by cases h; exact .nil
  | _ :: _, _, 0, h => by
    cases h with
    | cons h1 h2 => exact .cons k h2
  | _ :: _, _, n + 1, h => by
    cases h with
    | cons h1 h2 => exact .cons h1 (LvA.sets k n h2)
theorem LvA.inserts {F : Hp} {d : PyData} {u : V} (k : Lv F u d) : ∀ {ds : List PyData} {us : List V} (n : Nat), LvA F us ds → LvA F (us.insertIdx n u) (ds.insertIdx n d)
  | ds, us, 0, h => .cons k h
  | [], us, n + 1, h => by cases h; exact .nil
  | _ :: _, _, n + 1, h => by
    cases h with
    | cons h1 h2 => exact .cons h1 (LvA.inserts k n h2)
theorem sim_popAt : SimM rPopN pPopAt := by
  intro F G H σ S v x vs xs Qp Q r hp k
  have hl : vs.length = xs.length := by obtain ⟨_, _, r⟩ := r.tl; exact r.vl.len
  unfold pPopAt at hp
  split at hp
  · rename_i i j
    match vs, hl with
    | [u], _ =>
      split at hp
      · rename_i ds e
        obtain ⟨few, n, z, e1, e2, hp⟩ := hp
        cases r.tl.dat
        obtain ⟨p, ws, rfl, g1, l1, _, _, chg⟩ := r.chgL e
        obtain ⟨w, ew, lw⟩ := LvA.nthd l1 e2
        obtain ⟨q1, q2, q3, q4⟩ := ixN_seq e1
        refine ⟨p, ws, j, n, w, rfl, rfl, g1, by omega, by omega, by rw [l1.len]; exact q1, ew, fun H' b e' => ?_⟩
        exact k.dat (chg H' _ _ b e' (LvA.erase n l1)) lw (unforce hp)
      · exact hp.elim
  · exact hp.elim
def pPop : PM := fun S x xs Q => match x, xs with
  | .al i, [] => match S.getD i .un with
    | .l ds => ∃ z, ds[ds.length - 1]? = some z ∧ force (S.set i (.l ds.dropLast)) (Q (.d z))
    | _ => False
  | _, _ => False
theorem LvA.dropLasts {F : Hp} {ds : List PyData} {us : List V} (h : LvA F us ds) : LvA F us.dropLast ds.dropLast := by
  rw [List.dropLast_eq_take, List.dropLast_eq_take, h.len]
  exact LvA.takes _ h
theorem sim_pop : SimM rPop pPop := by
  intro F G H σ S v x vs xs Qp Q r hp k
  have hl : vs.length = xs.length := by obtain ⟨_, _, r⟩ := r.tl; exact r.vl.len
  unfold pPop at hp
  split at hp
  · rename_i i
    match vs, hl with
    | [], _ =>
      split at hp
      · rename_i ds e
        obtain ⟨z, e2, hp⟩ := hp
        obtain ⟨p, ws, rfl, g1, l1, _, _, chg⟩ := r.chgL e
        obtain ⟨w, ew, lw⟩ := LvA.nthd l1 e2
        exact ⟨p, ws, w, rfl, rfl, g1, by rw [l1.len]; exact ew, k.dat (chg _ _ _ But.upd upd_same (LvA.dropLasts l1)) lw (unforce hp)⟩
      · exact hp.elim
  · exact hp.elim
def pInsert : PM := fun S x xs Q => match x, xs with
  | .al i, [.d (.int j), .d z] => match S.getD i .un with
    | .l ds => ds.length < 16777216 ∧ 0 ≤ j ∧ j < 1000000 ∧ force (S.set i (.l (ds.take j.toNat ++ [z] ++ ds.drop j.toNat))) (Q (.d .none))
    | _ => False
  | _, _ => False
theorem sim_insert : SimM (fun x vs H Q => ∃ (l : Addr) (xs : List V) (i : Int) (y : V), x = .ref l ∧ vs = [.int i, y] ∧ H l = some (.lst xs) ∧ xs.length < sizeLine ∧ 0 ≤ i ∧ i < 2 ^ 63 ∧ Q .non (upd H l (.lst (xs.take i.toNat ++ [y] ++ xs.drop i.toNat)))) pInsert := by
  intro F G H σ S v x vs xs Qp Q r hp k
  have hl : vs.length = xs.length := by obtain ⟨_, _, r⟩ := r.tl; exact r.vl.len
  unfold pInsert at hp
  split at hp
  · rename_i i j z
    match vs, hl with
    | [u, w], _ =>
      split at hp
      · rename_i ds e
        obtain ⟨h1, h2, h3, hp⟩ := hp
        have r2 := r.tl
        cases r2.dat
        have dz := r2.tl.dat
        obtain ⟨p, ws, rfl, g1, l1, _, _, chg⟩ := r.chgL e
        exact ⟨p, ws, j, w, rfl, rfl, g1, by rw [l1.len, ← line_eq]; exact h1, h2, by omega, k.dat (chg _ _ _ But.upd upd_same (LvA.appd (LvA.appd (LvA.takes _ l1) (.cons dz .nil)) (LvA.drops _ l1))) .non (unforce hp)⟩
      · exact hp.elim
  · exact hp.elim
def pExtend : PM := fun S x xs Q => match x, xs with
  | .al i, [.d (.list zs)] => match S.getD i .un with
    | .l ds => ds.length + zs.length ≤ 16777216 ∧ force (S.set i (.l (ds ++ zs))) (Q (.d .none))
    | _ => False
  | _, _ => False
theorem sim_extend : SimM rExtend pExtend := by
  intro F G H σ S v x vs xs Qp Q r hp k
  have hl : vs.length = xs.length := by obtain ⟨_, _, r⟩ := r.tl; exact r.vl.len
  unfold pExtend at hp
  split at hp
  · rename_i i zs
    match vs, hl with
    | [u], _ =>
      split at hp
      · rename_i ds e
        have dz := r.tl.dat
        obtain ⟨p, ws, rfl, g1, l1, _, _, chg⟩ := r.chgL e
        cases dz with
        | lst h1 h2 =>
          exact ⟨p, _, ws, _, rfl, rfl, g1, r.lf _ _ h1, by rw [l1.len, h2.len, ← line_eq]; exact hp.1, k.dat (chg _ _ _ But.upd upd_same (LvA.appd l1 h2)) .non (unforce hp.2)⟩
      · exact hp.elim
  · exact hp.elim
/-- the first place of a flat thing -/
def pIndex : PM := fun S x xs Q => match xs with
  | [.d z] => ∃ ds j, asList (look S x) = some ds ∧ flatD z = true ∧ ds.all flatD = true ∧ ds.findIdx? (fun w => PyData.eqv w z) = some j ∧ Q (.d (.int (j : Nat))) S
  | _ => False
theorem sim_index : SimM (rIndex K) pIndex := by
  intro F G H σ S v x vs xs Qp Q r hp k
  have hl : vs.length = xs.length := by obtain ⟨_, _, r⟩ := r.tl; exact r.vl.len
  unfold pIndex at hp
  split at hp
  · rename_i z
    match vs, hl with
    | [u], _ =>
      obtain ⟨ds, j, e1, f1, f2, ej, hp⟩ := hp
      obtain ⟨f, rv⟩ := r.look0
      have dz := r.tl.dat
      obtain ⟨p, ws, rfl, g1, l1⟩ := rv.lst r.lf e1
      obtain ⟨hj, e3, e4⟩ := List.findIdx?_eq_some_iff_getElem.mp ej
      obtain ⟨w, ew, lw⟩ := LvA.nthd l1 (List.getElem?_eq_getElem hj)
      have fl : ∀ d ∈ ds, flatD d = true := List.all_eq_true.mp f2
      refine ⟨p, ws, u, j, w, rfl, rfl, SqL.of g1, flat_lv dz f1, (inV_lv dz f1 l1 f2).2, ew, by rw [eqv_lv lw dz (fl _ (List.getElem_mem hj)) f1]; exact e3, fun m z' hm e' => ?_, k.dat r (.int _) hp⟩
      obtain ⟨d, ed, ld⟩ := LvA.nth l1 e'
      obtain ⟨hm2, ed2⟩ := List.getElem?_eq_some_iff.mp ed
      rw [eqv_lv ld dz (fl _ (ed2 ▸ List.getElem_mem hm2)) f1, ← ed2]
      have := e4 m hm
      simpa using this
  · exact hp.elim
/-- a text's sign by its place -/
def sIxX (to te : TX) : TX := fun S Q => to S fun x S1 => (∃ a, x = .d (.str a)) ∧ te S1 fun y S2 => ∃ a c, x = .d (.str a) ∧ y = .d (.str (tx [c])) ∧ c ∈ tl a ∧ Q (.d (.int ((tl a).idxOf c : Nat))) S2
theorem x_sIx {to te : TX} (h : PE X e (tM1 (fun x xs H Q => ∃ a b i rest, x = .str a ∧ xs = [.str b] ∧ Builtin.Str.occurrences a b 0 a.length 1 = i :: rest ∧ Q (.int (i : Nat)) H) (rw to) (rw te))) : PE X e (rw (sIxX to te)) := PE_imp h fun σ H Q q => by
  obtain ⟨F, G, S, Qp, hr, ht, k⟩ := q
  refine ⟨F, G, S, _, hr, ht, fun v x S1 F1 H1 r1 s1 h1 => ?_⟩
  obtain ⟨⟨a, ea⟩, h1⟩ := h1
  subst ea
  obtain ⟨G1, sg, r2, more⟩ := r1.aside
  cases r1.dat
  refine ⟨⟨a, rfl⟩, F1, G1, S1, _, r2, h1, fun u y S2 F2 H2 r3 s2 h2 => ?_⟩
  have r4 := more _ _ _ _ _ r3 s2
  obtain ⟨a', c, ea, ey, hc, h2⟩ := h2
  cases ea
  subst ey
  cases r4.tl.dat
  obtain ⟨rest, eo⟩ := occ_sign (l := tl a) hc
  rw [tx_tl] at eo
  exact ⟨a, one c, _, rest, rfl, rfl, eo, (k.up (s1.trans s2)).dat r4 (.int _) h2⟩
/-- texts put together -/
def joinX (to te : TX) : TX := fun S Q => to S fun x S1 => x = .d (.str (tx [])) ∧ te S1 fun y S2 => ∃ ds parts, asSeq (look S2 y) = some ds ∧ textsOf ds = some (List.map tx parts) ∧ parts.flatten.length ≤ 16777216 ∧ Q (.d (.str (tx parts.flatten))) S2
theorem x_join {to te : TX} (h : PE X e (tM1 (rJoin K) (rw to) (rw te))) : PE X e (rw (joinX to te)) := PE_imp h fun σ H Q q => by
  obtain ⟨F, G, S, Qp, hr, ht, k⟩ := q
  refine ⟨F, G, S, _, hr, ht, fun v x S1 F1 H1 r1 s1 h1 => ?_⟩
  obtain ⟨ea, h1⟩ := h1
  subst ea
  obtain ⟨G1, sg, r2, more⟩ := r1.aside
  cases r1.dat
  refine ⟨⟨_, rfl⟩, F1, G1, S1, _, r2, h1, fun u y S2 F2 H2 r3 s2 h2 => ?_⟩
  have r4 := more _ _ _ _ _ r3 s2
  obtain ⟨ds, parts, ed, et, few, h2⟩ := h2
  obtain ⟨f, rv⟩ := r3.look0
  obtain ⟨p, ws, rfl, hs, l1⟩ := rv.seq (K := K) r3.lf ed
  cases texts_lv l1 et
  refine ⟨tx [], p, parts.map tx, rfl, rfl, hs, ?_, ?_⟩
  · rw [flat_len, tx_len, List.length_nil, Nat.mul_zero, Nat.add_zero]
    exact few
  · rw [← tx_nil, join_tx]
    exact (k.up (s1.trans s2)).dat r4 (.str _) h2
/-! ### stores -/
variable {kp : Nat → Bool}
def subG (to ti : TX) : TXG := fun x S Q => to (finX S x).2 fun o S1 => ti S1 fun i S2 => match o, i with
  | .al k, .d (.int j) => match S2.getD k .un with
    | .l ds => ∃ n z, ixN ds.length j = some n ∧ (finX S x).1 = .d z ∧ force (S2.set k (.l (ds.set n z))) Q
    | _ => False
  | _, _ => False
theorem xg_sub {to ti : TX} {tg : Expr} (h : PG X tg (gSub (rw to) (rw ti) rSetN)) : PG X tg (rwG kp (subG to ti)) := PG_imp h fun v σ H Q q => by
  obtain ⟨F, G, S, x, Qp, hr, ht, k⟩ := q
  have r0 := hr.finished
  obtain ⟨G1, sg, r1, more1⟩ := r0.aside
  refine ⟨F, G1, _, _, r1, ht, fun vo o S1 F1 H1 r2 s1 h1 => ?_⟩
  obtain ⟨G2, sg2, r3, more2⟩ := r2.aside
  refine ⟨F1, G2, S1, _, r3, h1, fun vi i S2 F2 H2 r4 s2 h2 => ?_⟩
  have r5 := more1 _ _ _ _ _ (more2 _ _ _ _ _ r4 s2) (s1.trans s2)
  -- in hand: the value, the list, the place
  split at h2
  · rename_i kk j
    split at h2
    · rename_i ds e
      obtain ⟨n, z, e1, e2, h2⟩ := h2
      rw [e2] at r5
      have dz := r5.dat
      have r6 := r5.tl
      cases r6.tl.dat
      obtain ⟨p, ws, rfl, g1, l1, _, _, chg⟩ := r6.chgL e
      refine ⟨p, ws, j, n, rfl, rfl, g1, by rw [l1.len]; exact e1, fun H' b e' => ?_⟩
      exact k _ _ _ _ (chg H' _ _ b e' (LvA.sets dz n l1)).rep (s1.trans s2) (Kp.refl ..) (unforce h2)
    · exact h2.elim
  · exact h2.elim
/-- name += int -/
def augS (i : Nat) (te : TX) : TXS := fun D S => ∃ a, S[i]? = some (.d (.int a)) ∧ te S fun y S1 => ∃ b, asInt y = some b ∧ S1[i]? = some (.d (.int a)) ∧ force (S1.set i (.d (.int (a + b)))) D.nx
theorem xs_aug {i : Nat} {te : TX} {st : Stmt} (hk : kp i = false) (h : PS X st (tAug i (rw te) (ipI fun i j => i + j))) : PS X st (rwS kp (augS i te)) := PS_imp h fun D σ H q => by
  obtain ⟨F, G, S, Dp, hr, ht, k⟩ := q
  obtain ⟨a, ea, ht⟩ := ht
  obtain ⟨w, ew, rw0⟩ := hr.nameD ea
  cases rw0.dat
  refine ⟨.int a, ew, F, G, S, _, hr, ht, fun v y S1 F1 H1 r1 s1 h1 => ?_⟩
  obtain ⟨b, eb, _, h1⟩ := h1
  cases int_dat eb
  cases r1.dat
  exact ⟨a, b, rfl, rfl, k.nx _ _ _ _ ((r1.rep.withD (.int (a + b))).setv (fun j z => nomatch z) i) s1 (Kp.set hk) (unforce h1)⟩
/-- name[i] += int -/
def augIx (to ti te : TX) : TXS := fun D S => to S fun o S1 => ti S1 fun i S2 => ∃ k n ds a, o = .al k ∧ i = .d (.int ((n : Nat) : Int)) ∧ S2.getD k .un = .l ds ∧ ds[n]? = some (.int a) ∧
  te S2 fun y S3 => ∃ b, asInt y = some b ∧ S3.getD k .un = .l ds ∧ force (S3.set k (.l (ds.set n (.int (a + b))))) D.nx
theorem xs_augIx {to ti te : TX} {st : Stmt} (h : PS X st (tAugS (rw to) (rw ti) (rw te) rGetN (ipI fun i j => i + j) rSetN)) : PS X st (rwS kp (augIx to ti te)) := PS_imp h fun D σ H q => by
  obtain ⟨F, G, S, Dp, hr, ht, kk⟩ := q
  refine ⟨F, G, S, _, hr, ht, fun vo o S1 F1 H1 r1 s1 h1 => ?_⟩
  obtain ⟨G1, sg, r2, more⟩ := r1.aside
  refine ⟨F1, G1, S1, _, r2, h1, fun vi i S2 F2 H2 r3 s2 h2 => ?_⟩
  obtain ⟨k, n, ds, a, rfl, rfl, e, ea, h2⟩ := h2
  have r4 := more _ _ _ _ _ r3 s2
  obtain ⟨p, ws, rfl, g1, l1, _, _, chg⟩ := r4.chgL e
  cases r4.tl.dat
  obtain ⟨w, ew, lw⟩ := LvA.nthd l1 ea
  cases lw
  refine ⟨p, ws, n, .int a, rfl, rfl, g1, ew, ?_⟩
  obtain ⟨G2, sg2, r5, more2⟩ := r4.aside
  refine ⟨F2, G2, S2, _, r5, h2, fun vy y S3 F3 H3 r6 s3 h3 => ?_⟩
  obtain ⟨b, eb, e3, h3⟩ := h3
  cases int_dat eb
  cases r6.dat
  have r7 := more2 _ _ _ _ _ r6 s3
  obtain ⟨p', ws', ep, g3, l3, _, _, chg3⟩ := r7.chgL e3
  cases ep
  have hn : n < ds.length := (List.getElem?_eq_some_iff.mp ea).1
  refine ⟨a, b, rfl, rfl, p, ws', (n : Int), n, rfl, rfl, g3, ?_, fun H' bb e' => ?_⟩
  · rw [l3.len]
    unfold ixN
    rw [if_pos (by omega), if_pos (by omega)]
    rfl
  · exact kk.nx _ _ _ _ (chg3 H' _ _ bb e' (LvA.sets (.int _) n l3)).rep ((s1.trans s2).trans s3) (Kp.refl ..) (unforce h3)
/-! ### range, zip, enumerate -/
def rangeD (lo : Int) (n : Nat) : List PyData := (List.range n).map fun k => .int (lo + (k : Nat))
theorem walkX_range {lo : Int} {n : Nat} : WalkX (Itr lo n) (rangeD lo n) F :=
  ⟨fun _ => True, _, by unfold rangeD; rw [List.length_map, List.length_range]; exact walk_range, fun _ _ => trivial, fun k H x H' hk s y => by
    obtain ⟨rfl, rfl⟩ := y
    unfold rangeD at hk
    rw [List.length_map, List.length_range] at hk
    refine ⟨Same.refl _, .int (lo + (k : Nat)), ?_, .inl (.int _)⟩
    unfold rangeD
    rw [List.getElem?_map, List.getElem?_range hk]
    rfl⟩
def rng1I (t : TXA) : TXI := fun S Q => t S fun xs S1 => ∃ j, xs = [.d (.int j)] ∧ (-1000000000 ≤ j ∧ j ≤ 1000000000) ∧ Q (rangeD 0 j.toNat) S1
def rng2I (t : TXA) : TXI := fun S Q => t S fun xs S1 => ∃ i j, xs = [.d (.int i), .d (.int j)] ∧ (-1000000000 ≤ i ∧ i ≤ 1000000000 ∧ -1000000000 ≤ j ∧ j ≤ 1000000000) ∧ Q (rangeD i (j - i).toNat) S1
theorem PI_imp {tg it : Expr} {w w' : TI} (h : PI X tg it w) (i : ∀ σ H R, w' σ H R → w σ H R) : PI X tg it w' := ⟨fun pins s σ H R I q => h.run pins s σ H R I (i _ _ _ q)⟩
theorem xi_rng1 {tg : Expr} (h : PI X tg e (iRng1 (rwA tr))) : PI X tg e (rwI (rng1I tr)) := PI_imp h fun σ H R q => by
  obtain ⟨F, G, S, Ip, hr, ht, k⟩ := q
  refine ⟨F, G, S, _, hr, ht, fun vs xs S1 F1 H1 r1 s1 h1 => ?_⟩
  obtain ⟨j, rfl, b, h1⟩ := h1
  have hl : vs.length = 1 := by obtain ⟨_, _, r⟩ := r1; exact r.vl.len
  match vs, hl with
  | [v], _ =>
    cases r1.dat
    exact ⟨j, rfl, by omega, by omega, k _ _ _ _ _ r1.rep s1 walkX_range h1⟩
theorem xi_rng2 {tg : Expr} (h : PI X tg e (iRng2 (rwA tr))) : PI X tg e (rwI (rng2I tr)) := PI_imp h fun σ H R q => by
  obtain ⟨F, G, S, Ip, hr, ht, k⟩ := q
  refine ⟨F, G, S, _, hr, ht, fun vs xs S1 F1 H1 r1 s1 h1 => ?_⟩
  obtain ⟨i, j, rfl, b, h1⟩ := h1
  have hl : vs.length = 2 := by obtain ⟨_, _, r⟩ := r1; exact r.vl.len
  match vs, hl with
  | [v, u], _ =>
    cases r1.dat
    cases r1.tl.dat
    exact ⟨i, j, rfl, ⟨by omega, by omega, by omega, by omega⟩, k _ _ _ _ _ r1.rep s1 walkX_range h1⟩
/-- what is walked by zip, enumerate: data -/
def seqD : PyData → Option (List PyData)
  | .tuple a => some a
  | .list a => some a
  | .str z => some ((tl z).map fun c => .str (tx [c]))
  | _ => none
theorem over_lv {d : PyData} {a : List PyData} (h : Lv F v d) (e : seqD d = some a) : ∃ (k : K3) (ws : List V), v = k.v ∧ (∀ H, Same F H → k.over K H ws) ∧ LvA F ws a := by
  cases h with
  | tup h1 h2 => cases e; exact ⟨.t _, _, rfl, fun H s => SqT.of (s _ _ h1), h2⟩
  | lst h1 h2 => cases e; exact ⟨.l _, _, rfl, fun H s => SqL.of (s _ _ h1), h2⟩
  | str z => cases e; exact ⟨.s z, _, rfl, fun H s => rfl, sgs_lv _⟩
  | _ => cases e
def pairsD (a b : List PyData) : List PyData := List.zipWith (fun x y => .tuple [x, y]) a b
def zipI (t : TXA) : TXI := fun S Q => t S fun xs S1 => ∃ d d' a b, (frzA S1 xs).1 = [.d d, .d d'] ∧ seqD d = some a ∧ seqD d' = some b ∧ Q (pairsD a b) (frzA S1 xs).2
def enumI (t : TXA) : TXI := fun S Q => t S fun xs S1 => ∃ d a, (frzA S1 xs).1 = [.d d] ∧ seqD d = some a ∧ Q (pairsD (rangeD 0 a.length) a) (frzA S1 xs).2
theorem xi_zip {tg : Expr} (h : PI X tg e (iZip2 K (rwA tr))) : PI X tg e (rwI (zipI tr)) := PI_imp h fun σ H R q => by
  obtain ⟨F, G, S, Ip, hr, ht, k⟩ := q
  refine ⟨F, G, S, _, hr, ht, fun vs xs S1 F1 H1 r1 s1 h1 => ?_⟩
  obtain ⟨d, d', a, b, ex, ea, eb, h1⟩ := h1
  obtain ⟨F2, s2, r2⟩ := r1.frzs
  rw [ex] at r2
  have hl : vs.length = 2 := by obtain ⟨_, _, r⟩ := r2; exact r.vl.len
  match vs, hl with
  | [v, u], _ =>
    obtain ⟨k1, ws1, rfl, o1, l1⟩ := over_lv (K := K) r2.dat ea
    obtain ⟨k2, ws2, rfl, o2, l2⟩ := over_lv (K := K) r2.tl.dat eb
    refine ⟨k1, k2, ws1, ws2, rfl, o1 _ r2.lf, o2 _ r2.lf, k _ _ _ _ _ r2.rep (s1.trans s2) ⟨_, _, walk_zip2 (k := k1) (m := k2) (xs := ws1) (ys := ws2) ?_, fun H s => ⟨o1 H s, o2 H s⟩, fun n H x H' hn s y => ?_⟩ h1⟩
    · unfold pairsD
      rw [List.length_zipWith, l1.len, l2.len]
    · obtain ⟨T, x1, x2, rfl, sH, eT, e1, e2⟩ := y
      obtain ⟨z1, g1, q1⟩ := LvA.nth l1 e1
      obtain ⟨z2, g2, q2⟩ := LvA.nth l2 e2
      refine ⟨sH, .tuple [z1, z2], ?_, .inr (.inl ⟨T, _, [z1, z2], rfl, eT, .cons q1 (.cons q2 .nil), rfl⟩)⟩
      unfold pairsD
      rw [List.getElem?_zipWith, g1, g2]
theorem xi_enum {tg : Expr} (h : PI X tg e (iEnumA K (rwA tr))) : PI X tg e (rwI (enumI tr)) := PI_imp h fun σ H R q => by
  obtain ⟨F, G, S, Ip, hr, ht, k⟩ := q
  refine ⟨F, G, S, _, hr, ht, fun vs xs S1 F1 H1 r1 s1 h1 => ?_⟩
  obtain ⟨d, a, ex, ea, h1⟩ := h1
  obtain ⟨F2, s2, r2⟩ := r1.frzs
  rw [ex] at r2
  have hl : vs.length = 1 := by obtain ⟨_, _, r⟩ := r2; exact r.vl.len
  match vs, hl with
  | [v], _ =>
    obtain ⟨k1, ws1, rfl, o1, l1⟩ := over_lv (K := K) r2.dat ea
    have el : (pairsD (rangeD 0 a.length) a).length = ws1.length := by
      unfold pairsD rangeD
      rw [List.length_zipWith, List.length_map, List.length_range, Nat.min_self, l1.len]
    refine ⟨k1, ws1, rfl, o1 _ r2.lf, k _ _ _ _ _ r2.rep (s1.trans s2) ⟨_, _, by rw [el]; exact walk_each (k := k1) (xs := ws1), fun H s => o1 H s, fun n H x H' hn s y => ?_⟩ h1⟩
    obtain ⟨T, x1, x2, rfl, sH, eT, e1, e2⟩ := y
    cases e1
    obtain ⟨z2, g2, q2⟩ := LvA.nth l1 e2
    have hn2 := (List.getElem?_eq_some_iff.mp g2).1
    refine ⟨sH, .tuple [.int (n : Nat), z2], ?_, .inr (.inl ⟨T, _, [.int (n : Nat), z2], rfl, eT, .cons (.int _) (.cons q2 .nil), rfl⟩)⟩
    unfold pairsD rangeD
    rw [List.getElem?_zipWith, List.getElem?_map, List.getElem?_range hn2, g2]
    simp
end
end Px


namespace Px
open PySem PySem.Spec PyProof.Rows L2 Fo TL
section
variable {X : Cx} {e : Expr} {pos : Pos} {kp : Nat → Bool}
/-- a written text, by its codes -/
theorem x_str {x : Str} {j : Nat ⊕ Unit} {cs : Cs} {t : TE} (h : PE X e t) (ht : t = tC (.str x)) (hx : x = tx cs) : PE X e (rw (valX (.d (.str (tx cs))))) := by
  subst ht
  subst hx
  exact x_val h (.str _)
theorem x_strC {x : Str} {cs : Cs} (h : PE X e (tC (.str x))) (hx : x = tx cs) : PE X e (rw (valX (.d (.str (tx cs))))) := by
  subst hx
  exact x_val h (.str _)
theorem pe_globI {x : Str} {n : Int} (hg : Gl X x) (hm : ∃ t, X.mg x = some (.int n t)) (hd : (x == ("__debug__" : Str)) = false := by decide) : PE X (.Name x pos) (tC (.int n)) := by
  obtain ⟨t, h⟩ := hm
  exact pe_glob hg h ⟨t, rfl⟩ hd
theorem pe_globS {x z : Str} (hg : Gl X x) (hm : ∃ t, X.mg x = some (.str z t)) (hd : (x == ("__debug__" : Str)) = false := by decide) : PE X (.Name x pos) (tC (.str z)) := by
  obtain ⟨t, h⟩ := hm
  exact pe_glob hg h ⟨t, rfl⟩ hd
def negX (t : TX) : TX := fun S Q => t S fun x S1 => ∃ i, asInt x = some i ∧ Q (.d (.int (-i))) S1
theorem x_neg {ta : TX} (h : PE X e (tUn (rU fun i => .int (-i)) (rw ta))) : PE X e (rw (negX ta)) := PE_imp h fun σ H Q q => by
  obtain ⟨F, G, S, Qp, hr, ht, k⟩ := q
  refine ⟨F, G, S, _, hr, ht, fun v x S1 F1 H1 r1 s1 h1 => ?_⟩
  obtain ⟨i, ei, h1⟩ := h1
  cases int_dat ei
  cases r1.dat
  exact ⟨i, rfl, k _ _ _ _ _ (r1.rep.withD (.int (-i))) s1 h1⟩
theorem kMt (K : PySem.W.Frag) (e : X.K = K) {id : String} {r : PySem.W.Frag → V → List V → Hp → VK → Prop} (h : MtR X id (r X.K)) : MtR X id (r K) := e ▸ h
/-! comprehensions -/
theorem x_lc {ti : TXI} {g : TXG} {tt : TXT} {te : TX} {ws : List Nat} (h : PE X e (tLc (rwI ti) (rwG (kpOf ws) g) (rwT tt) (rw te) ws)) : PE X e (rw (lcX ti g tt te ws)) := PE_imp h fun _ _ _ q => lc_sim (fun _ _ _ z => z) q
theorem x_lc0 {ti : TXI} {g : TXG} {te : TX} {ws : List Nat} (h : PE X e (tLc (rwI ti) (rwG (kpOf ws) g) tYes (rw te) ws)) : PE X e (rw (lcX ti g yesT te ws)) := PE_imp h fun _ _ _ q => lc_sim (fun _ _ _ z => yes_sim z) q
theorem xs_setLc {ti : TXI} {g : TXG} {tt : TXT} {te : TX} {ws : List Nat} {i : Nat} {st : Stmt} (hk : kp i = false) (h : PS X st (tAsg (tLc (rwI ti) (rwG (kpOf ws) g) (rwT tt) (rw te) ws) (gName i))) : PS X st (rwS kp (setS i (lcX ti g tt te ws))) :=
  PS_imp h fun _ _ _ q => lc_sim (fun _ _ _ z => z) (set_sim hk q)
theorem xs_setLc0 {ti : TXI} {g : TXG} {te : TX} {ws : List Nat} {i : Nat} {st : Stmt} (hk : kp i = false) (h : PS X st (tAsg (tLc (rwI ti) (rwG (kpOf ws) g) tYes (rw te) ws) (gName i))) : PS X st (rwS kp (setS i (lcX ti g yesT te ws))) :=
  PS_imp h fun _ _ _ q => lc_sim (fun _ _ _ z => yes_sim z) (set_sim hk q)
/-! calls of defs -/
theorem x_call {c : Ct} {dv : List V} {dx : List PV} {ta : TXA} {E : XK} (cd : CvA dv dx) (h : PE X e (tCall (spP c) dv E (rwA ta))) : PE X e (rw (callF c dx ta)) := PE_imp h fun _ _ _ q => callF_sim cd q
/-- by keywords behind places -/
def callK (c : Ct) (t tk : TXA) : TX := fun S Q => t S fun xs S1 => tk S1 fun ys S2 => c (takeX S2 (xs ++ ys)).1 fun r as' => force (giveX (takeX S2 (xs ++ ys)).2 (xs ++ ys) as') (Q r)
theorem callK_sim {c : Ct} {ta tk : TXA} {gV : List V → List V → List V} (hg : ∀ vs zs, gV vs zs = vs ++ zs) {E : XK} {σ : L2.St} {H : Hp} {Q : VK} (q : rw (callK c ta tk) σ H Q) : tCallK (spP c) gV E (rwA ta) (rwA tk) σ H Q := by
  obtain ⟨F, G, S, Qp, hr, ht, k⟩ := q
  refine ⟨F, G, S, _, hr, ht, fun vs xs S1 F1 H1 r1 s1 h1 => ?_⟩
  obtain ⟨G1, sg, r2, more⟩ := r1.aside
  refine ⟨F1, G1, S1, _, r2, h1, fun us ys S2 F2 H2 r3 s2 h2 => ?_⟩
  have r4 := more _ _ _ _ _ r3 s2
  obtain ⟨G2, rc, back⟩ := r4.callee
  show spP c (gV vs us) H2 Q E
  rw [hg]
  exact ⟨F2, G2, _, _, rc, h2, fun v r as' F' H' r5 s3 q2 => k _ _ _ _ _ (back _ _ _ _ _ r5 s3) ((s1.trans s2).trans s3) (unforce q2)⟩
theorem x_callK {c : Ct} {ta tk : TXA} {E : XK} (h : PE X e (tCallK (spP c) (fun vs zs => vs ++ zs) E (rwA ta) (rwA tk))) : PE X e (rw (callK c ta tk)) := PE_imp h fun _ _ _ q => callK_sim (fun _ _ => rfl) q
theorem xk_nil : PK X [] (rwA nilA) := ⟨fun pos pins s σ H Q I q => (pk_nil (X := X)).run pos pins s σ H Q I (by
  obtain ⟨F, G, S, Qp, hr, ht, k⟩ := q
  exact k [] [] _ _ _ hr (Same.refl _) ht)⟩
theorem xk_cons {nm : Option Str} {kpos : Pos} {kws : List Keyword} {te : TX} {t : TXA} (ha : PE X e (rw te)) (hr : PK X kws (rwA t)) : PK X (⟨nm, e, kpos⟩ :: kws) (rwA (consA te t)) := ⟨fun pos pins s σ H Q I q => (pk_cons ha hr).run pos pins s σ H Q I (by
  obtain ⟨F, G, S, Qp, hr, ht, k⟩ := q
  refine ⟨F, G, S, _, hr, ht, fun v x S1 F1 H1 r1 s1 h1 => ?_⟩
  obtain ⟨G1, sg, r2, more⟩ := r1.aside
  exact ⟨F1, G1, S1, _, r2, h1, fun us ys S2 F2 H2 r3 s2 h2 => k _ _ _ _ _ (more _ _ _ _ _ r3 s2) (s1.trans s2) h2⟩)⟩
/-! two names at once -/
def parS (i j : Nat) (ta : TXA) : TXS := fun D S => ta S fun xs S1 => match (takeX S1 xs).1 with
  | [x, y] => force (((takeX S1 xs).2.set i x).set j y) D.nx
  | _ => False
theorem xs_par {i j : Nat} {ta : TXA} {st : Stmt} (hi : kp i = false) (hj : kp j = false) (h : PS X st (tPar i j (rwA ta))) : PS X st (rwS kp (parS i j ta)) := PS_imp h fun D σ H q => by
  obtain ⟨F, G, S, Dp, hr, ht, k⟩ := q
  refine ⟨F, G, S, _, hr, ht, fun vs xs S1 F1 H1 r1 s1 h1 => ?_⟩
  have hl : vs.length = xs.length := by obtain ⟨_, _, r⟩ := r1; exact r.vl.len
  have hm := RepA.takeAll (dv := []) (done := []) hl (by rw [List.append_nil, List.append_nil]; exact r1) (fun _ m => nomatch m)
  rw [List.nil_append, List.nil_append] at hm
  generalize (takeX S1 xs).1 = as at hm h1
  generalize (takeX S1 xs).2 = S2 at hm h1
  obtain ⟨r2, na⟩ := hm
  have hl2 : vs.length = as.length := by obtain ⟨_, _, r⟩ := r2; exact r.vl.len
  split at h1
  · rename_i x y
    match vs, hl2 with
    | [v, w], _ =>
      obtain ⟨G1, sg, r3, more⟩ := RepA.aside2 (vs := [v]) (xs := [x]) r2 rfl
      have r4 := r3.setv (fun m z => na x (List.mem_cons_self ..) m z) i
      have r5 := more _ _ _ _ [] [] r4 (Same.refl _) (.inr fun z m => na z (List.mem_cons_of_mem _ m))
      rw [List.append_nil, List.append_nil] at r5
      have r6 := r5.setv (fun m z => na y (List.mem_cons_of_mem _ (List.mem_cons_self ..)) m z) j
      exact ⟨v, w, rfl, k.nx _ _ _ _ r6 s1 ((Kp.set hi).trans (Kp.set hj)) (unforce h1)⟩
  · exact h1.elim
end
/-! ### a def, whole -/
section
variable {P : Program} {w : World} {K : PySem.W.Frag} {mg : Str → Option Value} {base : Heap}
theorem okP {x qual : Str} {st : Stmt} {f : Addr} {fd : FuncData} {N ps : List Str} {k : Nat} {c : Ct} (F : Fun K x qual st f fd) (S : FnScope N ps (defScope st)) (mask : List Bool) (hm : mask.length = ps.length) (hN : mask.length ≤ N.length) (len : ∀ as Q, c as Q → as.length = ps.length)
    (body : ∀ (cdv : Value) (A : Around) (outer : List Env) (s : Shared) (H : Hp) (E : XK), Room k (A.deeper (envOfC qual (defScope st) s.heap.objs.size f cdv)) →
      ∃ t : TXS, PSs (cxOf CX0 P w K mg base N qual (defScope st) f cdv A outer s H E).nox (defBody st) (rwS (kpM mask) t) ∧ ∀ as Qc, c as Qc → force (as ++ List.replicate (N.length - mask.length) .un) (t (dnC mask Qc))) :
    FnOk P w K mg base CX0 (k + 1) f fd ps (spP c) := by
  refine F.ok S (fun vs H Q E h => spP_len len h) (fun cdv A outer s H vs Q E hr h => ?_)
  obtain ⟨t, ht, hb⟩ := body cdv A outer s H E hr
  exact ⟨_, ht, enter h ((spP_len len h).trans hm.symm) hN fun as Qc hc _ => unforce (hb as Qc hc)⟩
end
end Px

namespace Px
open PySem PySem.Spec PyProof.Rows L2 Fo TL
section
variable {F F' F0 G G' H H' : Hp} {σ σ' : L2.St} {S : List PV} {v u : V} {vs us : List V} {xs ys : List PV} {x y : PV}
theorem pickT {b : Bool} {A B : Prop} (e : b = true) (h : A) : pick b A B := by subst e; exact h
theorem pickF {b : Bool} {A B : Prop} (e : b = false) (h : B) : pick b A B := by subst e; exact h
theorem nYes {b : Bool} (e : b = true) : (!b) = false := by subst e; rfl
theorem nNo {b : Bool} (e : b = false) : (!b) = true := by subst e; rfl
theorem yesD {p : Prop} {h : Decidable p} (e : p) : @decide p h = true := decide_eq_true e
theorem noD {p : Prop} {h : Decidable p} (e : ¬p) : @decide p h = false := decide_eq_false e
theorem okT {Q : KP} {b : Bool} {as : List PV} (e : b = true) (q : Q (.d (.bool true)) as) : Q (.d (.bool b)) as := e ▸ q
theorem pairs_in {α β : Type} {f : α → PyData} {g : β → PyData} {A : List α} {B : List β} {x : PyData} (h : x ∈ pairsD (A.map f) (B.map g)) : ∃ (k : Nat) (a : α) (b : β), A[k]? = some a ∧ B[k]? = some b ∧ x = .tuple [f a, g b] := by
  obtain ⟨k, e⟩ := List.getElem?_of_mem h
  unfold pairsD at e
  rw [List.getElem?_zipWith, List.getElem?_map, List.getElem?_map] at e
  cases ea : A[k]? with
  | none => rw [ea] at e; cases e
  | some a =>
    cases eb : B[k]? with
    | none => rw [ea, eb] at e; cases e
    | some b => rw [ea, eb] at e; exact ⟨k, a, b, ea, eb, (Option.some.inj e).symm⟩
theorem pairs_zip {α β : Type} {f : α → PyData} {g : β → PyData} (A : List α) (B : List β) : pairsD (A.map f) (B.map g) = (A.zip B).map fun p => .tuple [f p.1, g p.2] := by
  unfold pairsD
  rw [List.zipWith_map, List.zip, List.map_zipWith]
theorem pairs_few {a b : List PyData} {n : Nat} (h : a.length < n) : (pairsD a b).length < n := by
  unfold pairsD
  rw [List.length_zipWith]
  omega
theorem cut_from {α : Type} (xs : List α) (n : Nat) : cutD xs (some (n : Int)) none = xs.drop n := by
  unfold cutD
  rw [HT.sIx_nat, HT.sIx_none]
  by_cases h : n ≤ xs.length
  · rw [Nat.min_eq_left h, List.take_of_length_le (by rw [List.length_drop]; exact Nat.le_refl _)]
  · rw [Nat.min_eq_right (by omega), Nat.sub_self, List.take_zero, List.drop_of_length_le (by omega)]
theorem cut_mid {α : Type} (xs : List α) {a b : Nat} (h : a ≤ b) (hb : b ≤ xs.length) : cutD xs (some (a : Int)) (some (b : Int)) = (xs.take b).drop a := by
  unfold cutD
  rw [HT.sIx_nat, HT.sIx_nat, Nat.min_eq_left (show a ≤ xs.length by omega), Nat.min_eq_left hb, List.drop_take]
theorem cut_to {α : Type} (xs : List α) (n : Nat) : cutD xs none (some (n : Int)) = xs.take n := by
  unfold cutD
  rw [HT.sIx_nat, HT.sIx_none, List.drop_zero, Nat.sub_zero]
  by_cases h : n ≤ xs.length
  · rw [Nat.min_eq_left h]
  · rw [Nat.min_eq_right (by omega), List.take_of_length_le (Nat.le_refl _), List.take_of_length_le (by omega)]
/-- of mapped things the k-th -/
theorem at_map {α : Type} {f : α → PyData} {l : List α} {k : Nat} {x : PyData} (e : (l.map f)[k]? = some x) : ∃ a, l[k]? = some a ∧ x = f a := by
  rw [List.getElem?_map] at e
  cases h : l[k]? with
  | none => rw [h] at e; cases e
  | some a => rw [h] at e; exact ⟨a, rfl, (Option.some.inj e).symm⟩
theorem range_map {n : Nat} : rangeD 0 n = (List.range n).map fun k => PyData.int (k : Nat) := by
  unfold rangeD
  refine List.map_congr_left fun k _ => ?_
  rw [Int.zero_add]
theorem sgs_map {t : Cs} : ((tl (tx t)).map fun c => PyData.str (tx [c])) = t.map fun c => PyData.str (tx [c]) := by rw [tl_tx]
theorem lc_of {α : Type} {g : TXG} {te : TX} {ws : List Nat} {Q : KP} {its : List PyData} {S0 : List PV} (l : List α) (f h : α → PyData) (e : its = l.map f) (few : l.length < 16777216)
    (hs : ∀ x ∈ l, ∀ R : KP, (∀ S4, wipeX S4 ws = wipeX S0 ws → R (.d (h x)) S4) → g (.d (f x)) (wipeX S0 ws) fun S2 => te S2 R) (hd : Q (.l (l.map h)) (wipeX S0 ws)) : LcR g yesT te ws Q its S0 := by
  subst e
  refine ⟨by rw [List.length_map]; exact few, fun k acc S => S = wipeX S0 ws ∧ acc = (l.take k).map h, ⟨rfl, rfl⟩, fun k x acc S e hl q => ?_, fun acc S hl q => ?_⟩
  · obtain ⟨rfl, rfl⟩ := q
    obtain ⟨a, ea, rfl⟩ := at_map e
    exact hs a (List.mem_of_getElem? ea) (fun y S4 => ∃ z, y = .d z ∧ force (wipeX S4 ws) fun S => S = wipeX S0 ws ∧ (l.take k).map h ++ [z] = (l.take (k + 1)).map h) fun S4 e4 => ⟨_, rfl, doforce ⟨e4, by
      rw [take_snoc ea, List.map_append]
      rfl⟩⟩
  · obtain ⟨rfl, rfl⟩ := q
    rw [List.length_map, List.take_length]
    exact hd
theorem lc_fil {α : Type} {g : TXG} {tt : TXT} {te : TX} {ws : List Nat} {Q : KP} {its : List PyData} {S0 : List PV} (l : List α) (f h : α → PyData) (p : α → Bool) (e : its = l.map f) (few : l.length < 16777216)
    (hs : ∀ x ∈ l, ∀ (R : KP) (N : List PV → Prop), (p x = true → ∀ S4, wipeX S4 ws = wipeX S0 ws → R (.d (h x)) S4) → (p x = false → ∀ S4, wipeX S4 ws = wipeX S0 ws → N S4) → g (.d (f x)) (wipeX S0 ws) fun S2 => tt S2 fun b S3 => pick b (te S3 R) (N S3))
    (hd : Q (.l ((l.filter p).map h)) (wipeX S0 ws)) : LcR g tt te ws Q its S0 := by
  subst e
  refine ⟨by rw [List.length_map]; exact few, fun k acc S => S = wipeX S0 ws ∧ acc = ((l.take k).filter p).map h, ⟨rfl, rfl⟩, fun k x acc S e hl q => ?_, fun acc S hl q => ?_⟩
  · obtain ⟨rfl, rfl⟩ := q
    obtain ⟨a, ea, rfl⟩ := at_map e
    refine hs a (List.mem_of_getElem? ea) (fun y S4 => ∃ z, y = .d z ∧ force (wipeX S4 ws) fun S => S = wipeX S0 ws ∧ ((l.take k).filter p).map h ++ [z] = ((l.take (k + 1)).filter p).map h) (fun S3 => force (wipeX S3 ws) fun S => S = wipeX S0 ws ∧ ((l.take k).filter p).map h = ((l.take (k + 1)).filter p).map h) (fun pa S4 e4 => ⟨_, rfl, doforce ⟨e4, ?_⟩⟩) (fun pa S4 e4 => doforce ⟨e4, ?_⟩)
    · rw [take_snoc ea, List.filter_append, List.map_append, List.filter_cons_of_pos pa]
      rfl
    · rw [take_snoc ea, List.filter_append, List.map_append, List.filter_cons_of_neg (by rw [pa]; exact Bool.false_ne_true)]
      exact (List.append_nil _).symm
  · obtain ⟨rfl, rfl⟩ := q
    rw [List.length_map, List.take_length]
    exact hd
theorem neB {a b : Bool} (e : a = b) : (true ^^ (a == b)) = false := by subst e; cases a <;> rfl
theorem eqB {a b : Bool} (e : a = b) : (false ^^ (a == b)) = true := by subst e; cases a <;> rfl
theorem neD {p : Prop} {h : Decidable p} (e : p) : (true ^^ @decide p h) = false := by rw [decide_eq_true e]; rfl
theorem eqD {p : Prop} {h : Decidable p} (e : p) : (false ^^ @decide p h) = true := by rw [decide_eq_true e]; rfl
theorem notD {p : Prop} {h : Decidable p} (e : ¬p) : (true ^^ @decide p h) = true := by rw [decide_eq_false e]; rfl
/-- a pen from which so many more can be taken -/
def APen (n : Nat) : Asr where
  R := fun _ H v fs => ∃ p c, v = .ref p ∧ fs = [p, c] ∧ Pen H p c n
  stay := fun {F F' H H' v fs} h _ k => by
    obtain ⟨p, c, rfl, rfl, cs, n0, l, h1, h2, h3, h4, h5⟩ := h
    exact ⟨p, c, rfl, rfl, cs, n0, l, by rw [k p (by simp)]; exact h1, by rw [k c (by simp)]; exact h2, h3, h4, h5⟩
  has := fun {F H v fs} h a m => by
    obtain ⟨p, c, rfl, rfl, cs, n0, l, h1, h2, h3, h4, h5⟩ := h
    rcases List.mem_cons.mp m with rfl | m
    · exact ⟨_, h1, fun _ z => nomatch z⟩
    · rw [List.mem_singleton.mp m]
      exact ⟨_, h2, fun _ z => nomatch z⟩
abbrev pen (n : Nat) : PV := .o (APen n)
/-- the script -/
def AScr (K : PySem.W.Frag) (ns : List Int) : Asr where
  R := fun F _ v fs => ∃ a, v = .ref a ∧ fs = [] ∧ SqL K F a (ns.map V.int)
  stay := fun {F F' H H' v fs} h s _ => by
    obtain ⟨a, rfl, rfl, h⟩ := h
    exact ⟨a, rfl, rfl, s.seq h⟩
  has := fun {F H v fs} h a m => by
    obtain ⟨b, rfl, rfl, h⟩ := h
    cases m
/-- an own thing in hand is changed -/
theorem RepA.chgHand {A : Asr} (h : RepA F G H [] [] (v :: vs) (.o A :: xs)) : ∃ f, A.R F H v f ∧ f.Nodup ∧ (∀ a ∈ f, F a = none ∧ G a = none) ∧ ∀ (H' : Hp) (A' : Asr), (∀ a o, a ∉ f → H a = some o → H' a = some o) → A'.R F H' v f → RepA F G H' [] [] (v :: vs) (.o A' :: xs) := by
  obtain ⟨fv, fs, h⟩ := h
  cases h.sl
  have nd := h.nd
  have off := h.off
  rw [List.append_nil] at nd off
  cases hv : h.vl with
  | cons h1 h2 =>
    rename_i f g
    cases h1 with
    | o h1 =>
      have n := List.nodup_append.mp nd
      refine ⟨f, h1, n.1, fun a m => off a (List.mem_append_left _ m), fun H' A' k r' => ?_⟩
      have keepK : ∀ {K : Hp}, Same K H → (∀ a ∈ f, K a = none) → Same K H' := fun {K} sk z a o q => k a o (fun m => by rw [z a m] at q; cases q) (sk a o q)
      have keep : ∀ a ∈ g, H' a = H a := fun a m => by
        obtain ⟨o, e, _⟩ := h2.has _ _ _ a m
        rw [e]
        exact k a o (fun z => n.2.2 a z a m rfl) e
      exact ⟨f ++ g, [], keepK h.lf fun a m => (off a (List.mem_append_left _ m)).1, keepK h.lg fun a m => (off a (List.mem_append_left _ m)).2, .nil, RVs.cons (.o r') (h2.stay (fun _ _ q => q) _ _ _ keep), by rw [List.append_nil]; exact nd, by rw [List.append_nil]; exact off, h.dj⟩
theorem RepA.consD {z : PyData} (h : RepA F G H σ S vs xs) (l : Lv F v z) : RepA F G H σ S (v :: vs) (.d z :: xs) := by
  obtain ⟨fv, fs, h⟩ := h
  exact ⟨fv, fs, h.lf, h.lg, h.sl, RVs.cons (f := []) (.d l) h.vl, h.nd, h.off, h.dj⟩
/-- a def that changes nothing and hands back data -/
theorem dat_of {F G : Hp} {vs : List V} {H : Hp} {Q : VK} {as : List PV} {Qc : KP} {z : PyData} (hr : RepA F G H [] [] vs as) (k : ∀ v r as' F' H', RepA F' G H' [] [] (v :: vs) (r :: as') → Same F F' → Qc r as' → Q v H') (q : Qc (.d z) as) {v : V} {H' : Hp} (s : Same H H') (l : Lv F v z) : Q v H' :=
  k _ _ _ _ _ (RepA.consD (RepA.same hr s) l) (Same.refl _) q
/-! new data of tuples: what it stands on is laid in F -/
end
mutual
theorem tv_laid {G H : Hp} {σ : L2.St} {S : List PV} {vs : List V} {xs : List PV} : ∀ (d : PyData) (v : V) (F : Hp), RepA F G H σ S vs xs → Tv H v d → ∃ F', Same F F' ∧ RepA F' G H σ S vs xs ∧ Lv F' v d
  | .none, _, F, r, h => by cases h; exact ⟨F, Same.refl _, r, .non⟩
  | .bool b, _, F, r, h => by cases h; exact ⟨F, Same.refl _, r, .bl b⟩
  | .int i, _, F, r, h => by cases h; exact ⟨F, Same.refl _, r, .int i⟩
  | .str x, _, F, r, h => by cases h; exact ⟨F, Same.refl _, r, .str x⟩
  | .tuple ds, _, F, r, h => by
    cases h with
    | tup h1 h2 =>
      obtain ⟨F1, s1, r1, l1⟩ := tva_laid ds _ F r h2
      obtain ⟨F2, s2, e2, r2⟩ := RepA.tup r1 (Same.refl H) h1
      exact ⟨F2, s1.trans s2, r2, .tup e2 (LvA.sm s2 _ _ l1)⟩
  | .list _, _, _, _, h => by cases h
  | .dict _, _, _, _, h => by cases h
theorem tva_laid {G H : Hp} {σ : L2.St} {S : List PV} {vs : List V} {xs : List PV} : ∀ (ds : List PyData) (us : List V) (F : Hp), RepA F G H σ S vs xs → TvA H us ds → ∃ F', Same F F' ∧ RepA F' G H σ S vs xs ∧ LvA F' us ds
  | [], _, F, r, h => by cases h; exact ⟨F, Same.refl _, r, .nil⟩
  | d :: ds, _, F, r, h => by
    cases h with
    | cons h1 h2 =>
      obtain ⟨F1, s1, r1, l1⟩ := tv_laid d _ F r h1
      obtain ⟨F2, s2, r2, l2⟩ := tva_laid ds _ F1 r1 h2
      exact ⟨F2, s1.trans s2, r2, .cons (Lv.sm s2 _ _ l1) l2⟩
end
/-! data without lists, as data of tuples -/
mutual
def flatT : PyData → Bool
  | .tuple ds => flatTA ds
  | .list _ => false
  | .dict _ => false
  | _ => true
def flatTA : List PyData → Bool
  | [] => true
  | d :: ds => flatT d && flatTA ds
end
mutual
theorem lv_tv {H : Hp} : ∀ (d : PyData) (v : V), flatT d = true → Lv H v d → Tv H v d
  | .none, _, _, h => by cases h; exact .non
  | .bool b, _, _, h => by cases h; exact .bl b
  | .int i, _, _, h => by cases h; exact .int i
  | .str x, _, _, h => by cases h; exact .str x
  | .tuple ds, _, e, h => by
    cases h with
    | tup h1 h2 => exact .tup h1 (lva_tva ds _ e h2)
  | .list _, _, e, _ => by cases e
  | .dict _, _, e, _ => by cases e
theorem lva_tva {H : Hp} : ∀ (ds : List PyData) (us : List V), flatTA ds = true → LvA H us ds → TvA H us ds
  | [], _, _, h => by cases h; exact .nil
  | d :: ds, _, e, h => by
    cases h with
    | cons h1 h2 =>
      have e' : (flatT d && flatTA ds) = true := e
      rw [Bool.and_eq_true] at e'
      exact .cons (lv_tv d _ e'.1 h1) (lva_tva ds _ e'.2 h2)
end
section
variable {F G H : Hp} {σ : L2.St} {S : List PV} {v : V} {vs : List V} {xs : List PV}
theorem RepA.tv {d : PyData} (h : RepA F G H σ S (v :: vs) (.d d :: xs)) (e : flatT d = true) : Tv H v d := lv_tv d v e (Lv.sm h.lf _ _ h.dat)
end
end Px

namespace Px
open PySem PySem.Spec PyProof.Rows L2 Fo TL
section
variable {X : Cx} {K : PySem.W.Frag}
/-- sorted of a list of data of one form -/
def rSortD (K : PySem.W.Frag) : List V → Hp → VK → Prop := fun vs H Q => ∃ (a : Addr) (ps : List (V × PyData)), vs = [.ref a] ∧ SqL K H a (ps.map Prod.fst) ∧ (∀ p ∈ ps, Dp K H p.1 p.2) ∧ PySem.W.AllAlike (ps.map Prod.snd) ∧ PySem.W.Sortable (ps.map Prod.snd) ∧ (∀ p ∈ ps, p.2.depth ≤ 60) ∧
  ∀ (qs : List (V × PyData)) (p : Addr), qs.Perm ps → qs.Pairwise (fun a b => PySem.W.dataLt b.2 a.2 = false) → H p = none → Q (.ref p) (upd H p (.lst (qs.map Prod.fst)))
theorem vals_each : ∀ {its : List Value} {ps : List (V × PyData)}, Vals (ps.map Prod.fst) its → PySem.W.EachIs (fun v b => RelV b.1 v) its ps
  | _, [], h => by
    cases h
    exact .nil
  | _, p :: ps, h => by
    cases h with
    | cons h1 h2 => exact .cons h1 (vals_each h2)
theorem each_vals : ∀ {its : List Value} {ps : List (V × PyData)}, PySem.W.EachIs (fun v b => RelV b.1 v) its ps → Vals (ps.map Prod.fst) its
  | _, _, .nil => .nil
  | _, _, .cons h1 h2 => .cons h1 (each_vals h2)
theorem each_more {α β : Type} {R S : α → β → Prop} (k : ∀ a b, R a b → S a b) {as : List α} {bs : List β} (h : PySem.W.EachIs R as bs) : PySem.W.EachIs S as bs := by
  induction h with
  | nil => exact .nil
  | cons h1 _ ih => exact .cons (k _ _ h1) ih
theorem each_in {α β : Type} {R S : α → β → Prop} : ∀ {as : List α} {bs : List β}, (∀ a b, b ∈ bs → R a b → S a b) → PySem.W.EachIs R as bs → PySem.W.EachIs S as bs
  | _, _, _, .nil => .nil
  | _, _, k, .cons h1 h2 => .cons (k _ _ (List.mem_cons_self ..) h1) (each_in (fun a b m => k a b (List.mem_cons_of_mem _ m)) h2)
theorem kSortD (e : X.K = K) (hu : X.A.units + 64 < cLine) : CallR X (.builtin "sorted") (rSortD K) := by
  subst e
  rintro pins s σ H _ us Q I r ⟨a, ps, rfl, hs, dp, al, so, dep, goal⟩
  obtain ⟨its, rv, hl, hz⟩ := I.list hs
  rw [Vals.ref1 r]
  have ea := vals_each rv
  have er : PySem.W.EachIs (fun v b => ∃ as, Reads s.heap v b.2 as) its ps := each_in (fun v b m h => Dp.reads I b.2 b.1 v (dp b m) h) ea
  rw [List.length_map] at hz
  refine PySem.W.sorted_data (R := fun v b => RelV b.1 v) (enc := Prod.snd) hl.isList ea er al so hz (fun b hb => by have := dep b hb; omega) fun out el eo => ?_
  obtain ⟨ep, he'⟩ := PyProof.Rows.sortedAll_at s.heap its out.toArray
  have T := PySem.W.sortLe_total (listOrd itemOrd) false fun b : V × PyData => PySem.W.keyToks b.2
  have pm := List.mergeSort_perm ps (PySem.W.dataLe false Prod.snd)
  refine ⟨.ref _, upd H (s.heap.objs.size + 1) (.lst ((ps.mergeSort (PySem.W.dataLe false Prod.snd)).map Prod.fst)), I.laid (t' := s.toks) (fun _ _ => PyProof.Rows.sortedAll_old) (Nat.le_succ _) ⟨by rw [List.length_map, pm.length_eq]; exact hz, out, ep, each_vals eo, he'⟩, rfl, goal _ _ pm ?_ (I.hok.fresh (Nat.le_succ _))⟩
  refine List.Pairwise.imp (fun {a b} h => ?_) (List.pairwise_mergeSort (le := PySem.W.dataLe false Prod.snd) (fun a b c h1 h2 => T.trans a b c h1 h2) (fun a b => Bool.or_eq_true_iff.mpr (T.total a b)) ps)
  have h : (!PySem.W.dataLt b.2 a.2) = true := h
  rw [Bool.not_eq_true'] at h
  exact h
end
mutual
theorem like_flat : ∀ d : PyData, PySem.W.alike d d = true → d.hasDict = false
  | .none, _ => by simp only [PyData.hasDict]
  | .bool _, _ => by simp only [PyData.hasDict]
  | .int _, _ => by simp only [PyData.hasDict]
  | .str _, _ => by simp only [PyData.hasDict]
  | .list xs, h => by
    simp only [PyData.hasDict]
    exact like_flatA xs (by simpa only [PySem.W.alike] using h)
  | .tuple xs, h => by
    simp only [PyData.hasDict]
    exact like_flatA xs (by simpa only [PySem.W.alike] using h)
  | .dict _, h => by simp [PySem.W.alike] at h
theorem like_flatA : ∀ xs : List PyData, PySem.W.alikeAll xs xs = true → PyData.hasDictAll xs = false
  | [], _ => by simp only [PyData.hasDictAll]
  | x :: xs, h => by
    obtain ⟨a, b⟩ := PySem.W.alike_all_cons h
    simp only [PyData.hasDictAll, like_flat x a, like_flatA xs b, Bool.or_self]
end
section
variable {K : PySem.W.Frag} {F : Hp}
def pSortD (S : List PV) (x : PV) (Q : KP) : Prop := ∃ ds, asList (look S x) = some ds ∧ PySem.W.AllAlike ds ∧ PySem.W.Sortable ds ∧ (∀ d ∈ ds, d.depth ≤ 60) ∧ ∀ ys : List PyData, ys.Perm ds → ys.Pairwise (fun a b => PySem.W.dataLt b a = false) → Q (.l ys) S
theorem lva_zip : ∀ {ws : List V} {ds : List PyData}, LvA F ws ds → ∀ p ∈ ws.zip ds, Lv F p.1 p.2
  | [], _, _, p, m => by
    rw [List.zip_nil_left] at m
    cases m
  | w :: ws, _, h, p, m => by
    cases h with
    | cons h1 h2 =>
      rw [List.zip_cons_cons] at m
      rcases List.mem_cons.mp m with rfl | m
      · exact h1
      · exact lva_zip h2 p m
theorem lva_of : ∀ {qs : List (V × PyData)}, (∀ p ∈ qs, Lv F p.1 p.2) → LvA F (qs.map Prod.fst) (qs.map Prod.snd)
  | [], _ => .nil
  | q :: qs, h => .cons (h q (List.mem_cons_self ..)) (lva_of fun p m => h p (List.mem_cons_of_mem _ m))
theorem sim_sortD : Sim1 (rSortD K) pSortD := by
  intro F G H σ S v x Qp Q r hp k
  obtain ⟨f, rv⟩ := r.look0
  obtain ⟨ds, e1, al, so, dep, hp⟩ := hp
  obtain ⟨p, ws, rfl, g1, l1⟩ := rv.lst r.lf e1
  have e2 : (ws.zip ds).map Prod.fst = ws := List.map_fst_zip (by rw [l1.len]; exact Nat.le_refl _)
  have e3 : (ws.zip ds).map Prod.snd = ds := List.map_snd_zip (by rw [l1.len]; exact Nat.le_refl _)
  refine ⟨p, ws.zip ds, rfl, by rw [e2]; exact SqL.of g1, fun q m => lv_dp _ _ (like_flat _ (al _ (List.of_mem_zip m).2 _ (List.of_mem_zip m).2)) (Lv.sm r.lf _ _ (lva_zip l1 q m)), by rw [e3]; exact al, by rw [e3]; exact so, fun q m => dep _ (List.of_mem_zip m).2, fun qs d pm pw hd => ?_⟩
  have pm' := pm.map Prod.snd
  rw [e3] at pm'
  exact (k.lst r (lva_of fun q m => lva_zip l1 q (pm.mem_iff.mp m)) (hp (qs.map Prod.snd) pm' (List.pairwise_map.mpr pw))).at d hd
end
end Px

namespace Px
open PySem PySem.Spec PyProof.Rows L2 Fo TL
theorem flatTA_map {α : Type} {f : α → PyData} : ∀ {l : List α}, (∀ x ∈ l, flatT (f x) = true) → flatTA (l.map f) = true
  | [], _ => rfl
  | x :: l, h => by
    show (flatT (f x) && flatTA (l.map f)) = true
    rw [h x (List.mem_cons_self ..), flatTA_map fun y m => h y (List.mem_cons_of_mem _ m)]
    rfl
theorem flat_dN (w : Option Nat) : flatT (dN w) = true := by cases w <;> rfl
theorem flat_dO (w : Option Cs) : flatT (dO w) = true := by cases w <;> rfl
theorem flat_dLs (s : LSt) : flatT (dLs s) = true := by
  show (flatTA (s.ways.map dN) && (true && true)) = true
  rw [flatTA_map fun w _ => flat_dN w]
  rfl
theorem flat_dLot (l : Lot) : flatT (dLot l) = true := by
  show (true && (flatTA (l.states.map dLs) && true)) = true
  rw [flatTA_map fun s _ => flat_dLs s]
  rfl
/-! lists and tuples of scalars -/
def okD : PyData → Bool
  | .str x => PyData.strOk x
  | d => flatD d
theorem flat_shape : ∀ {ds : List PyData}, ds.all okD = true → PyData.canLayAll0 ds = true ∧ PyData.depthAll ds = 0
  | [], _ => ⟨by simp [PyData.canLayAll0], by simp [PyData.depthAll]⟩
  | d :: ds, h => by
    rw [List.all_cons, Bool.and_eq_true] at h
    obtain ⟨a, b⟩ := flat_shape h.2
    have k : PyData.canLay0 d = true ∧ PyData.depth d = 0 := by
      have h1 := h.1
      cases d with
      | none => exact ⟨by simp [PyData.canLay0], by simp [PyData.depth]⟩
      | bool _ => exact ⟨by simp [PyData.canLay0], by simp [PyData.depth]⟩
      | int _ => exact ⟨by simp [PyData.canLay0], by simp [PyData.depth]⟩
      | str _ => exact ⟨by simp only [PyData.canLay0]; exact h1, by simp [PyData.depth]⟩
      | tuple _ => cases h1
      | list _ => cases h1
      | dict _ => cases h1
    exact ⟨by simp only [PyData.canLayAll0, a, k.1, Bool.and_self], by simp only [PyData.depthAll, b, k.2, Nat.max_self]⟩
theorem list_shape {ds : List PyData} (h : ds.all okD = true) : SeqAt.shaped (.list ds) = true := by
  obtain ⟨a, b⟩ := flat_shape h
  unfold SeqAt.shaped
  simp only [PyData.canLay0, PyData.depth, a, b, Bool.true_and]
  decide
theorem tuple_shape {ds : List PyData} (h : ds.all okD = true) : SeqAt.shaped (.tuple ds) = true := by
  obtain ⟨a, b⟩ := flat_shape h
  unfold SeqAt.shaped
  simp only [PyData.canLay0, PyData.depth, a, b, Bool.true_and]
  decide
theorem eqv_nil (ds : List PyData) : PyData.eqv (.list ds) (.list []) = ds.isEmpty := by
  cases ds <;> simp [PyData.eqv, PyData.eqvAll]
theorem ok_text {t : Cs} (h : ∀ c ∈ t, c < 1114112) : okD (.str (tx t)) = true := by
  show t.toArray.all (· < 0x110000) = true
  rw [List.all_toArray, List.all_eq_true]
  intro c hc
  exact decide_eq_true (h c hc)
theorem text_shape {t : Cs} (h : ∀ c ∈ t, c < 1114112) : SeqAt.shaped (.str (tx t)) = true := by
  have k : PyData.strOk (tx t) = true := ok_text h
  unfold SeqAt.shaped
  simp [PyData.canLay0, PyData.depth, k]
theorem ok_map {α : Type} {f : α → PyData} (l : List α) (h : ∀ x ∈ l, okD (f x) = true) : (l.map f).all okD = true := by
  rw [List.all_eq_true]
  intro x hx
  obtain ⟨a, m, rfl⟩ := List.mem_map.mp hx
  exact h a m
theorem eqI {a b : Nat} : (false ^^ decide ((a : Int) = (b : Int))) = decide (a = b) := by
  by_cases h : a = b
  · subst h
    simp
  · have : ¬ (a : Int) = (b : Int) := by omega
    simp [h, this]
theorem eqv_selfA : ∀ {ds : List PyData}, ds.all okD = true → PyData.eqvAll ds ds = true
  | [], _ => by simp [PyData.eqvAll]
  | d :: ds, h => by
    rw [List.all_cons, Bool.and_eq_true] at h
    have k : PyData.eqv d d = true := by
      have h1 := h.1
      cases d with
      | none => simp [PyData.eqv]
      | bool _ => simp [PyData.eqv]
      | int _ => simp [PyData.eqv]
      | str _ => simp [PyData.eqv]
      | tuple _ => cases h1
      | list _ => cases h1
      | dict _ => cases h1
    simp only [PyData.eqvAll, k, eqv_selfA h.2, Bool.and_self]
theorem eqv_self {ds : List PyData} (h : ds.all okD = true) : PyData.eqv (.list ds) (.list ds) = true := by
  have := eqv_selfA h
  simpa [PyData.eqv] using this
theorem truths_map {α : Type} (f : α → Bool) : ∀ (l : List α), truthsOf (l.map fun x => PyData.bool (f x)) = some (l.map f)
  | [] => rfl
  | x :: l => by
    have h := truths_map f l
    show (match truthsOf (l.map fun x => PyData.bool (f x)) with | some l => some (f x :: l) | none => none) = _
    rw [h]
    rfl
theorem texts_mapN {α : Type} (f : α → Str) : ∀ (l : List α), textsOf (l.map fun x => PyData.str (f x)) = some (l.map f)
  | [] => rfl
  | x :: l => by
    have h := texts_mapN f l
    show (match textsOf (l.map fun x => PyData.str (f x)) with | some l => some (f x :: l) | none => none) = _
    rw [h]
    rfl
theorem flat_ones (u : Cs) : (u.map fun c => [c]).flatten = u := by
  induction u with
  | nil => rfl
  | cons c u ih => rw [List.map_cons, List.flatten_cons, ih]; rfl
theorem ints_mapN {α : Type} (f : α → Int) : ∀ (l : List α), intsOf (l.map fun x => PyData.int (f x)) = some (l.map f)
  | [] => rfl
  | x :: l => by
    have h := ints_mapN f l
    show (match intsOf (l.map fun x => PyData.int (f x)) with | some l => some (f x :: l) | none => none) = _
    rw [h]
    rfl
theorem deep_shape {n : Nat} : ∀ {ds : List PyData}, (∀ d ∈ ds, d.canLay0 = true ∧ d.depth ≤ n) → PyData.canLayAll0 ds = true ∧ PyData.depthAll ds ≤ n
  | [], _ => ⟨by simp [PyData.canLayAll0], by simp [PyData.depthAll]⟩
  | d :: ds, h => by
    obtain ⟨a, b⟩ := deep_shape fun x m => h x (List.mem_cons_of_mem _ m)
    obtain ⟨c, e⟩ := h d (List.mem_cons_self ..)
    exact ⟨by simp only [PyData.canLayAll0, a, c, Bool.and_self], by simp only [PyData.depthAll]; omega⟩
theorem tup_lay {ds : List PyData} (h : ds.all okD = true) : (PyData.tuple ds).canLay0 = true ∧ (PyData.tuple ds).depth ≤ 1 := by
  obtain ⟨a, b⟩ := flat_shape h
  exact ⟨by simp only [PyData.canLay0, a], by simp only [PyData.depth, b]; omega⟩
theorem shape_of {d : PyData} {n : Nat} (h : d.canLay0 = true ∧ d.depth ≤ n) (hn : n ≤ 64) : SeqAt.shaped d = true := by
  unfold SeqAt.shaped
  rw [h.1, decide_eq_true (show d.depth ≤ 64 by omega)]
  rfl
theorem list_lay {ds : List PyData} {n : Nat} (h : ∀ d ∈ ds, d.canLay0 = true ∧ d.depth ≤ n) : (PyData.list ds).canLay0 = true ∧ (PyData.list ds).depth ≤ n + 1 := by
  obtain ⟨a, b⟩ := deep_shape h
  exact ⟨by simp only [PyData.canLay0, a], by simp only [PyData.depth]; omega⟩
theorem way_shape {L : List (Nat × Cs)} (h : ∀ w ∈ L, ∀ c ∈ w.2, c < 1114112) : SeqAt.shaped (.list (L.map dW)) = true := by
  refine shape_of (list_lay (n := 1) fun d m => ?_) (by decide)
  obtain ⟨w, hw, rfl⟩ := List.mem_map.mp m
  refine tup_lay (ds := [.int w.1, .str (tx w.2)]) ?_
  show (true && (okD (.str (tx w.2)) && true)) = true
  rw [ok_text (h w hw)]
  rfl
def dPr (p : Nat × Nat) : PyData := .tuple [.int (p.1 : Nat), .int (p.2 : Nat)]
theorem pr_lay (p : Nat × Nat) : (dPr p).canLay0 = true ∧ (dPr p).depth ≤ 1 := tup_lay (ds := [.int (p.1 : Nat), .int (p.2 : Nat)]) rfl
theorem prs_shape (L : List (Nat × Nat)) : SeqAt.shaped (.list (L.map dPr)) = true := shape_of (list_lay (n := 1) fun d m => by
  obtain ⟨p, _, rfl⟩ := List.mem_map.mp m
  exact pr_lay p) (by decide)
theorem eqv_pr (p q : Nat × Nat) : PyData.eqv (dPr q) (dPr p) = decide (q = p) := by
  show PyData.eqv (.tuple [.int _, .int _]) (.tuple [.int _, .int _]) = _
  simp only [PyData.eqv, PyData.eqvAll]
  rw [Bool.eq_iff_iff]
  simp only [Bool.and_eq_true, Bool.and_true, beq_iff_eq, decide_eq_true_eq]
  constructor
  · rintro ⟨h1, h2⟩
    exact Prod.ext (by omega) (by omega)
  · rintro rfl
    exact ⟨rfl, rfl⟩
theorem in_prs (p : Nat × Nat) (L : List (Nat × Nat)) : inD (dPr p) (L.map dPr) = decide (p ∈ L) := by
  unfold inD
  rw [Bool.eq_iff_iff, List.any_eq_true, decide_eq_true_eq]
  constructor
  · rintro ⟨d, m, e⟩
    obtain ⟨q, hq, rfl⟩ := List.mem_map.mp m
    rw [eqv_pr, decide_eq_true_eq] at e
    exact e ▸ hq
  · exact fun m => ⟨_, List.mem_map.mpr ⟨p, m, rfl⟩, by rw [eqv_pr]; exact decide_eq_true rfl⟩
theorem in_nums (s : Nat) (L : List Nat) : inD (.int (s : Nat)) (L.map fun k : Nat => .int (k : Nat)) = decide (s ∈ L) := by
  unfold inD
  rw [Bool.eq_iff_iff, List.any_eq_true, decide_eq_true_eq]
  constructor
  · rintro ⟨d, m, e⟩
    obtain ⟨q, hq, rfl⟩ := List.mem_map.mp m
    have e : decide ((q : Int) = (s : Int)) = true := e
    have := of_decide_eq_true e
    have : q = s := by omega
    exact this ▸ hq
  · exact fun m => ⟨_, List.mem_map.mpr ⟨s, m, rfl⟩, by show decide ((s : Int) = (s : Int)) = true; exact decide_eq_true rfl⟩
/-- pairs of a number and a text -/
theorem lt_pair (a b : Int) (t u : Cs) : PySem.W.dataLt (.tuple [.int a, .str (tx t)]) (.tuple [.int b, .str (tx u)]) = decide (a < b ∨ (a = b ∧ t < u)) := by
  rw [PySem.W.dataLt_pair (by simp [PySem.W.alike]) (by simp [PySem.W.alike]), PySem.W.dataLt_int, PySem.W.dataLt_str]
  simp only [PyData.eqv, beq_iff_eq]
  by_cases h1 : a = b
  · subst h1
    rw [if_pos rfl]
    by_cases h2 : tx t = tx u
    · have h2 := tx_inj h2
      subst h2
      rw [if_pos rfl]
      have : ¬ t < t := List.lt_irrefl t
      simp [this]
    · rw [if_neg h2]
      show decide (t < u) = _
      have : ¬ a < a := Int.lt_irrefl a
      simp [this]
  · rw [if_neg h1]
    simp [h1]
end Px

namespace Px
open PySem PySem.Spec PyProof.Rows L2 Fo TL
section
variable {P : Program} {w : World} {K : PySem.W.Frag} {mg : Str → Option Value} {base : Heap}
/-- a law by its body, asked where nothing is being shown -/
theorem okG {x qual : Str} {st : Stmt} {f : Addr} {fd : FuncData} {N ps : List Str} {k : Nat} {c : Ct} (F : Fun K x qual st f fd) (S : FnScope N ps (defScope st)) (mask : List Bool) (hm : mask.length = ps.length) (hN : mask.length ≤ N.length) (len : ∀ as Q, c as Q → as.length = ps.length)
    (body : ∀ (cdv : Value) (A : Around) (outer : List Env) (s : Shared) (H : Hp) (E : XK), A.guards = some [] → Room k (A.deeper (envOfC qual (defScope st) s.heap.objs.size f cdv)) →
      ∃ t : TXS, PSs (cxOf CX0 P w K mg base N qual (defScope st) f cdv A outer s H E).nox (defBody st) (rwS (kpM mask) t) ∧ ∀ as Qc, c as Qc → force (as ++ List.replicate (N.length - mask.length) .un) (t (dnC mask Qc))) :
    FnG P w K mg base CX0 (k + 1) f fd ps (spP c) := by
  refine fnG F S (fun vs H Q E h => spP_len len h) (fun cdv A outer s H vs Q E hg hr h => ?_)
  obtain ⟨t, ht, hb⟩ := body cdv A outer s H E hg hr
  exact ⟨_, ht, enter h ((spP_len len h).trans hm.symm) hN fun as Qc hc _ => unforce (hb as Qc hc)⟩
theorem fnG_imp {f : Addr} {fd : FuncData} {ps : List Str} {k : Nat} {sp sp' : Sp} (h : FnG P w K mg base CX0 k f fd ps sp) (i : ∀ vs H Q E, sp' vs H Q E → sp vs H Q E) : FnG P w K mg base CX0 k f fd ps sp' :=
  ⟨fun vs H Q E q => h.len vs H Q E (i _ _ _ _ q), fun A hg outer s H args us vs Q E hr en hb r q => h.run A hg outer s H args us vs Q E hr en hb r (i _ _ _ _ q)⟩
/-- what a law is asked: a script, and it is to say True -/
def c_law (K : PySem.W.Frag) : Ct := fun as Q => ∃ ns : List Int, as = [.o (AScr K ns)] ∧ ns.length ≤ 63 ∧ ∀ as', Q (.d (.bool true)) as'
def sp_law (K : PySem.W.Frag) : Sp := fun vs H Q _ => ∃ (a : Addr) (ns : List Int), vs = [.ref a] ∧ SqL K H a (ns.map V.int) ∧ ns.length ≤ 63 ∧ ∀ H', Q (.bl true) H'
theorem c_law_len {as : List PV} {Q : KP} (h : c_law K as Q) : as.length = 1 := by
  obtain ⟨ns, rfl, _⟩ := h
  rfl
theorem law_in {vs : List V} {H : Hp} {Q : VK} {E : XK} (h : sp_law K vs H Q E) : spP (c_law K) vs H Q E := by
  obtain ⟨a, ns, rfl, hs, few, q⟩ := h
  refine ⟨H, fun _ => none, [.o (AScr K ns)], fun r _ => r = .d (.bool true), ⟨[], [], ?_⟩, ⟨ns, rfl, few, fun _ => rfl⟩, fun v r as' F' H' hr _ e => ?_⟩
  · exact ⟨Same.refl _, (fun a o e => nomatch e), .nil, RVs.cons (f := []) (.o ⟨a, rfl, rfl, hs⟩) .nil, .nil, (fun _ m => nomatch m), (fun a o e => nomatch e)⟩
  · subst e
    cases hr.dat
    exact q _
theorem law_of {f : Addr} {fd : FuncData} {k : Nat} (h : FnG P w K mg base CX0 k f fd ["script"] (spP (c_law K))) : FnG P w K mg base CX0 k f fd ["script"] (sp_law K) := fnG_imp h fun _ _ _ _ => law_in
end
end Px

namespace Px
open PySem PySem.Spec PyProof.Rows L2 Fo TL
/-! ### errors as values that are never changed -/
abbrev Er := Addr × Option (Str × PyData)
def ER (F : Hp) (v : V) (e : Er) : Prop := ∃ (a : Addr) (d : Option Addr), v = .ref a ∧ F a = some (exo a e.1 d) ∧ match e.2 with
  | none => d = none
  | some (f, x) => ∃ dx w, d = some dx ∧ F dx = some (exd dx [(f, w)]) ∧ Lv F w x
theorem ER.sm {F F' : Hp} {v : V} {e : Er} (s : Same F F') (h : ER F v e) : ER F' v e := by
  obtain ⟨a, d, rfl, h1, h2⟩ := h
  obtain ⟨C, fld⟩ := e
  refine ⟨a, d, rfl, s _ _ h1, ?_⟩
  cases fld with
  | none => exact h2
  | some p =>
    obtain ⟨f, x⟩ := p
    obtain ⟨dx, w, e1, e2, e3⟩ := h2
    exact ⟨dx, w, e1, s _ _ e2, Lv.sm s _ _ e3⟩
theorem ER.dict {F : Hp} {a C : Addr} {fld : Option (Str × PyData)} (h : ER F (.ref a) (C, fld)) : ∃ d, F a = some (exo a C d) ∧ ∀ dx, d = some dx → ∃ fs, F dx = some (exd dx fs) := by
  obtain ⟨a', d, e, h1, h2⟩ := h
  cases e
  refine ⟨d, h1, fun dx ed => ?_⟩
  cases fld with
  | none =>
    have h2 : d = none := h2
    rw [h2] at ed
    cases ed
  | some p =>
    obtain ⟨f, x⟩ := p
    obtain ⟨dx', w, e1, e2, _⟩ := h2
    rw [e1] at ed
    cases ed
    exact ⟨_, e2⟩
inductive F2 {α β : Type} (R : α → β → Prop) : List α → List β → Prop
  | nil : F2 R [] []
  | cons {a : α} {b : β} {l : List α} {m : List β} : R a b → F2 R l m → F2 R (a :: l) (b :: m)
theorem F2.imp {α β : Type} {R R' : α → β → Prop} (i : ∀ a b, R a b → R' a b) : ∀ {l : List α} {m : List β}, F2 R l m → F2 R' l m
  | _, _, .nil => .nil
  | _, _, .cons h t => .cons (i _ _ h) (F2.imp i t)
def AE (e : Er) : Asr where
  R := fun F H v fs => fs = [] ∧ ER F v e
  stay := fun h s _ => ⟨h.1, h.2.sm s⟩
  has := fun h a m => by rw [h.1] at m; cases m
def ALE (es : List Er) : Asr where
  R := fun F H v fs => fs = [] ∧ ∃ p vs, v = .ref p ∧ F p = some (.lst vs) ∧ F2 (ER F) vs es
  stay := fun {F F' H H' v fs} h s _ => by
    obtain ⟨e, p, vs, rfl, h1, h2⟩ := h
    exact ⟨e, p, vs, rfl, s _ _ h1, h2.imp (fun _ _ z => z.sm s)⟩
  has := fun h a m => by rw [h.1] at m; cases m
section
variable {F F' F0 G G' H H' : Hp} {σ σ' : L2.St} {S : List PV} {v u : V} {vs us : List V} {xs ys : List PV} {x y : PV}
/-- new things that never change -/
theorem RepA.lay (h : RepA F G H σ S vs xs) (s : Same H H') (f : List Addr) (hf : ∀ a ∈ f, H a = none) : Same F (lock F H' f) ∧ RepA (lock F H' f) G H' σ S vs xs := by
  obtain ⟨fv, fs, h⟩ := h
  have sF : Same F (lock F H' f) := fun a o q => by
    have : a ∉ f := fun m => by
      have := h.lf a o q
      rw [hf a m] at this
      cases this
    rw [lock_out this]
    exact q
  have feet : ∀ a ∈ fv ++ fs, ∃ o, H a = some o := fun a m => by
    obtain ⟨o, e, _⟩ := (List.mem_append.mp m).elim (h.vl.has _ _ _ a) (h.sl.has a)
    exact ⟨o, e⟩
  have keep : ∀ a ∈ fv ++ fs, H' a = H a := fun a m => by
    obtain ⟨o, e⟩ := feet a m
    rw [e]
    exact s a o e
  have out : ∀ a o, H a = some o → a ∉ f := fun a o e m => by rw [hf a m] at e; cases e
  refine ⟨sF, fv, fs, fun a o q => ?_, fun a o q => s a o (h.lg a o q), h.sl.stay sF fun a m => keep a (List.mem_append_right _ m), h.vl.stay sF _ _ _ fun a m => keep a (List.mem_append_left _ m), h.nd, fun a m => ?_, fun a o q => ?_⟩
  · by_cases m : a ∈ f
    · rw [lock_in m] at q; exact q
    · rw [lock_out m] at q; exact s a o (h.lf a o q)
  · obtain ⟨o, e⟩ := feet a m
    rw [lock_out (out a o e)]
    exact h.off a m
  · rw [lock_out (out a o (h.lg a o q))]
    exact h.dj a o q
/-- a new thing that others must let be -/
theorem RepA.guardO {a : Addr} {o : HO} (h : RepA F G H σ S vs xs) (n : H a = none) (nt : ∀ ts, o ≠ .tup ts) : RepA F (upd G a o) (upd H a o) σ S vs xs := by
  obtain ⟨fv, fs, h⟩ := h
  have feet : ∀ b ∈ fv ++ fs, b ≠ a := fun b m z => by
    obtain ⟨o, e, _⟩ := (List.mem_append.mp m).elim (h.vl.has _ _ _ b) (h.sl.has b)
    rw [z, n] at e
    cases e
  refine ⟨fv, fs, fun b u q => same_new n b u (h.lf b u q), fun b u q => ?_, h.sl.stay (fun _ _ q => q) fun b m => upd_ne (feet b (List.mem_append_right _ m)), h.vl.stay (fun _ _ q => q) _ _ _ fun b m => upd_ne (feet b (List.mem_append_left _ m)), h.nd, fun b m => ⟨(h.off b m).1, ?_⟩, fun b u q => ?_⟩
  · rcases upd_mine q with ⟨rfl, rfl⟩ | ⟨z, q⟩
    · exact upd_same
    · rw [upd_ne z]; exact h.lg b u q
  · rw [upd_ne (feet b m)]
    exact (h.off b m).2
  · rcases upd_mine q with ⟨rfl, rfl⟩ | ⟨z, q⟩
    · refine ⟨?_, nt⟩
      cases e : F b with
      | none => rfl
      | some w =>
        have := h.lf b w e
        rw [n] at this
        cases this
    · exact h.dj b u q
/-- it is done, and never changes again -/
theorem RepA.settle {a dx : Addr} {o0 o1 o2 : HO} (h : RepA F (upd G a o0) H σ S vs xs) (ga : G a = none) (hdx : H dx = none) (ne : dx ≠ a) :
    Same F (lock F (upd (upd H dx o1) a o2) [a, dx]) ∧ RepA (lock F (upd (upd H dx o1) a o2) [a, dx]) G (upd (upd H dx o1) a o2) σ S vs xs := by
  obtain ⟨fv, fs, h⟩ := h
  have Ha : H a = some o0 := h.lg a o0 upd_same
  have Fa : F a = none := (h.dj a o0 upd_same).1
  have no : ∀ b o, F b = some o → b ∉ [a, dx] := fun b o q m => by
    rcases List.mem_cons.mp m with rfl | m
    · rw [Fa] at q; cases q
    · have := h.lf b o q
      rw [List.mem_singleton.mp m, hdx] at this
      cases this
  have feet : ∀ b ∈ fv ++ fs, b ≠ a ∧ b ≠ dx := fun b m => by
    refine ⟨fun z => ?_, fun z => ?_⟩
    · have := (h.off b m).2
      rw [z, upd_same] at this
      cases this
    · obtain ⟨o, e, _⟩ := (List.mem_append.mp m).elim (h.vl.has _ _ _ b) (h.sl.has b)
      rw [z, hdx] at e
      cases e
  have keep : ∀ b ∈ fv ++ fs, upd (upd H dx o1) a o2 b = H b := fun b m => by rw [upd_ne (feet b m).1, upd_ne (feet b m).2]
  have sF : Same F (lock F (upd (upd H dx o1) a o2) [a, dx]) := fun b o q => by rw [lock_out (no b o q)]; exact q
  have gne : ∀ b o, G b = some o → b ≠ a ∧ b ≠ dx := fun b o q => by
    have z : b ≠ a := fun z => by rw [z, ga] at q; cases q
    refine ⟨z, fun y => ?_⟩
    have := h.lg b o (by rw [upd_ne z]; exact q)
    rw [y, hdx] at this
    cases this
  refine ⟨sF, fv, fs, fun b o q => ?_, fun b o q => ?_, h.sl.stay sF fun b m => keep b (List.mem_append_right _ m), h.vl.stay sF _ _ _ fun b m => keep b (List.mem_append_left _ m), h.nd, fun b m => ?_, fun b o q => ?_⟩
  · by_cases m : b ∈ [a, dx]
    · rw [lock_in m] at q; exact q
    · rw [lock_out m] at q
      have : b ≠ a ∧ b ≠ dx := ⟨fun z => m (by rw [z]; simp), fun z => m (by rw [z]; simp)⟩
      rw [upd_ne this.1, upd_ne this.2]
      exact h.lf b o q
  · rw [upd_ne (gne b o q).1, upd_ne (gne b o q).2]
    exact h.lg b o (by rw [upd_ne (gne b o q).1]; exact q)
  · have : b ∉ [a, dx] := fun z => by
      rcases List.mem_cons.mp z with z | z
      · exact (feet b m).1 z
      · exact (feet b m).2 (List.mem_singleton.mp z)
    rw [lock_out this]
    have := h.off b m
    rw [upd_ne (feet b m).1] at this
    exact this
  · have : b ∉ [a, dx] := fun z => by
      rcases List.mem_cons.mp z with z | z
      · exact (gne b o q).1 z
      · exact (gne b o q).2 (List.mem_singleton.mp z)
    rw [lock_out this]
    exact h.dj b o (by rw [upd_ne (gne b o q).1]; exact q)
/-- all that a frame holds laid aside -/
theorem RepA.lent {x : PyData} (h : RepA F G H σ S [v] [.d x]) : ∃ G1, Same G G1 ∧ RepA F G1 H [] [] [v] [.d x] ∧ ∀ F' H', Rep F' G1 H' [] [] → Same F F' → Rep F' G H' σ S := by
  have hx := h.dat
  obtain ⟨fv, fs, h⟩ := h.rep
  cases h.vl
  have off : ∀ a ∈ fs, F a = none ∧ G a = none := fun a m => h.off a m
  have sg : Same G (lock G H fs) := fun a o e => by
    have nm : a ∉ fs := fun m => by
      rw [(off a m).2] at e
      cases e
    rw [lock_out nm]
    exact e
  refine ⟨lock G H fs, sg, ⟨[], [], h.lf, fun a o e => ?_, .nil, RVs.cons (f := []) (.d hx) .nil, List.nodup_nil, (fun a m => nomatch m), fun a o e => ?_⟩, fun F' H' k sf => ?_⟩
  · by_cases m : a ∈ fs
    · rw [lock_in m] at e; exact e
    · rw [lock_out m] at e; exact h.lg a o e
  · by_cases m : a ∈ fs
    · rw [lock_in m] at e
      obtain ⟨o', e', n⟩ := h.sl.has a m
      rw [e] at e'
      cases e'
      exact ⟨(off a m).1, n⟩
    · rw [lock_out m] at e; exact h.dj a o e
  · obtain ⟨f, f0, k⟩ := k
    cases k.sl
    cases k.vl
    have keepH : ∀ a ∈ fs, H' a = H a := fun a m => by
      obtain ⟨o, e, _⟩ := h.sl.has a m
      rw [e]
      exact k.lg a o (by rw [lock_in m]; exact e)
    refine ⟨[], fs, k.lf, fun a o e => k.lg a o (sg a o e), h.sl.stay sf keepH, .nil, h.nd, fun a m => ⟨?_, (off a m).2⟩, fun a o e => k.dj a o (sg a o e)⟩
    have m : a ∈ fs := m
    obtain ⟨o, e, _⟩ := h.sl.has a m
    exact (k.dj a o (by rw [lock_in m]; exact e)).1
theorem Rep.withR {x : PV} (h : Rep F G H σ S) (r : RV σ F H v x []) : RepA F G H σ S [v] [x] := by
  obtain ⟨fv, fs, h⟩ := h
  cases h.vl
  exact ⟨[], fs, h.lf, h.lg, h.sl, RVs.cons (f := []) r .nil, h.nd, h.off, h.dj⟩
theorem Rep.withE {e : Er} (h : Rep F G H σ S) (r : ER F v e) : RepA F G H σ S [v] [.o (AE e)] := h.withR (.o (A := AE e) ⟨rfl, r⟩)
theorem Rep.withL {es : List Er} {p : Addr} (h : Rep F G H σ S) (e : F p = some (.lst vs)) (r : F2 (ER F) vs es) : RepA F G H σ S [.ref p] [.o (ALE es)] := h.withR (.o (A := ALE es) ⟨rfl, p, vs, rfl, e, r⟩)
theorem RepA.err {i : Nat} {e : Er} (h : RepA F G H σ S vs xs) (k : S[i]? = some (.o (AE e))) : ∃ a, σ[i]? = some (some (.ref a)) ∧ ER F (.ref a) e := by
  obtain ⟨v, f, ev, r, _⟩ := h.chg k (fun z => nomatch z)
  cases r with
  | o r =>
    obtain ⟨_, r⟩ := r
    obtain ⟨a, d, rfl, r2⟩ := id r
    exact ⟨a, ev, r⟩
theorem RepA.errs {i : Nat} {es : List Er} (h : RepA F G H σ S vs xs) (k : S[i]? = some (.o (ALE es))) : ∃ p ws, σ[i]? = some (some (.ref p)) ∧ F p = some (.lst ws) ∧ F2 (ER F) ws es := by
  obtain ⟨v, f, ev, r, _⟩ := h.chg k (fun z => nomatch z)
  cases r with
  | o r =>
    obtain ⟨_, p, ws, rfl, r1, r2⟩ := r
    exact ⟨p, ws, ev, r1, r2⟩
theorem f2_nth {α β : Type} {R : α → β → Prop} : ∀ {l : List α} {m : List β} {k : Nat} {b : β}, F2 R l m → m[k]? = some b → ∃ a, l[k]? = some a ∧ R a b
  | _, _, k, _, .nil, e => by simp at e
  | _, _, 0, _, .cons h _, e => by cases e; exact ⟨_, rfl, h⟩
  | _, _, k + 1, b, .cons _ t, e => by
    obtain ⟨a, e1, r⟩ := f2_nth (k := k) t (by simpa using e)
    exact ⟨a, by simpa using e1, r⟩
theorem f2_len {α β : Type} {R : α → β → Prop} : ∀ {l : List α} {m : List β}, F2 R l m → l.length = m.length
  | _, _, .nil => rfl
  | _, _, .cons _ t => congrArg (· + 1) (f2_len t)
theorem f2_app {α β : Type} {R : α → β → Prop} : ∀ {l l' : List α} {m m' : List β}, F2 R l m → F2 R l' m' → F2 R (l ++ l') (m ++ m')
  | _, _, _, _, .nil, h => h
  | _, _, _, _, .cons h t, k => .cons h (f2_app t k)
theorem errs_of : ∀ {es : List Er} {vs : List V} {fv : List Addr}, RVs σ F H vs (es.map fun e => .o (AE e)) fv → F2 (ER F) vs es
  | [], _, _, h => by cases h; exact .nil
  | e :: es, _, _, h => by
    cases h with
    | cons h1 h2 =>
      cases h1 with
      | o h1 => exact .cons h1.2 (errs_of h2)
end
/-! ### readings -/
def neverX : TX := fun _ _ => False
theorem x_never {X : Cx} {e : Expr} : PE X e (rw neverX) := ⟨fun _ _ _ _ _ _ q => by
  obtain ⟨F, G, S, Qp, _, ht, _⟩ := q
  exact ht.elim⟩
def newPX (C : Addr) (t : TXA) : TX := fun S Q => t S fun xs S1 => xs.length ≤ 1000 ∧ Q (.o (AE (C, none))) S1
/-- what __init__ keeps -/
abbrev Cpy := PyData → Prop
def newIX (C : Addr) (f : Str) (ok : Cpy) (t : TXA) : TX := fun S Q => t S fun xs S1 => ∃ x, xs = [.d x] ∧ ok x ∧ Q (.o (AE (C, some (f, x)))) S1
def spI (C : Addr) (f : Str) (ok : Cpy) : Sp := fun vs H Q _ => ∃ e v x F G, vs = [.ref e, v] ∧ RepA F G H [] [] [v] [.d x] ∧ ok x ∧ G e = some (exo e C none) ∧
  ∀ F' H2 v' dx, RepA F' G H2 [] [] [v'] [.d x] → Same F F' → H2 dx = none → dx ≠ e → Q .non (upd (upd H2 dx (exd dx [(f, v')])) e (exo e C (some dx)))
def isXX (K : PySem.W.Frag) (i : Nat) (cv : Value) : TX := fun S Q => ∃ e b, S[i]? = some (.o (AE e)) ∧ ExcC K e.1 ∧ PySem.W.kitOne K (.ref e.1) cv = some b ∧ Q (.d (.bool b)) S
def fldX (K : PySem.W.Frag) (i : Nat) (j : Int) (n : Str) : TX := fun S Q => ∃ es C x, S[i]? = some (.o (ALE es)) ∧ atI es j = some (C, some (n, x)) ∧ ExcC K C ∧ PySem.W.findIn K (.ref C) n = some none ∧ Q (.d x) S
def lstE (t : TXA) : TX := fun S Q => t S fun xs S1 => ∃ es : List Er, xs = es.map (fun e => .o (AE e)) ∧ es.length ≤ 1000 ∧ Q (.o (ALE es)) S1
def catE (i : Nat) (t : TX) : TX := fun S Q => ∃ es ds, S[i]? = some (.o (ALE es)) ∧ t S fun x S1 => x = .o (ALE ds) ∧ es.length + ds.length ≤ 1000 ∧ Q (.o (ALE (es ++ ds))) S1
inductive ForE (g : TXG) (tb : TXS) (D : Dn) (es : List Er) (S0 : List PV) : Prop
  | mk (J : Nat → List PV → Prop) (h0 : J 0 S0) (hs : ∀ (k : Nat) (e : Er) (S : List PV), es[k]? = some e → J k S → g (.t [.d (.int (k : Int)), .o (AE e)]) S fun S1 => tb { D with nx := J (k + 1), ct := J (k + 1), bk := D.nx } S1) (hd : ∀ S, J es.length S → D.nx S)
def forES (i : Nat) (g : TXG) (tb : TXS) : TXS := fun D S => ∃ es, S[i]? = some (.o (ALE es)) ∧ ForE g tb D es S
section
variable {X : Cx} {K : PySem.W.Frag} {e : Expr} {tr : TXA} {te : TX} {C : Addr} {kp : Nat → Bool} {st : Stmt}
theorem x_newP (h : PE X e (tNewP C (rwA tr))) : PE X e (rw (newPX C tr)) := PE_imp h fun σ H Q q => by
  obtain ⟨F, G, S, Qp, hr, ht, k⟩ := q
  refine ⟨F, G, S, _, hr, ht, fun vs xs S1 F1 H1 r1 s1 h1 => ?_⟩
  have hl : vs.length = xs.length := by obtain ⟨_, _, r⟩ := r1; exact r.vl.len
  refine ⟨by rw [hl]; exact h1.1, fun a ha => ?_⟩
  obtain ⟨s2, r2⟩ := r1.rep.lay (H' := upd H1 a (exo a C none)) (same_new ha) [a] (fun b m => by rw [List.mem_singleton.mp m]; exact ha)
  exact k _ _ _ _ _ (Rep.withE r2 ⟨a, none, rfl, by rw [lock_in (List.mem_singleton_self _)]; exact upd_same, rfl⟩) (s1.trans s2) h1.2
theorem x_newI {f : Str} {ok : Cpy} (h : PE X e (tNewI C (spI C f ok) (rwA tr))) : PE X e (rw (newIX C f ok tr)) := PE_imp h fun σ H Q q => by
  obtain ⟨F, G, S, Qp, hr, ht, k⟩ := q
  refine ⟨F, G, S, _, hr, ht, fun vs xs S1 F1 H1 r1 s1 h1 => ?_⟩
  obtain ⟨x, rfl, hx, h1⟩ := h1
  have hl : vs.length = 1 := by obtain ⟨_, _, r⟩ := r1; exact r.vl.len
  match vs, hl with
  | [v], _ =>
    refine ⟨by simp, fun a ha => ?_⟩
    have ga : G a = none := by
      cases z : G a with
      | none => rfl
      | some o =>
        obtain ⟨_, _, r⟩ := r1
        have := r.lg a o z
        rw [ha] at this
        cases this
    obtain ⟨G1, sg, r2, back⟩ := (r1.guardO (o := exo a C none) ha fun ts => exo_tup).lent
    refine ⟨a, v, x, F1, G1, rfl, r2, hx, sg _ _ upd_same, fun F' H2 v' dx r3 s3 hdx ne => ⟨rfl, ?_⟩⟩
    have lv := r3.dat
    have r4 := back _ _ r3.rep s3
    obtain ⟨s5, r5⟩ := RepA.settle (o1 := exd dx [(f, v')]) (o2 := exo a C (some dx)) r4 ga hdx ne
    refine k _ _ _ _ _ (Rep.withE r5 (e := (C, some (f, x))) ⟨a, some dx, rfl, ?_, dx, v', rfl, ?_, Lv.sm s5 _ _ lv⟩) (s1.trans (s3.trans s5)) h1
    · rw [lock_in (by simp)]
      exact upd_same
    · rw [lock_in (by simp), upd_ne ne]
      exact upd_same
theorem x_isX {i : Nat} {c : V} {cv : Value} (hc : ∀ u, RelV c u → u = cv) (h : PE X e (tCB (rIsX K) (tCons (tVar i) (tCons (tC c) tNil)))) : PE X e (rw (isXX K i cv)) := PE_imp h fun σ H Q q => by
  obtain ⟨F, G, S, Qp, hr, ht, k⟩ := q
  obtain ⟨er, b, e1, T, e2, ht⟩ := ht
  obtain ⟨a, ev, re⟩ := RepA.err hr e1
  obtain ⟨C, fld⟩ := er
  obtain ⟨d, e3, hd⟩ := re.dict
  refine ⟨_, ev, ⟨a, C, d, c, cv, b, rfl, hc, hr.lf _ _ e3, fun dx z => ?_, T, e2, k _ _ _ _ _ (hr.withD (.bl b)) (Same.refl _) ht⟩⟩
  obtain ⟨fs, z⟩ := hd dx z
  exact ⟨fs, hr.lf _ _ z⟩
theorem x_fld {i : Nat} {j : Int} {n : Str} (h : PE X e (tXfld K n (tOp (rIx K) (tVar i) (tC (.int j))))) : PE X e (rw (fldX K i j n)) := PE_imp h fun σ H Q q => by
  obtain ⟨F, G, S, Qp, hr, ht, k⟩ := q
  obtain ⟨es, C, x, e1, e2, T, hno, ht⟩ := ht
  obtain ⟨p, ws, ev, e3, f2⟩ := RepA.errs hr e1
  obtain ⟨w, e4, a, d, rfl, e5, dx, w2, e6, e7, lv⟩ : ∃ w, atI ws j = some w ∧ ER F w (C, some (n, x)) := by
    unfold L2.atI at e2 ⊢
    rw [f2_len f2]
    cases z : ixN es.length j with
    | none => rw [z] at e2; cases e2
    | some m =>
      rw [z] at e2
      exact f2_nth f2 e2
  cases e6
  refine ⟨_, ev, Or.inl ⟨_, _, _, _, rfl, rfl, SqL.of (hr.lf _ _ e3), e4, ?_⟩⟩
  refine ⟨a, C, dx, _, w2, rfl, hr.lf _ _ e5, T, hno, hr.lf _ _ e7, ?_, k _ _ _ _ _ (hr.withD lv) (Same.refl _) ht⟩
  simp [List.lookup]
theorem x_lstE (h : PE X e (tLstN (rwA tr))) : PE X e (rw (lstE tr)) := PE_imp h fun σ H Q q => by
  obtain ⟨F, G, S, Qp, hr, ht, k⟩ := q
  refine ⟨F, G, S, _, hr, ht, fun vs xs S1 F1 H1 r1 s1 h1 => ?_⟩
  obtain ⟨es, rfl, few, h1⟩ := h1
  have f2 : F2 (ER F1) vs es := by
    obtain ⟨_, _, r⟩ := r1
    exact errs_of r.vl
  refine ⟨by rw [f2_len f2, sizeLine_eq]; omega, fun p H' np sH ep => ?_⟩
  obtain ⟨s2, r2⟩ := r1.rep.lay sH [p] (fun b m => by rw [List.mem_singleton.mp m]; exact np)
  exact k _ _ _ _ _ (Rep.withL r2 (by rw [lock_in (List.mem_singleton_self _)]; exact ep) (f2.imp fun _ _ z => z.sm s2)) (s1.trans s2) h1
theorem x_catE {i : Nat} (h : PE X e (tOp rAddG (tVar i) (rw te))) : PE X e (rw (catE i te)) := PE_imp h fun σ H Q q => by
  obtain ⟨F, G, S, Qp, hr, ht, k⟩ := q
  obtain ⟨es, ds, e1, ht⟩ := ht
  obtain ⟨p, ws, ev, e2, f2⟩ := RepA.errs hr e1
  refine ⟨_, ev, F, G, S, _, hr, ht, fun u y S1 F1 H1 r1 s1 h1 => ?_⟩
  obtain ⟨rfl, few, h1⟩ := h1
  obtain ⟨p2, us, rfl, e3, g2⟩ : ∃ p2 us, u = .ref p2 ∧ F1 p2 = some (.lst us) ∧ F2 (ER F1) us ds := by
    obtain ⟨fv, fs, r⟩ := id r1
    cases r.vl with
    | cons a b =>
      cases a with
      | o a =>
        obtain ⟨_, p2, us, rfl, a1, a2⟩ := a
        exact ⟨p2, us, rfl, a1, a2⟩
  refine .inr (.inr (.inl ⟨p, p2, ws, us, rfl, rfl, r1.lf _ _ (s1 _ _ e2), r1.lf _ _ e3, ?_, fun q H' np sH ep => ?_⟩))
  · rw [f2_len f2, f2_len g2, sizeLine_eq]
    omega
  · obtain ⟨s2, r2⟩ := r1.rep.lay sH [q] (fun b m => by rw [List.mem_singleton.mp m]; exact np)
    exact k _ _ _ _ _ (Rep.withL r2 (by rw [lock_in (List.mem_singleton_self _)]; exact ep) ((f2_app (f2.imp fun _ _ z => z.sm s1) g2).imp fun _ _ z => z.sm s2)) (s1.trans s2) h1
theorem xs_forE {i : Nat} {g : TXG} {tb : TXS} (h : PS X st (tFor (iEnumA K (tCons (tVar i) tNil)) (rwG kp g) (rwS kp tb))) : PS X st (rwS kp (forES i g tb)) := PS_imp h fun D σ H q => by
  obtain ⟨F, G, S, Dp, hr, ht, k⟩ := q
  obtain ⟨es, e1, Jv, j0, step, done⟩ := ht
  obtain ⟨p, ws, ev, e2, f2⟩ := RepA.errs hr e1
  refine ⟨_, ev, .l p, ws, rfl, SqL.of (hr.lf _ _ e2), ?_⟩
  have hl := f2_len f2
  refine for_it (walk_each (k := .l p) (xs := ws)) (fun i σ' H' => ∃ F' S', Rep F' G H' σ' S' ∧ Same F F' ∧ Kp kp σ σ' ∧ Jv i S') ⟨F, S, hr, Same.refl _, Kp.refl .., j0⟩ (fun i σ' H' _ pv => ?_) (fun i x σ' H1 H2 hi pv y => ?_) (fun σ' H' pv => ?_)
  · obtain ⟨F', S', r', s', _, _⟩ := pv
    exact SqL.of (r'.lf _ _ (s' _ _ e2))
  · obtain ⟨F', S', r', s', e', j'⟩ := pv
    obtain ⟨T, x1, x2, rfl, sH, eT, y1, y2⟩ := y
    cases y1
    have hi2 : i < es.length := by rw [← hl]; exact hi
    obtain ⟨w, y3, er⟩ := f2_nth f2 (List.getElem?_eq_getElem hi2)
    have y2 : ws[i]? = some x2 := y2
    rw [y2] at y3
    cases y3
    obtain ⟨F3, s3, eT3, r3⟩ := r'.tup sH eT
    have r4 := Rep.withR (x := .t [.d (.int (i : Int)), .o (AE es[i])]) r3 (RV.t (fs := []) eT3 (RVs.cons (f := []) (fs := []) (.d (.int _)) (RVs.cons (f := []) (fs := []) (.o (A := AE es[i]) ⟨rfl, er.sm (s'.trans s3)⟩) .nil)))
    refine ⟨F3, G, S', _, _, r4, step i _ S' (List.getElem?_eq_getElem hi2) j', fun σ3 S3 F4 H3 r5 s5 e5 q5 => ⟨F4, G, S3, _, r5, q5, ?_, ?_, ?_, ?_⟩⟩
    · exact fun σ4 S4 F4 H4 r4 s4 e4 q4 => ⟨F4, S4, r4, (s'.trans s3).trans (s5.trans s4), (e'.trans e5).trans e4, q4⟩
    · exact k.rt.on (s'.trans (s3.trans s5)) (e'.trans e5)
    · exact k.nx.on (s'.trans (s3.trans s5)) (e'.trans e5)
    · exact fun σ4 S4 F4 H4 r4 s4 e4 q4 => ⟨F4, S4, r4, (s'.trans s3).trans (s5.trans s4), (e'.trans e5).trans e4, q4⟩
  · obtain ⟨F', S', r', s', e', j'⟩ := pv
    exact k.nx _ _ _ _ r' s' e' (done _ (by rw [← hl]; exact j'))
end
end Px

namespace Fo
open PySem PySem.Spec PyProof.Rows L2
theorem short_nat : ∀ (n : Nat) (l : List Nat), l.Nodup → (∀ x ∈ l, x < n) → l.length ≤ n
  | 0, l, _, h => by
    cases l with
    | nil => exact Nat.le_refl _
    | cons a r => exact absurd (h a (List.mem_cons_self ..)) (Nat.not_lt_zero a)
  | n + 1, l, d, h => by
    have ih := short_nat n (l.erase n) (d.erase n) fun x hx => by
      have z := (List.Nodup.mem_erase_iff d).mp hx
      have := h x z.2
      have := z.1
      omega
    by_cases c : n ∈ l
    · have := List.length_erase_of_mem c
      omega
    · rw [List.erase_of_not_mem c] at ih
      omega
/-- seats by one number -/
def seatNo : List Nat → Nat
  | [] => 0
  | s :: ss => s + 3 * seatNo ss
/-! ### shorter ones ahead, equally long ones as they stand -/
def Ah (a b : Cs) : Prop := a.length < b.length ∨ (a.length = b.length ∧ a < b)
theorem lt_back : ∀ {a b : Cs}, a < b → a.length = b.length → ∀ c d : Nat, a ++ [c] < b ++ [d]
  | [], [], h, _, _, _ => absurd h (List.not_lt_nil _)
  | [], _ :: _, _, e, _, _ => by simp at e
  | _ :: _, [], _, e, _, _ => by simp at e
  | x :: a, y :: b, h, e, c, d => by
    show x :: (a ++ [c]) < y :: (b ++ [d])
    rw [List.cons_lt_cons_iff] at h ⊢
    rcases h with h | ⟨h1, h2⟩
    · exact .inl h
    · exact .inr ⟨h1, lt_back h2 (by simpa using e) c d⟩
theorem lt_end {c d : Nat} (h : c < d) : ∀ a : Cs, a ++ [c] < a ++ [d]
  | [] => by
    show [c] < [d]
    rw [List.cons_lt_cons_iff]
    exact .inl h
  | x :: a => by
    show x :: (a ++ [c]) < x :: (a ++ [d])
    rw [List.cons_lt_cons_iff]
    exact .inr ⟨rfl, lt_end h a⟩
theorem lt_thru : ∀ {a b c : Cs}, a < b → b < c → a.length = b.length → b.length = c.length → a < c
  | [], [], _, h, _, _, _ => absurd h (List.not_lt_nil _)
  | [], _ :: _, _, _, _, e, _ => by simp at e
  | _ :: _, [], _, _, _, e, _ => by simp at e
  | _ :: _, _ :: _, [], _, _, _, e => by simp at e
  | x :: a, y :: b, z :: c, h, g, e, f => by
    rw [List.cons_lt_cons_iff] at h g ⊢
    rcases h with h | ⟨rfl, h⟩
    · rcases g with g | ⟨rfl, g⟩
      · exact .inl (Nat.lt_trans h g)
      · exact .inl h
    · rcases g with g | ⟨rfl, g⟩
      · exact .inl g
      · exact .inr ⟨rfl, lt_thru h g (by simpa using e) (by simpa using f)⟩
theorem lt_self : ∀ a : Cs, ¬ a < a
  | [], h => List.not_lt_nil _ h
  | x :: a, h => by
    rw [List.cons_lt_cons_iff] at h
    rcases h with h | ⟨_, h⟩
    · exact Nat.lt_irrefl _ h
    · exact lt_self a h
theorem lt_any : ∀ {a b : Cs}, a.length = b.length → a < b ∨ a = b ∨ b < a
  | [], [], _ => .inr (.inl rfl)
  | [], _ :: _, e => by simp at e
  | _ :: _, [], e => by simp at e
  | x :: a, y :: b, e => by
    rw [List.cons_lt_cons_iff, List.cons_lt_cons_iff]
    rcases Nat.lt_trichotomy x y with h | rfl | h
    · exact .inl (.inl h)
    · rcases lt_any (a := a) (b := b) (by simpa using e) with h | rfl | h
      · exact .inl (.inr ⟨rfl, h⟩)
      · exact .inr (.inl rfl)
      · exact .inr (.inr (.inr ⟨rfl, h⟩))
    · exact .inr (.inr (.inl h))
theorem Ah.trans {a b c : Cs} (h : Ah a b) (g : Ah b c) : Ah a c := by
  rcases h with h | ⟨h, h2⟩
  · rcases g with g | ⟨g, _⟩
    · exact .inl (Nat.lt_trans h g)
    · exact .inl (g ▸ h)
  · rcases g with g | ⟨g, g2⟩
    · exact .inl (h ▸ g)
    · exact .inr ⟨h.trans g, lt_thru h2 g2 h g⟩
theorem Ah.irr {a : Cs} (h : Ah a a) : False := by
  rcases h with h | ⟨_, h⟩
  · exact Nat.lt_irrefl _ h
  · exact lt_self a h
theorem Ah.any (a b : Cs) : Ah a b ∨ a = b ∨ Ah b a := by
  rcases Nat.lt_trichotomy a.length b.length with h | h | h
  · exact .inl (.inl h)
  · rcases lt_any h with g | g | g
    · exact .inl (.inr ⟨h, g⟩)
    · exact .inr (.inl g)
    · exact .inr (.inr (.inr ⟨h.symm, g⟩))
  · exact .inr (.inr (.inl h))
theorem Ah.pre (a : Cs) (c : Nat) : Ah a (a ++ [c]) := .inl (by rw [List.length_append]; exact Nat.lt_succ_self _)
theorem Ah.back {a b : Cs} (h : Ah a b) (c d : Nat) : Ah (a ++ [c]) (b ++ [d]) := by
  rcases h with h | ⟨h, g⟩
  · exact .inl (by rw [List.length_append, List.length_append]; exact Nat.add_lt_add_right h 1)
  · exact .inr ⟨by rw [List.length_append, List.length_append, h]; rfl, lt_back g h c d⟩
theorem Ah.end {c d : Nat} (h : c < d) (a : Cs) : Ah (a ++ [c]) (a ++ [d]) := .inr ⟨by rw [List.length_append, List.length_append]; rfl, lt_end h a⟩
/-- as much, or ahead -/
def Ae (a b : Cs) : Prop := a = b ∨ Ah a b
theorem Ae.back {a b : Cs} (h : Ae a b) (c : Nat) : Ae (a ++ [c]) (b ++ [c]) := by
  rcases h with rfl | h
  · exact .inl rfl
  · exact .inr (h.back c c)
theorem Ae.trans {a b c : Cs} (h : Ae a b) (g : Ae b c) : Ae a c := by
  rcases h with rfl | h
  · exact g
  · rcases g with rfl | g
    · exact .inr h
    · exact .inr (h.trans g)
theorem Ae.thru {a b c : Cs} (h : Ae a b) (g : Ah b c) : Ah a c := by
  rcases h with rfl | h
  · exact g
  · exact h.trans g
/-- the first word -/
def Lot.First (l : Lot) : Option Cs → Prop
  | none => ∀ u, l.word u = false
  | some t => l.word t = true ∧ ∀ u, l.word u = true → Ae t u
theorem Lot.First.one {l : Lot} {r q : Option Cs} (h : l.First r) (g : l.First q) : r = q := by
  cases r with
  | none =>
    cases q with
    | none => rfl
    | some u => exact absurd ((h u).symm.trans g.1) Bool.false_ne_true
  | some t =>
    cases q with
    | none => exact absurd ((g t).symm.trans h.1) Bool.false_ne_true
    | some u =>
      rcases h.2 u g.1 with rfl | a
      · rfl
      · rcases g.2 t h.1 with rfl | b
        · rfl
        · exact absurd (a.trans b) Ah.irr
/-- texts come to as they are sorted: the ones ahead of k are gone on with, and the one at k by j signs -/
structure Bf (l : Lot) (C : List Nat) (T : List Cs) (k j : Nat) : Prop where
  len : T.length = C.length
  nd : C.Nodup
  lt : ∀ n ∈ C, n < l.states.length
  on : ∀ (i n : Nat) (t : Cs), C[i]? = some n → T[i]? = some t → l.on (some 0) t = some n
  up : ∀ (i m : Nat) (s t : Cs), i < m → T[i]? = some s → T[m]? = some t → Ah s t
  zero : C[0]? = some 0 ∧ T[0]? = some []
  few : ∀ (i : Nat) (t : Cs), T[i]? = some t → t.length ≤ i
  done : ∀ (i n : Nat) (t : Cs) (c m : Nat), (i < k ∨ i = k ∧ c ∈ l.signs.take j) → C[i]? = some n → T[i]? = some t → l.step (some n) c = some m → ∃ (q : Nat) (u : Cs), C[q]? = some m ∧ T[q]? = some u ∧ Ae u (t ++ [c])
  far : ∀ t, T[k]? = some t → ∀ (i : Nat) (u : Cs), T[i]? = some u → (∀ c ∈ l.signs.drop j, Ah u (t ++ [c])) ∧ ∃ c, Ae u (t ++ [c])
  bad : ∀ i n, i < k → C[i]? = some n → (l.sta n).good = false
theorem get_snoc {α : Type} {L : List α} {x y : α} {i : Nat} (h : (L ++ [x])[i]? = some y) : (i < L.length ∧ L[i]? = some y) ∨ (i = L.length ∧ y = x) := by
  by_cases hi : i < L.length
  · rw [List.getElem?_append_left hi] at h
    exact .inl ⟨hi, h⟩
  · have hl := (List.getElem?_eq_some_iff.mp h).1
    rw [List.length_append, List.length_singleton] at hl
    have e : i = L.length := by omega
    subst e
    rw [List.getElem?_append_right (Nat.le_refl _), Nat.sub_self] at h
    exact .inr ⟨rfl, by simpa using h.symm⟩
theorem get_left {α : Type} {L : List α} {x y : α} {i : Nat} (h : L[i]? = some y) : (L ++ [x])[i]? = some y := by
  rw [List.getElem?_append_left (List.getElem?_eq_some_iff.mp h).1]
  exact h
theorem Bf.first {l : Lot} (o : l.Ok) : Bf l [0] [[]] 0 0 where
  len := rfl
  nd := by simp
  lt := fun n h => by rw [List.mem_singleton.mp h]; exact o.ne
  on := fun i n t h g => by
    cases i with
    | zero =>
      cases h
      cases g
      rfl
    | succ i => simp at h
  up := fun i m s t h _ g => by
    cases m with
    | zero => omega
    | succ m => simp at g
  zero := ⟨rfl, rfl⟩
  few := fun i t h => by
    cases i with
    | zero =>
      cases h
      exact Nat.le_refl _
    | succ i => simp at h
  done := fun i n t c m h => by
    rcases h with h | ⟨_, h⟩
    · omega
    · simp at h
  far := fun t h i u g => by
    have e : t = [] := by simpa using h.symm
    subst e
    cases i with
    | zero =>
      cases g
      exact ⟨fun c _ => Ah.pre [] c, 0, .inr (Ah.pre [] 0)⟩
    | succ i => simp at g
  bad := fun i n h => by omega
section
variable {l : Lot} {C : List Nat} {T : List Cs} {k j n c : Nat} {t : Cs}
theorem mem_take_succ {L : List Nat} {j c x : Nat} (hc : L[j]? = some c) (h : x ∈ L.take (j + 1)) : x ∈ L.take j ∨ x = c := by
  rw [take_snoc hc] at h
  rcases List.mem_append.mp h with h | h
  · exact .inl h
  · exact .inr (List.mem_singleton.mp h)
theorem drop_mem {L : List Nat} {j c : Nat} (hc : L[j]? = some c) : c ∈ L.drop j := by
  have e : (L.drop j)[0]? = some c := by rw [List.getElem?_drop]; exact hc
  exact List.mem_of_getElem? e
theorem drop_less {L : List Nat} {j x : Nat} (h : x ∈ L.drop (j + 1)) : x ∈ L.drop j := by
  rw [← List.drop_drop] at h
  exact List.mem_of_mem_drop h
theorem Bf.skip (B : Bf l C T k j) (hn : C[k]? = some n) (hc : l.signs[j]? = some c) (hs : l.step (some n) c = none) : Bf l C T k (j + 1) where
  len := B.len
  nd := B.nd
  lt := B.lt
  on := B.on
  up := B.up
  zero := B.zero
  few := B.few
  done := fun i n' t' c' m h h1 h2 h3 => by
    rcases h with h | ⟨rfl, h⟩
    · exact B.done i n' t' c' m (.inl h) h1 h2 h3
    · rcases mem_take_succ hc h with h | rfl
      · exact B.done i n' t' c' m (.inr ⟨rfl, h⟩) h1 h2 h3
      · rw [hn] at h1
        cases h1
        rw [hs] at h3
        cases h3
  far := fun t' h i u g => ⟨fun c' hc' => (B.far t' h i u g).1 c' (drop_less hc'), (B.far t' h i u g).2⟩
  bad := B.bad
theorem Bf.there {m : Nat} (B : Bf l C T k j) (hn : C[k]? = some n) (hc : l.signs[j]? = some c) (hs : l.step (some n) c = some m) (hm : m ∈ C) : Bf l C T k (j + 1) where
  len := B.len
  nd := B.nd
  lt := B.lt
  on := B.on
  up := B.up
  zero := B.zero
  few := B.few
  done := fun i n' t' c' m' h h1 h2 h3 => by
    rcases h with h | ⟨rfl, h⟩
    · exact B.done i n' t' c' m' (.inl h) h1 h2 h3
    · rcases mem_take_succ hc h with h | rfl
      · exact B.done i n' t' c' m' (.inr ⟨rfl, h⟩) h1 h2 h3
      · rw [hn] at h1
        cases h1
        rw [hs] at h3
        cases h3
        obtain ⟨q, hq⟩ := List.mem_iff_getElem?.mp hm
        have ql := (List.getElem?_eq_some_iff.mp hq).1
        have hu : T[q]? = some (T[q]'(by rw [B.len]; exact ql)) := List.getElem?_eq_getElem _
        exact ⟨q, _, hq, hu, .inr ((B.far t' h2 q _ hu).1 c' (drop_mem hc))⟩
  far := fun t' h i u g => ⟨fun c' hc' => (B.far t' h i u g).1 c' (drop_less hc'), (B.far t' h i u g).2⟩
  bad := B.bad
theorem Bf.new {m : Nat} (B : Bf l C T k j) (sorted : l.signs.Pairwise (· < ·)) (hn : C[k]? = some n) (ht : T[k]? = some t) (hc : l.signs[j]? = some c) (hs : l.step (some n) c = some m) (hm : m ∉ C) (hml : m < l.states.length) : Bf l (C ++ [m]) (T ++ [t ++ [c]]) k (j + 1) := by
  have kl := (List.getElem?_eq_some_iff.mp ht).1
  have kc : k < C.length := (List.getElem?_eq_some_iff.mp hn).1
  have ht' : (T ++ [t ++ [c]])[k]? = some t := get_left ht
  refine ⟨by rw [List.length_append, List.length_append, B.len]; rfl, ?_, ?_, ?_, ?_, ⟨get_left B.zero.1, get_left B.zero.2⟩, ?_, ?_, ?_, ?_⟩
  · rw [List.nodup_append]
    refine ⟨B.nd, by simp, fun x hx y hy e => hm ?_⟩
    rw [List.mem_singleton.mp hy] at e
    exact e ▸ hx
  · intro x hx
    rcases List.mem_append.mp hx with h | h
    · exact B.lt x h
    · rw [List.mem_singleton.mp h]; exact hml
  · intro i n' t' h g
    rcases get_snoc h with ⟨hi, h⟩ | ⟨rfl, rfl⟩
    · rcases get_snoc g with ⟨_, g⟩ | ⟨e, _⟩
      · exact B.on i n' t' h g
      · rw [B.len] at e
        omega
    · rcases get_snoc g with ⟨e, _⟩ | ⟨_, rfl⟩
      · rw [B.len] at e
        omega
      · rw [Lot.on_snoc, B.on k n t hn ht]
        exact hs
  · intro i q s t' hi h g
    rcases get_snoc g with ⟨_, g⟩ | ⟨rfl, rfl⟩
    · rcases get_snoc h with ⟨_, h⟩ | ⟨e, _⟩
      · exact B.up i q s t' hi h g
      · omega
    · rcases get_snoc h with ⟨_, h⟩ | ⟨e, _⟩
      · exact (B.far t ht i s h).1 c (drop_mem hc)
      · omega
  · intro i t' h
    rcases get_snoc h with ⟨_, h⟩ | ⟨rfl, rfl⟩
    · exact B.few i t' h
    · have := B.few k t ht
      rw [List.length_append, List.length_singleton]
      omega
  · intro i n' t' c' m' h h1 h2 h3
    have old : ∀ (n' : Nat) (t' : Cs), (i < k ∨ i = k) → (C ++ [m])[i]? = some n' → (T ++ [t ++ [c]])[i]? = some t' → C[i]? = some n' ∧ T[i]? = some t' := fun n' t' hik h1 h2 => by
      refine ⟨?_, ?_⟩
      · rcases get_snoc h1 with ⟨_, z⟩ | ⟨e, _⟩
        · exact z
        · omega
      · rcases get_snoc h2 with ⟨_, z⟩ | ⟨e, _⟩
        · exact z
        · omega
    rcases h with h | ⟨rfl, h⟩
    · obtain ⟨a, b⟩ := old n' t' (.inl h) h1 h2
      obtain ⟨q, u, x, y, z⟩ := B.done i n' t' c' m' (.inl h) a b h3
      exact ⟨q, u, get_left x, get_left y, z⟩
    · obtain ⟨a, b⟩ := old n' t' (.inr rfl) h1 h2
      rcases mem_take_succ hc h with h | rfl
      · obtain ⟨q, u, x, y, z⟩ := B.done i n' t' c' m' (.inr ⟨rfl, h⟩) a b h3
        exact ⟨q, u, get_left x, get_left y, z⟩
      · rw [hn] at a
        rw [ht] at b
        cases a
        cases b
        rw [hs] at h3
        cases h3
        refine ⟨C.length, _, ?_, ?_, .inl rfl⟩
        · rw [List.getElem?_append_right (Nat.le_refl _), Nat.sub_self]
          rfl
        · rw [← B.len, List.getElem?_append_right (Nat.le_refl _), Nat.sub_self]
          rfl
  · intro t' h i u g
    rw [ht'] at h
    cases h
    rcases get_snoc g with ⟨_, g⟩ | ⟨_, rfl⟩
    · exact ⟨fun c' hc' => (B.far t ht i u g).1 c' (drop_less hc'), (B.far t ht i u g).2⟩
    · refine ⟨fun c' hc' => Ah.end ?_ t, c, .inl rfl⟩
      have e : l.signs.drop j = c :: l.signs.drop (j + 1) := by
        obtain ⟨hj, ej⟩ := List.getElem?_eq_some_iff.mp hc
        rw [List.drop_eq_getElem_cons hj, ej]
      have s := List.Pairwise.sublist (List.drop_sublist j l.signs) sorted
      rw [e] at s
      exact (List.pairwise_cons.mp s).1 c' hc'
  · intro i n' h g
    rcases get_snoc g with ⟨_, g⟩ | ⟨e, _⟩
    · exact B.bad i n' h g
    · omega
theorem Bf.next (B : Bf l C T k l.signs.length) (hn : C[k]? = some n) (ht : T[k]? = some t) (hb : (l.sta n).good = false) : Bf l C T (k + 1) 0 where
  len := B.len
  nd := B.nd
  lt := B.lt
  on := B.on
  up := B.up
  zero := B.zero
  few := B.few
  done := fun i n' t' c' m h h1 h2 h3 => by
    rcases h with h | ⟨_, h⟩
    · rcases Nat.lt_or_ge i k with h | h4
      · exact B.done i n' t' c' m (.inl h) h1 h2 h3
      · have e : i = k := by omega
        have hc : c' ∈ l.signs := by
          rcases Classical.em (c' ∈ l.signs) with q | q
          · exact q
          · have e : l.step (some n') c' = none := if_neg q
            rw [e] at h3
            cases h3
        exact B.done i n' t' c' m (.inr ⟨e, by rw [List.take_length]; exact hc⟩) h1 h2 h3
    · simp at h
  far := fun t' h i u g => by
    have a := B.up k (k + 1) t t' (Nat.lt_succ_self k) ht h
    obtain ⟨c', hc'⟩ := (B.far t ht i u g).2
    have z : ∀ d, Ah u (t' ++ [d]) := fun d => hc'.thru (a.back c' d)
    exact ⟨fun d _ => z d, 0, .inr (z 0)⟩
  bad := fun i n' h g => by
    rcases Nat.lt_or_ge i k with h1 | h1
    · exact B.bad i n' h1 g
    · have e : i = k := by omega
      subst e
      rw [hn] at g
      cases g
      exact hb
theorem Bf.good (B : Bf l C T k 0) (hn : C[k]? = some n) (ht : T[k]? = some t) (hg : (l.sta n).good = true) : l.First (some t) := by
  have near : ∀ (z : Nat) (u : Cs), u.length = z → Ah u t → ∀ m, l.on (some 0) u = some m → ∃ (i : Nat) (v : Cs), i < k ∧ C[i]? = some m ∧ T[i]? = some v ∧ Ae v u := by
    have kk : ∀ (i : Nat) (v : Cs), T[i]? = some v → Ah v t → i < k := fun i v hv a => by
      rcases Nat.lt_trichotomy i k with h | rfl | h
      · exact h
      · rw [ht] at hv
        cases hv
        exact absurd a Ah.irr
      · exact absurd (a.trans (B.up k i t v h ht hv)) Ah.irr
    intro z
    induction z with
    | zero =>
      intro u hu a m e
      have e0 : u = [] := List.length_eq_zero_iff.mp hu
      subst e0
      cases e
      exact ⟨0, [], kk 0 [] B.zero.2 a, B.zero.1, B.zero.2, .inl rfl⟩
    | succ z ih =>
      intro u hu a m e
      rcases List.eq_nil_or_concat u with rfl | ⟨u', c', rfl⟩
      · simp at hu
      · rw [List.concat_eq_append] at hu a e ⊢
        rw [Lot.on_snoc] at e
        cases e1 : l.on (some 0) u' with
        | none =>
          rw [e1] at e
          cases e
        | some m' =>
          rw [e1] at e
          obtain ⟨i, v, hi, h1, h2, h3⟩ := ih u' (by simpa using hu) ((Ah.pre u' c').trans a) m' e1
          obtain ⟨q, w, x, y, f⟩ := B.done i m' v c' m (.inl hi) h1 h2 e
          have g := f.trans (h3.back c')
          exact ⟨q, w, kk q w y (g.thru a), x, y, g⟩
  have on := B.on k n t hn ht
  refine ⟨?_, fun u hu => ?_⟩
  · unfold Lot.word
    rw [on]
    exact hg
  · rcases Ah.any t u with h | h | h
    · exact .inr h
    · exact .inl h
    · unfold Lot.word at hu
      cases e : l.on (some 0) u with
      | none =>
        rw [e] at hu
        cases hu
      | some m =>
        rw [e] at hu
        obtain ⟨i, v, hi, h1, _⟩ := near _ u rfl h m e
        have := B.bad i m hi h1
        exact absurd (this.symm.trans hu) Bool.false_ne_true
theorem Bf.none (B : Bf l C T C.length 0) : l.First none := by
  have near : ∀ (z : Nat) (u : Cs), u.length = z → ∀ m, l.on (some 0) u = some m → ∃ i : Nat, C[i]? = some m := by
    intro z
    induction z with
    | zero =>
      intro u hu m e
      have e0 : u = [] := List.length_eq_zero_iff.mp hu
      subst e0
      cases e
      exact ⟨0, B.zero.1⟩
    | succ z ih =>
      intro u hu m e
      rcases List.eq_nil_or_concat u with rfl | ⟨u', c', rfl⟩
      · simp at hu
      · rw [List.concat_eq_append] at hu e
        rw [Lot.on_snoc] at e
        cases e1 : l.on (some 0) u' with
        | none =>
          rw [e1] at e
          cases e
        | some m' =>
          rw [e1] at e
          obtain ⟨i, h1⟩ := ih u' (by simpa using hu) m' e1
          have il := (List.getElem?_eq_some_iff.mp h1).1
          have h2 : T[i]? = some (T[i]'(by rw [B.len]; exact il)) := List.getElem?_eq_getElem _
          obtain ⟨q, w, x, _⟩ := B.done i m' _ c' m (.inl il) h1 h2 e
          exact ⟨q, x⟩
  intro u
  unfold Lot.word
  cases e : l.on (some 0) u with
  | none => rfl
  | some m =>
    obtain ⟨i, h⟩ := near _ u rfl m e
    exact B.bad i m (List.getElem?_eq_some_iff.mp h).1 h
theorem Bf.short (B : Bf l C T k j) : C.length ≤ l.states.length := short_nat _ C B.nd B.lt
end
/-! ### whole numbers in a list -/
theorem in_nats (x : Nat) : ∀ C : List Nat, inV (.int (x : Int)) (C.map fun n : Nat => V.int (n : Int)) = decide (x ∈ C)
  | [] => by simp [inV]
  | c :: C => by
    have ih := in_nats x C
    show (eqV (.int (c : Int)) (.int (x : Int)) || inV (.int (x : Int)) (C.map fun n : Nat => V.int (n : Int))) = _
    rw [ih]
    by_cases h : c = x
    · subst h
      simp [eqV]
    · have e : eqV (.int (c : Int)) (.int (x : Int)) = false := by
        show ((c : Int) == (x : Int)) = false
        exact beq_eq_false_iff_ne.mpr (by omega)
      have h' : ¬ x = c := fun z => h z.symm
      rw [e, Bool.false_or]
      simp [h']
theorem flat_nats : ∀ C : List Nat, (C.map fun n : Nat => V.int (n : Int)).all flatV = true
  | [] => rfl
  | c :: C => by
    show (flatV (.int (c : Int)) && (C.map fun n : Nat => V.int (n : Int)).all flatV) = true
    rw [flat_nats C]
    rfl
end Fo

namespace Fo
open PySem PySem.Spec PyProof.Rows L2
/-! ### words without end -/
theorem two_alike {f : Nat → Nat} {S : Nat} (h : ∀ i, i ≤ S → f i < S) : ∃ i j, i < j ∧ j ≤ S ∧ f i = f j := by
  rcases Classical.em (∃ i j, i < j ∧ j ≤ S ∧ f i = f j) with q | q
  · exact q
  · have nd : ((List.range (S + 1)).map f).Nodup := by
      rw [List.Nodup, List.pairwise_map]
      refine List.Pairwise.imp_of_mem (fun {a b} ha hb hab e => q ⟨a, b, hab, ?_, e⟩) List.pairwise_lt_range
      have := List.mem_range.mp hb
      omega
    have := short_nat S _ nd fun x hx => by
      obtain ⟨i, hi, rfl⟩ := List.mem_map.mp hx
      have := List.mem_range.mp hi
      exact h i (by omega)
    rw [List.length_map, List.length_range] at this
    omega
section
variable {l : Lot}
theorem Lot.on_app (l : Lot) (s : Option Nat) (t u : Cs) : l.on s (t ++ u) = l.on (l.on s t) u := by
  unfold Lot.on
  rw [List.foldl_append]
theorem Lot.on_part {s : Option Nat} {t : Cs} {n : Nat} (h : l.on s t = some n) (i : Nat) : ∃ m, l.on s (t.take i) = some m := by
  cases e : l.on s (t.take i) with
  | none =>
    rw [Lot.on_stop e] at h
    cases h
  | some m => exact ⟨m, rfl⟩
theorem word_on {t : Cs} (h : l.word t = true) : ∃ n, l.on (some 0) t = some n ∧ (l.sta n).good = true := by
  unfold Lot.word at h
  cases e : l.on (some 0) t with
  | none =>
    rw [e] at h
    cases h
  | some n =>
    rw [e] at h
    exact ⟨n, rfl, h⟩
theorem word_of {t : Cs} {n : Nat} (h : l.on (some 0) t = some n) (g : (l.sta n).good = true) : l.word t = true := by
  unfold Lot.word
  rw [h]
  exact g
/-- a ring in the beginning of a long word -/
theorem ring {t : Cs} (o : l.Ok) (h : l.word t = true) (hl : l.states.length ≤ t.length) :
    ∃ i j q, i < j ∧ j ≤ l.states.length ∧ l.on (some 0) (t.take i) = some q ∧ l.on (some 0) (t.take j) = some q := by
  obtain ⟨n, on, g⟩ := word_on h
  have ne := o.ne
  have some_ := fun i => Lot.on_part on i
  obtain ⟨i, j, h1, h2, h3⟩ := two_alike (S := l.states.length) (f := fun i => (l.on (some 0) (t.take i)).getD 0) fun i _ => by
    obtain ⟨m, e⟩ := some_ i
    show (l.on (some 0) (t.take i)).getD 0 < _
    rw [e]
    exact Lot.on_lt o _ 0 m ne e
  obtain ⟨a, ea⟩ := some_ i
  obtain ⟨b, eb⟩ := some_ j
  have h3 : (l.on (some 0) (t.take i)).getD 0 = (l.on (some 0) (t.take j)).getD 0 := h3
  rw [ea, eb] at h3
  have h3 : a = b := h3
  exact ⟨i, j, a, h1, h2, ea, h3 ▸ eb⟩
theorem cut_down (o : l.Ok) : ∀ (n : Nat) (t : Cs), t.length ≤ n → l.states.length ≤ t.length → l.word t = true → ∃ u : Cs, l.states.length ≤ u.length ∧ u.length < 2 * l.states.length ∧ l.word u = true := by
  intro n
  induction n with
  | zero =>
    intro t h1 h2 _
    have := o.ne
    omega
  | succ n ih =>
    intro t h1 h2 h3
    by_cases c : t.length < 2 * l.states.length
    · exact ⟨t, h2, c, h3⟩
    · obtain ⟨i, j, q, h4, h5, h6, h7⟩ := ring o h3 h2
      obtain ⟨m, on, g⟩ := word_on h3
      have e := Lot.on_split l (some 0) t j
      rw [on, h7] at e
      refine ih (t.take i ++ t.drop j) ?_ ?_ (word_of (n := m) ?_ g)
      · rw [List.length_append, List.length_take, List.length_drop]
        omega
      · rw [List.length_append, List.length_take, List.length_drop]
        omega
      · rw [Lot.on_app, h6]
        exact e.symm
/-- some signs lead from s to n -/
def Lot.leads (l : Lot) (s n : Nat) : Prop := ∃ t : Cs, t ≠ [] ∧ l.on (some s) t = some n
def Lot.Ring (l : Lot) : Prop := ∃ q, (q = 0 ∨ l.leads 0 q) ∧ l.leads q q ∧ ∃ f, (f = q ∨ l.leads q f) ∧ (l.sta f).good = true
def Lot.Long (l : Lot) : Prop := ∃ t : Cs, l.states.length ≤ t.length ∧ t.length < 2 * l.states.length ∧ l.word t = true
def turns (v : Cs) : Nat → Cs
  | 0 => []
  | n + 1 => v ++ turns v n
theorem turns_on {v : Cs} {q : Nat} (h : l.on (some q) v = some q) : ∀ n, l.on (some q) (turns v n) = some q
  | 0 => rfl
  | n + 1 => by
    show l.on (some q) (v ++ turns v n) = _
    rw [Lot.on_app, h, turns_on h n]
theorem turns_len {v : Cs} (h : v ≠ []) : ∀ n, n ≤ (turns v n).length
  | 0 => Nat.zero_le _
  | n + 1 => by
    have := turns_len h n
    have := List.length_pos_iff.mpr h
    show _ ≤ (v ++ turns v n).length
    rw [List.length_append]
    omega
theorem maybe {s n : Nat} (h : n = s ∨ l.leads s n) : ∃ t : Cs, l.on (some s) t = some n := by
  rcases h with rfl | ⟨t, _, h⟩
  · exact ⟨[], rfl⟩
  · exact ⟨t, h⟩
theorem maybe_of {s n : Nat} {t : Cs} (h : l.on (some s) t = some n) : n = s ∨ l.leads s n := by
  cases t with
  | nil =>
    cases h
    exact .inl rfl
  | cons c t => exact .inr ⟨c :: t, List.cons_ne_nil _ _, h⟩
theorem long_ring (o : l.Ok) : l.Long ↔ l.Ring := by
  constructor
  · rintro ⟨t, h1, _, h3⟩
    obtain ⟨i, j, q, h4, h5, h6, h7⟩ := ring o h3 h1
    obtain ⟨m, on, g⟩ := word_on h3
    have e := Lot.on_split l (some 0) t j
    rw [on, h7] at e
    have e2 := Lot.on_split l (some 0) (t.take j) i
    rw [h7, List.take_take, Nat.min_eq_left (Nat.le_of_lt h4), h6] at e2
    refine ⟨q, maybe_of h6, ⟨(t.take j).drop i, fun z => ?_, e2.symm⟩, m, maybe_of e.symm, g⟩
    have := congrArg List.length z
    rw [List.length_drop, List.length_take, List.length_nil] at this
    omega
  · rintro ⟨q, h1, ⟨v, hv, h2⟩, f, h3, g⟩
    obtain ⟨u1, h1⟩ := maybe h1
    obtain ⟨u2, h3⟩ := maybe h3
    have w : l.word (u1 ++ (turns v l.states.length ++ u2)) = true := word_of (n := f) (by rw [Lot.on_app, h1, Lot.on_app, turns_on h2, h3]) g
    have len : l.states.length ≤ (u1 ++ (turns v l.states.length ++ u2)).length := by
      have := turns_len hv l.states.length
      rw [List.length_append, List.length_append]
      omega
    exact cut_down o _ _ (Nat.le_refl _) len w
/-- all texts of a length -/
theorem texts_mem (g : Cs) : ∀ (n : Nat) (t : Cs), t ∈ texts g n ↔ t.length = n ∧ ∀ c ∈ t, c ∈ g
  | 0, t => by
    show t ∈ [[]] ↔ _
    rw [List.mem_singleton]
    constructor
    · rintro rfl
      exact ⟨rfl, fun _ h => nomatch h⟩
    · rintro ⟨h, _⟩
      exact List.length_eq_zero_iff.mp h
  | n + 1, t => by
    show t ∈ longer g (texts g n) ↔ _
    unfold longer
    rw [List.mem_flatMap]
    constructor
    · rintro ⟨u, hu, h⟩
      obtain ⟨c, hc, rfl⟩ := List.mem_map.mp h
      obtain ⟨h1, h2⟩ := (texts_mem g n u).mp hu
      refine ⟨by rw [List.length_append, h1]; rfl, fun x hx => ?_⟩
      rcases List.mem_append.mp hx with h | h
      · exact h2 x h
      · rw [List.mem_singleton.mp h]
        exact hc
    · rintro ⟨h1, h2⟩
      rcases List.eq_nil_or_concat t with rfl | ⟨u, c, rfl⟩
      · simp at h1
      · rw [List.concat_eq_append] at h1 h2 ⊢
        exact ⟨u, (texts_mem g n u).mpr ⟨by simpa using h1, fun x hx => h2 x (List.mem_append_left _ hx)⟩, List.mem_map.mpr ⟨c, h2 c (List.mem_append_right _ (List.mem_singleton.mpr rfl)), rfl⟩⟩
theorem on_signs {s : Option Nat} {t : Cs} {n : Nat} (h : l.on s t = some n) : ∀ c ∈ t, c ∈ l.signs := by
  intro c hc
  obtain ⟨i, hi⟩ := List.mem_iff_getElem?.mp hc
  rcases Classical.em (c ∈ l.signs) with q | q
  · exact q
  · have e : l.on s (t.take (i + 1)) = none := by
      rw [take_snoc hi, Lot.on_snoc]
      cases l.on s (t.take i) with
      | none => rfl
      | some m => exact if_neg q
    rw [Lot.on_stop e] at h
    cases h
theorem many_pos (o : l.Ok) (n : Nat) : 0 < l.many n ↔ ∃ t : Cs, t.length = n ∧ l.word t = true := by
  rw [many_words o n]
  constructor
  · intro h
    have h : 0 < ((texts l.signs n).filter l.word).length := by omega
    obtain ⟨t, ht⟩ := List.exists_mem_of_length_pos h
    obtain ⟨h1, h2⟩ := List.mem_filter.mp ht
    exact ⟨t, ((texts_mem _ _ t).mp h1).1, h2⟩
  · rintro ⟨t, h1, h2⟩
    obtain ⟨m, on, _⟩ := word_on h2
    have : t ∈ (texts l.signs n).filter l.word := List.mem_filter.mpr ⟨(texts_mem _ _ t).mpr ⟨h1, on_signs on⟩, h2⟩
    have := List.length_pos_of_mem this
    omega
/-- as the program asks -/
theorem long_many (o : l.Ok) : l.Long ↔ ∃ k, k < l.states.length ∧ 0 < l.many (l.states.length + k) := by
  constructor
  · rintro ⟨t, h1, h2, h3⟩
    exact ⟨t.length - l.states.length, by omega, (many_pos o _).mpr ⟨t, by omega, h3⟩⟩
  · rintro ⟨k, h1, h2⟩
    obtain ⟨t, h3, h4⟩ := (many_pos o _).mp h2
    exact ⟨t, by omega, by omega, h4⟩
end
end Fo

namespace Fo
open PySem PySem.Spec PyProof.Rows L2
/-! ### lots of the same words -/
section
variable {l k : Lot}
theorem word_fine (t : Cs) : l.word t = l.fine (l.on (some 0) t) := by
  unfold Lot.word Lot.fine
  cases l.on (some 0) t <;> rfl
/-- led alike -/
theorem word_like (R : Option Nat → Option Nat → Prop) (h0 : R (some 0) (some 0)) (hs : ∀ a b c, R a b → R (l.step a c) (k.step b c)) (hg : ∀ a b, R a b → l.fine a = k.fine b) (t : Cs) : l.word t = k.word t := by
  have on : ∀ (t : Cs) (a b : Option Nat), R a b → R (l.on a t) (k.on b t) := by
    intro t
    induction t with
    | nil => exact fun a b h => h
    | cons c t ih => exact fun a b h => ih _ _ (hs a b c h)
  rw [word_fine, word_fine]
  exact hg _ _ (on t _ _ h0)
theorem first_like (h : ∀ t, l.word t = k.word t) {r : Option Cs} (f : l.First r) : k.First r := by
  cases r with
  | none => exact fun u => (h u).symm.trans (f u)
  | some t => exact ⟨(h t).symm.trans f.1, fun u g => f.2 u ((h u).trans g)⟩
theorem many_like (o : l.Ok) (p : k.Ok) (hs : l.signs = k.signs) (h : ∀ t, l.word t = k.word t) (n : Nat) : l.many n = k.many n := by
  rw [many_words o n, many_words p n, hs]
  congr 2
  exact List.filter_congr fun t _ => h t
/-- words longer than any number -/
theorem long_far (o : l.Ok) : l.Long ↔ ∀ n, ∃ t : Cs, n ≤ t.length ∧ l.word t = true := by
  constructor
  · intro h n
    obtain ⟨q, h1, ⟨v, hv, h2⟩, f, h3, g⟩ := (long_ring o).mp h
    obtain ⟨u1, h1⟩ := maybe h1
    obtain ⟨u2, h3⟩ := maybe h3
    refine ⟨u1 ++ (turns v n ++ u2), ?_, word_of (n := f) (by rw [Lot.on_app, h1, Lot.on_app, turns_on h2, h3]) g⟩
    have := turns_len hv n
    rw [List.length_append, List.length_append]
    omega
  · intro h
    obtain ⟨t, h1, h2⟩ := h l.states.length
    exact cut_down o _ t (Nat.le_refl _) h1 h2
theorem long_like (o : l.Ok) (p : k.Ok) (h : ∀ t, l.word t = k.word t) : l.Long ↔ k.Long := by
  rw [long_far o, long_far p]
  constructor
  · intro g n
    obtain ⟨t, a, b⟩ := g n
    exact ⟨t, a, (h t).symm.trans b⟩
  · intro g n
    obtain ⟨t, a, b⟩ := g n
    exact ⟨t, a, (h t).trans b⟩
/-- each text a word of just one of both: together they have all texts -/
theorem many_both (o : l.Ok) (p : k.Ok) (hs : l.signs = k.signs) (n : Nat) (h : ∀ t ∈ texts l.signs n, k.word t = !l.word t) : l.many n + k.many n = (((texts l.signs n).length : Nat) : Int) := by
  rw [many_words o n, many_words p n, ← hs, ← List.countP_eq_length_filter, ← List.countP_eq_length_filter]
  have e : (texts l.signs n).countP k.word = (texts l.signs n).countP fun t => !l.word t := List.countP_congr fun t ht => by rw [h t ht]
  rw [e]
  have z : (texts l.signs n).length = (texts l.signs n).countP l.word + (texts l.signs n).countP fun t => !l.word t := by
    rw [List.length_eq_countP_add_countP l.word]
    congr 1
    exact List.countP_congr fun t _ => by cases l.word t <;> simp
  omega
end
end Fo

namespace Fo
open PySem PySem.Spec PyProof.Rows L2
section
variable {l k : Lot}
/-- a word, so one with fewer signs than states -/
theorem cut_short (o : l.Ok) : ∀ (n : Nat) (t : Cs), t.length ≤ n → l.word t = true → ∃ u : Cs, u.length < l.states.length ∧ l.word u = true := by
  intro n
  induction n with
  | zero =>
    intro t h1 h2
    have := o.ne
    exact ⟨t, by omega, h2⟩
  | succ n ih =>
    intro t h1 h2
    by_cases c : t.length < l.states.length
    · exact ⟨t, c, h2⟩
    · obtain ⟨i, j, q, h4, h5, h6, h7⟩ := ring o h2 (by omega)
      obtain ⟨m, on, g⟩ := word_on h2
      have e := Lot.on_split l (some 0) t j
      rw [on, h7] at e
      refine ih (t.take i ++ t.drop j) ?_ (word_of (n := m) ?_ g)
      · rw [List.length_append, List.length_take, List.length_drop]
        omega
      · rw [Lot.on_app, h6]
        exact e.symm
theorem first_far {r : Option Cs} (o : l.Ok) (f : l.First r) : r = none ↔ ∀ k, k < l.states.length → l.many k = 0 := by
  have nn := fun k => (many_pos o k)
  constructor
  · rintro rfl k hk
    have z : ¬ 0 < l.many k := fun z => by
      obtain ⟨t, _, e⟩ := (nn k).mp z
      rw [f t] at e
      cases e
    rw [many_words o] at z ⊢
    omega
  · intro h
    cases r with
    | none => rfl
    | some t =>
      obtain ⟨u, hu, e⟩ := cut_short o _ t (Nat.le_refl _) f.1
      have := (nn u.length).mpr ⟨u, rfl, e⟩
      rw [h _ hu] at this
      exact absurd this (by decide)
theorem many_not (o : l.Ok) (n : Nat) : 0 ≤ l.many n := by rw [many_words o]; exact Int.natCast_nonneg _
end
/-! sums of what isn't below naught -/
theorem sum_not : ∀ (xs : List Int), (∀ x ∈ xs, 0 ≤ x) → 0 ≤ xs.sum
  | [], _ => Int.le_refl _
  | x :: xs, h => by
    rw [List.sum_cons]
    have := h x (List.mem_cons_self ..)
    have := sum_not xs fun y m => h y (List.mem_cons_of_mem _ m)
    omega
theorem sum_any : ∀ (xs : List Int), (∀ x ∈ xs, 0 ≤ x) → (0 < xs.sum ↔ ∃ x ∈ xs, 0 < x)
  | [], _ => ⟨fun h => absurd h (by decide), fun ⟨_, m, _⟩ => nomatch m⟩
  | x :: xs, h => by
    have h0 := h x (List.mem_cons_self ..)
    have h1 := fun y m => h y (List.mem_cons_of_mem x m)
    have ih := sum_any xs h1
    have nn := sum_not xs h1
    rw [List.sum_cons]
    constructor
    · intro g
      by_cases c : 0 < x
      · exact ⟨x, List.mem_cons_self .., c⟩
      · obtain ⟨y, m, e⟩ := ih.mp (by omega)
        exact ⟨y, List.mem_cons_of_mem _ m, e⟩
    · rintro ⟨y, m, e⟩
      rcases List.mem_cons.mp m with rfl | m
      · omega
      · have := ih.mpr ⟨y, m, e⟩
        omega
theorem sum_nil (xs : List Int) (h : ∀ x ∈ xs, 0 ≤ x) : xs.sum = 0 ↔ ∀ x ∈ xs, x = 0 := by
  have a := sum_any xs h
  have b := sum_not xs h
  constructor
  · intro e x m
    have := h x m
    by_cases c : 0 < x
    · have := a.mpr ⟨x, m, c⟩
      omega
    · omega
  · intro g
    by_cases c : 0 < xs.sum
    · obtain ⟨x, m, e⟩ := a.mp c
      rw [g x m] at e
      exact absurd e (by decide)
    · omega
end Fo

namespace Fo
open PySem PySem.Spec PyProof.Rows L2
/-! ### a lot told otherwise -/
/-- the states by other numbers -/
def stR (l : Lot) (ord : List Nat) (k : Nat) : LSt := ⟨(l.sta k).ways.map fun w => w.map fun n => ord.idxOf n, (l.sta k).good⟩
def renL (l : Lot) (ord : List Nat) : Lot := ⟨l.signs, ord.map fun k => stR l ord k⟩
def Ordr (m : Nat) (ord : List Nat) : Prop := ord.Perm (List.range m) ∧ ord.head? = some 0
/-- a way to a state more wherever there was none -/
def fullL (S : Nat) (s : LSt) : LSt := ⟨s.ways.map fun w => some (w.getD S), s.good⟩
def moreL (l : Lot) : Lot := ⟨l.signs, l.states.map (fullL l.states.length) ++ [⟨List.replicate l.signs.length (some l.states.length), false⟩]⟩
/-- the others good -/
def flipL (l : Lot) : Lot := ⟨l.signs, l.states.map fun s => ⟨s.ways, !s.good⟩⟩
theorem ordr_in {m i : Nat} {ord : List Nat} (h : Ordr m ord) : i ∈ ord ↔ i < m := by rw [h.1.mem_iff, List.mem_range]
theorem ordr_len {m : Nat} {ord : List Nat} (h : Ordr m ord) : ord.length = m := by rw [h.1.length_eq, List.length_range]
theorem ordr_put {m r : Nat} {ord : List Nat} (h : Ordr m ord) : Ordr (m + 1) (ord.take (r + 1) ++ [m] ++ ord.drop (r + 1)) := by
  constructor
  · rw [List.range_succ, List.append_assoc]
    refine (List.perm_middle (a := m) (l₁ := ord.take (r + 1)) (l₂ := ord.drop (r + 1))).trans ?_
    rw [List.take_append_drop]
    exact (List.perm_append_singleton m ord).symm.trans (h.1.append_right [m])
  · obtain ⟨_, h⟩ := h
    cases ord with
    | nil => cases h
    | cons a ord =>
      cases h
      rfl
theorem getD_mapD {α β : Type} {f : α → β} {d : α} {e : β} (h : f d = e) (l : List α) (i : Nat) : (l.map f).getD i e = f (l.getD i d) := by
  rw [List.getD_eq_getElem?_getD, List.getD_eq_getElem?_getD, List.getElem?_map]
  cases l[i]? with
  | none => exact h.symm
  | some x => rfl
section
variable {l : Lot} {ord : List Nat}
theorem ren_sta (t : Nat) (ht : t < ord.length) : (renL l ord).sta t = stR l ord ord[t] := by
  unfold Lot.sta renL
  rw [List.getD_eq_getElem?_getD, List.getElem?_map, List.getElem?_eq_getElem ht]
  rfl
theorem ren_ok (o : l.Ok) (h : Ordr l.states.length ord) : (renL l ord).Ok where
  ne := by
    show 0 < (ord.map fun k => stR l ord k).length
    rw [List.length_map, ordr_len h]
    exact o.ne
  ways s hs := by
    obtain ⟨k, hk, rfl⟩ := List.mem_map.mp hs
    show ((l.sta k).ways.map _).length = _
    rw [List.length_map]
    exact o.ways _ (Lot.sta_mem ((ordr_in h).mp hk))
  there s hs n hn := by
    obtain ⟨k, hk, rfl⟩ := List.mem_map.mp hs
    obtain ⟨w, hw, e⟩ := List.mem_map.mp hn
    show n < (ord.map fun k => stR l ord k).length
    rw [List.length_map]
    cases w with
    | none => cases e
    | some m =>
      cases e
      exact List.idxOf_lt_length_iff.mpr ((ordr_in h).mpr (o.there _ (Lot.sta_mem ((ordr_in h).mp hk)) m hw))
  once := o.once
theorem ren_word (o : l.Ok) (h : Ordr l.states.length ord) (t : Cs) : l.word t = (renL l ord).word t := by
  refine word_like (fun a b => (a = none ∧ b = none) ∨ ∃ s t, a = some s ∧ b = some t ∧ ord[t]? = some s) (.inr ⟨0, 0, rfl, rfl, ?_⟩) (fun a b c r => ?_) (fun a b r => ?_) t
  · rw [← List.head?_eq_getElem?]
    exact h.2
  · rcases r with ⟨rfl, rfl⟩ | ⟨s, t, rfl, rfl, e⟩
    · exact .inl ⟨rfl, rfl⟩
    · obtain ⟨ht, e⟩ := List.getElem?_eq_some_iff.mp e
      have hs : s < l.states.length := (ordr_in h).mp (e ▸ List.getElem_mem ht)
      have st : (renL l ord).step (some t) c = (l.step (some s) c).map fun n => ord.idxOf n := by
        show (if c ∈ l.signs then ((renL l ord).sta t).ways.getD (l.signs.idxOf c) none else none) = (if c ∈ l.signs then (l.sta s).ways.getD (l.signs.idxOf c) none else none).map _
        rw [ren_sta t ht, e]
        by_cases hc : c ∈ l.signs
        · rw [if_pos hc, if_pos hc]
          show ((l.sta s).ways.map fun w : Option Nat => w.map fun n => ord.idxOf n).getD _ none = _
          exact getD_mapD (f := fun w : Option Nat => w.map fun n => ord.idxOf n) (d := none) rfl _ _
        · rw [if_neg hc, if_neg hc]
          rfl
      rw [st]
      cases q : l.step (some s) c with
      | none => exact .inl ⟨rfl, rfl⟩
      | some n =>
        have hn := (ordr_in h).mpr (Lot.step_lt o hs q)
        have hi := List.idxOf_lt_length_iff.mpr hn
        refine .inr ⟨n, _, rfl, rfl, ?_⟩
        rw [List.getElem?_eq_getElem hi, List.getElem_idxOf hi]
  · rcases r with ⟨rfl, rfl⟩ | ⟨s, t, rfl, rfl, e⟩
    · rfl
    · obtain ⟨ht, e⟩ := List.getElem?_eq_some_iff.mp e
      show (l.sta s).good = ((renL l ord).sta t).good
      rw [ren_sta t ht, e]
      rfl
theorem more_sta {s : Nat} (hs : s < l.states.length) : (moreL l).sta s = fullL l.states.length (l.sta s) := by
  unfold Lot.sta moreL
  rw [List.getD_eq_getElem?_getD, List.getElem?_append_left (by rw [List.length_map]; exact hs), List.getElem?_map, List.getD_eq_getElem?_getD, List.getElem?_eq_getElem hs]
  rfl
theorem more_end : (moreL l).sta l.states.length = ⟨List.replicate l.signs.length (some l.states.length), false⟩ := by
  unfold Lot.sta moreL
  rw [List.getD_eq_getElem?_getD, List.getElem?_append_right (by rw [List.length_map]; exact Nat.le_refl _), List.length_map, Nat.sub_self]
  rfl
theorem more_len : (moreL l).states.length = l.states.length + 1 := by
  show (l.states.map _ ++ [_]).length = _
  rw [List.length_append, List.length_map]
  rfl
theorem more_ok (o : l.Ok) : (moreL l).Ok where
  ne := by
    rw [more_len]
    exact Nat.succ_pos _
  ways s hs := by
    rcases List.mem_append.mp hs with hs | hs
    · obtain ⟨k, hk, rfl⟩ := List.mem_map.mp hs
      show (k.ways.map _).length = _
      rw [List.length_map]
      exact o.ways _ hk
    · rw [List.mem_singleton.mp hs]
      exact List.length_replicate
  there s hs n hn := by
    rw [more_len]
    rcases List.mem_append.mp hs with hs | hs
    · obtain ⟨k, hk, rfl⟩ := List.mem_map.mp hs
      obtain ⟨w, hw, e⟩ := List.mem_map.mp hn
      cases e
      cases w with
      | none => exact Nat.lt_succ_self _
      | some m => exact Nat.lt_succ_of_lt (o.there _ hk m hw)
    · rw [List.mem_singleton.mp hs] at hn
      have e := List.eq_of_mem_replicate hn
      cases e
      exact Nat.lt_succ_self _
  once := o.once
theorem more_step (o : l.Ok) {s c : Nat} (hs : s < l.states.length) (hc : c ∈ l.signs) : (moreL l).step (some s) c = some ((l.step (some s) c).getD l.states.length) := by
  have w := Lot.way_at o hs hc
  show (if c ∈ l.signs then ((moreL l).sta s).ways.getD (l.signs.idxOf c) none else none) = _
  rw [if_pos hc, more_sta hs]
  show ((l.sta s).ways.map fun w => some (w.getD l.states.length)).getD _ none = _
  rw [List.getD_eq_getElem?_getD, List.getElem?_map, w]
  rfl
theorem more_sink {c : Nat} (hc : c ∈ l.signs) : (moreL l).step (some l.states.length) c = some l.states.length := by
  show (if c ∈ l.signs then ((moreL l).sta l.states.length).ways.getD (l.signs.idxOf c) none else none) = _
  rw [if_pos hc, more_end]
  show (List.replicate l.signs.length (some l.states.length)).getD _ none = _
  rw [List.getD_eq_getElem?_getD, List.getElem?_replicate_of_lt (List.idxOf_lt_length_iff.mpr hc)]
  rfl
theorem no_step {k : Lot} {a : Option Nat} {c : Nat} (hc : c ∉ k.signs) : k.step a c = none := by
  cases a with
  | none => rfl
  | some s => exact if_neg hc
theorem more_word (o : l.Ok) (t : Cs) : l.word t = (moreL l).word t := by
  refine word_like (fun a b => (a = none ∧ (b = none ∨ b = some l.states.length)) ∨ ∃ s, s < l.states.length ∧ a = some s ∧ b = some s) (.inr ⟨0, o.ne, rfl, rfl⟩) (fun a b c r => ?_) (fun a b r => ?_) t
  · by_cases hc : c ∈ l.signs
    · rcases r with ⟨rfl, rfl | rfl⟩ | ⟨s, hs, rfl, rfl⟩
      · exact .inl ⟨rfl, .inl rfl⟩
      · rw [more_sink hc]
        exact .inl ⟨rfl, .inr rfl⟩
      · rw [more_step o hs hc]
        cases q : l.step (some s) c with
        | none => exact .inl ⟨rfl, .inr rfl⟩
        | some n => exact .inr ⟨n, Lot.step_lt o hs q, rfl, rfl⟩
    · rw [no_step hc, no_step (k := moreL l) hc]
      exact .inl ⟨rfl, .inl rfl⟩
  · rcases r with ⟨rfl, rfl | rfl⟩ | ⟨s, hs, rfl, rfl⟩
    · rfl
    · show false = ((moreL l).sta l.states.length).good
      rw [more_end]
    · show (l.sta s).good = ((moreL l).sta s).good
      rw [more_sta hs]
      rfl
theorem more_on (o : l.Ok) : ∀ (t : Cs) (s : Nat), (∀ c ∈ t, c ∈ l.signs) → s < l.states.length + 1 → ∃ n, n < l.states.length + 1 ∧ (moreL l).on (some s) t = some n
  | [], s, _, hs => ⟨s, hs, rfl⟩
  | c :: t, s, h, hs => by
    have hc := h c (List.mem_cons_self ..)
    have go : ∃ m, m < l.states.length + 1 ∧ (moreL l).step (some s) c = some m := by
      by_cases e : s = l.states.length
      · subst e
        exact ⟨_, hs, more_sink hc⟩
      · refine ⟨_, ?_, more_step o (by omega) hc⟩
        cases q : l.step (some s) c with
        | none => exact Nat.lt_succ_self _
        | some n => exact Nat.lt_succ_of_lt (Lot.step_lt o (by omega) q)
    obtain ⟨m, hm, e⟩ := go
    obtain ⟨n, hn, e2⟩ := more_on o t m (fun x hx => h x (List.mem_cons_of_mem _ hx)) hm
    exact ⟨n, hn, by
      show (moreL l).on ((moreL l).step (some s) c) t = _
      rw [e]
      exact e2⟩
theorem flip_sta {s : Nat} (hs : s < l.states.length) : (flipL l).sta s = ⟨(l.sta s).ways, !(l.sta s).good⟩ := by
  unfold Lot.sta flipL
  rw [List.getD_eq_getElem?_getD, List.getElem?_map, List.getD_eq_getElem?_getD, List.getElem?_eq_getElem hs]
  rfl
theorem flip_ways (s : Nat) : ((flipL l).sta s).ways = (l.sta s).ways := by
  by_cases hs : s < l.states.length
  · rw [flip_sta hs]
  · unfold Lot.sta flipL
    rw [List.getD_eq_getElem?_getD, List.getElem?_map, List.getD_eq_getElem?_getD, List.getElem?_eq_none (by omega)]
    rfl
theorem flip_step (a : Option Nat) (c : Nat) : (flipL l).step a c = l.step a c := by
  cases a with
  | none => rfl
  | some s =>
    show (if c ∈ l.signs then ((flipL l).sta s).ways.getD (l.signs.idxOf c) none else none) = _
    rw [flip_ways]
    rfl
theorem flip_on : ∀ (t : Cs) (a : Option Nat), (flipL l).on a t = l.on a t
  | [], _ => rfl
  | c :: t, a => by
    show (flipL l).on ((flipL l).step a c) t = l.on (l.step a c) t
    rw [flip_step, flip_on t]
theorem flip_ok (o : l.Ok) : (flipL l).Ok where
  ne := by
    show 0 < (l.states.map _).length
    rw [List.length_map]
    exact o.ne
  ways s hs := by
    obtain ⟨k, hk, rfl⟩ := List.mem_map.mp hs
    exact o.ways k hk
  there s hs n hn := by
    obtain ⟨k, hk, rfl⟩ := List.mem_map.mp hs
    show n < (l.states.map _).length
    rw [List.length_map]
    exact o.there k hk n hn
  once := o.once
/-- each text a word of just one of both -/
theorem turned_word (o : l.Ok) (t : Cs) (h : ∀ c ∈ t, c ∈ l.signs) : (flipL (moreL l)).word t = !l.word t := by
  obtain ⟨n, hn, e⟩ := more_on o t 0 h (Nat.succ_pos _)
  rw [more_word o t, word_fine, word_fine, flip_on, e]
  show ((flipL (moreL l)).sta n).good = !((moreL l).sta n).good
  rw [flip_sta (by rw [more_len]; exact hn)]
theorem texts_size (g : Cs) : ∀ n, (texts g n).length = g.length ^ n
  | 0 => rfl
  | n + 1 => by
    show (longer g (texts g n)).length = _
    unfold longer
    rw [List.length_flatMap, Nat.pow_succ, ← texts_size g n]
    generalize texts g n = L
    induction L with
    | nil => simp
    | cons t L ih => rw [List.map_cons, List.sum_cons, ih, List.length_map, List.length_cons, Nat.succ_mul, Nat.add_comm]
theorem turned_many (o : l.Ok) (n : Nat) : l.many n + (flipL (moreL l)).many n = (l.signs.length : Int) ^ n := by
  rw [many_both o (flip_ok (more_ok o)) rfl n fun t ht => turned_word o t ((texts_mem _ _ _).mp ht).2, texts_size, Int.natCast_pow]
end
end Fo

namespace Fo
open PySem PySem.Spec PyProof.Rows L2
/-! ### is a tuple of ints in a set of such? -/
section
variable {P : Program} {w : World} {A : Around} {E : Value → Shared → Prop} {s : Shared} {a : Addr} {L : List (Addr × List Int)} {es : Array (Int × Value)} {ep : Nat} {t : SetTable}
/-- the c-th step of a search -/
abbrev Pb (m : Nat) (h : Int) (c : Nat) : SetTable.Probe := nth m (runAt m (SetTable.bits h % (m + 1)) (SetTable.bits h)) c
theorem pb_clean (m : Nat) (h : Int) : ∀ c, (Pb m h c).dummy = none
  | 0 => rfl
  | c + 1 => by
    have z := pb_clean m h c
    unfold Pb at z ⊢
    rw [nth_succ]
    unfold adv
    split
    · exact z
    · exact z
theorem pb_on (m : Nat) (h : Int) (c q : Nat) : nth m (Pb m h c) q = Pb m h (c + q) := (nth_add m c _ q).symm
theorem hash_row (R : SetTR P w s.heap a L es ep t) {i : Nat} {p : Addr × List Int} (e : L[i]? = some p) : (es[i]?.map (·.1)).getD 0 = thash P w p.2 := by
  have z := R.entry e
  rw [z]
  rfl
theorem row_of (R : SetTR P w s.heap a L es ep t) {i j : Nat} (e : t.place.toList[i]? = some j) : ∃ p, L[i]? = some p ∧ p ∈ L := by
  obtain ⟨lt, _⟩ := List.getElem?_eq_some_iff.mp e
  have z := R.tab.sz
  rw [List.length_map] at z
  rw [Array.length_toList, z] at lt
  exact ⟨L[i], List.getElem?_eq_getElem lt, List.getElem_mem lt⟩
theorem same_row (R : SetTR P w s.heap a L es ep t) {i i' j : Nat} (e : t.place.toList[i]? = some j) (e' : t.place.toList[i']? = some j) : i = i' := by
  have z := (slot_live R.tab.ris e).symm.trans (slot_live R.tab.ris e')
  injection z
theorem look_from (R : SetTR P w s.heap a L es ep t) {x : Addr} {k : List Int} (hx : IsT P w s.heap k x) (hu : A.units < cLine) {K : Nat} (short : K < 10 * SetTable.turns t.mask)
    (free : way t.mask (thash P w k) K ∉ t.place.toList) (full : ∀ c, c < K → way t.mask (thash P w k) c ∈ t.place.toList) {Q : SetFound → Shared → Prop}
    (yes : k ∈ L.map (·.2) → ∀ i, Q (.there (some i)) s) (no : k ∉ L.map (·.2) → ∀ j, Q (.free j false) s) (fuel : Nat) :
    ∀ (c : Nat) (st : Option SetTable.Probe), st.getD (t.probeStart (thash P w k)) = Pb t.mask (thash P w k) c → c ≤ K → K < c + fuel →
      (∀ (d i : Nat) (p : Addr × List Int), d < c → t.place.toList[i]? = some (way t.mask (thash P w k) d) → L[i]? = some p → p.2 ≠ k) → wpAny (model P w) A (setSearchFrom a (.ref x) (thash P w k) false fuel st) Q E s := by
  generalize eH : thash P w k = h at *
  induction fuel with
  | zero => exact fun c st _ h1 h2 => absurd h2 (by omega)
  | succ fuel ih =>
    intro c st est cK cf passed
    obtain ⟨ob, at_, _, data⟩ := R.ob
    rw [setSearchFrom_succ]
    refine wpAny_bind (wpAny_setState_of at_ data R.fits ?_)
    dsimp only
    rw [if_neg R.gw]
    have J : ∀ q, (nth t.mask (Pb t.mask h c) q).j = way t.mask h (c + q) := fun q => congrArg SetTable.Probe.j (pb_on t.mask h c q)
    have told := go_spec t R.tab.ris R.tab.dm (fun i => (es[i]?.map (·.1)).getD 0) h (10 * SetTable.turns t.mask) (K - c) (Pb t.mask h c) (pb_clean ..) (Nat.lt_of_le_of_lt (Nat.sub_le ..) short)
      (fun q hq => (J q).symm ▸ full _ (Nat.add_lt_of_lt_sub' hq)) (by rw [J, Nat.add_sub_cancel' cK]; exact free)
    have pr : t.probe (fun i => (es[i]?.map (·.1)).getD 0) h (st.getD (t.probeStart h)) = SetTable.probe.go t (fun i => (es[i]?.map (·.1)).getD 0) h (10 * SetTable.turns t.mask) (Pb t.mask h c) := by
      rw [est]
      rfl
    rw [pr]
    rcases told with ⟨q, i, qK, place_i, hash_i, none_before, go_is⟩ | ⟨none_at_all, go_is⟩
    · rw [go_is]
      dsimp only
      rw [J] at place_i
      obtain ⟨p, row, pL⟩ := row_of R place_i
      have pT := R.tup p pL
      have main : wpAny (model P w) A (searchRest a (.ref x) h false fuel es t (nth t.mask (Pb t.mask h c) q).j i (nth t.mask (Pb t.mask h c) (q + 1))) Q E s := by
        have live : t.slot (nth t.mask (Pb t.mask h c) q).j = .live i := by
          rw [J]
          exact slot_live R.tab.ris place_i
        unfold searchRest
        rw [R.entry row]
        dsimp only
        refine wpAny_bind (wpAny_holding (wpAny_eqBool_tuple hu pT hx (wpAny_bind (wpAny_setState_of at_ data R.fits ?_))))
        dsimp only
        rw [if_neg (show ¬ (false && decide (p.2 = k)) = true from fun z => nomatch z)]
        rw [sameMem]
        dsimp only
        rw [if_pos rfl, live]
        dsimp only
        rw [R.entry row]
        dsimp only
        refine wpAny_bind (wpAny_isSame_ref_self (wpAny_bind (wpAny_pure ?_)))
        rw [if_pos rfl]
        dsimp only
        by_cases eq : p.2 = k
        · rw [if_pos (decide_eq_true eq)]
          exact wpAny_pure (yes (List.mem_map.mpr ⟨p, pL, eq⟩) i)
        · rw [if_neg (fun z => eq (of_decide_eq_true z))]
          refine ih (c + (q + 1)) _ (pb_on t.mask h c (q + 1)) (by omega) (by omega) fun d i' p' dl pl rl => ?_
          by_cases d1 : d < c
          · exact passed d i' p' d1 pl rl
          · by_cases d2 : d = c + q
            · subst d2
              cases same_row R place_i pl
              rw [row] at rl
              cases rl
              exact eq
            · intro e
              refine none_before (d - c) i' (by omega) (by rw [J, show c + (d - c) = d by omega]; exact pl) ?_
              rw [hash_row R rl, e]
              exact eH
      by_cases led : t.led = true
      · rw [if_neg (by rw [led]; decide)]
        exact main
      · rw [if_pos (by rw [Bool.not_eq_true] at led; rw [led]; rfl)]
        refine wpAny_bind (seen_tup hx (fun y hy => ?_) ?_)
        · obtain ⟨e, me, rfl⟩ := List.mem_map.mp hy
          have me : e ∈ es.toList := Array.mem_toList_iff.mpr (Array.mem_filter.mp (Array.mem_toList_iff.mp me)).1
          rw [R.rows] at me
          obtain ⟨r, mr, rfl⟩ := List.mem_map.mp me
          exact ⟨r.2, r.1, rfl, R.tup r mr⟩
        · rw [if_neg (fun z => nomatch z)]
          exact main
    · rw [go_is]
      dsimp only
      refine wpAny_pure (no (fun m => ?_) _)
      obtain ⟨p, pL, ek⟩ := List.mem_map.mp m
      obtain ⟨i, il, ei⟩ := List.getElem_of_mem pL
      have row : L[i]? = some p := by rw [List.getElem?_eq_getElem il, ei]
      have hi : (L.map fun p => thash P w p.2)[i]? = some h := by
        rw [List.getElem?_map, row, ← eH, ← ek]
        rfl
      have lt : i < t.place.toList.length := by
        have z := R.tab.sz
        rw [List.length_map] at z
        rw [Array.length_toList, z]
        exact il
      obtain ⟨d, dK, ed⟩ := R.tab.before free hi (List.getElem?_eq_getElem lt)
      have pl : t.place.toList[i]? = some (way t.mask h d) := by rw [List.getElem?_eq_getElem lt, ed]
      by_cases d1 : d < c
      · exact passed d i p d1 pl row ek
      · refine none_at_all (d - c) i (by omega) (by rw [J, show c + (d - c) = d by omega]; exact pl) ?_
        rw [hash_row R row, ek]
        exact eH
end
end Fo

namespace Fo
open PySem PySem.Spec PyProof.Rows L2
/-! ### a set of tuples of ints: set(), add, in -/
section
variable {P : Program} {w : World} {A : Around} {E : Value → Shared → Prop} {s : Shared} {a : Addr} {L : List (Addr × List Int)} {es : Array (Int × Value)} {ep : Nat} {t : SetTable}
theorem look_at (R : SetTR P w s.heap a L es ep t) {x : Addr} {k : List Int} (hx : IsT P w s.heap k x) (hu : A.units < cLine) {Q : Option Nat → Shared → Prop}
    (yes : k ∈ L.map (·.2) → ∀ i, Q (some i) s) (no : k ∉ L.map (·.2) → Q none s) : wpAny (model P w) A (setFind a (.ref x) (thash P w k)) Q E s := by
  obtain ⟨ob, at_, _, data⟩ := R.ob
  have room := R.room
  obtain ⟨K, short, free, full⟩ := R.tab.first (by rw [List.length_map]; omega) (thash P w k)
  have turns : SetTable.turns t.mask ≤ 142 := by
    unfold SetTable.turns
    rcases R.tab.mok with e | e | e <;> omega
  unfold setFind
  rw [show (100000 : Nat) = 99999 + 1 from rfl]
  unfold setFindIn
  refine wpAny_bind (wpAny_setState_of at_ data R.fits ?_)
  dsimp only
  rw [if_neg (show ¬ byScan (.ref x) es = true from fun z => by unfold byScan at z; simp [Value.scannable] at z)]
  unfold setSearch
  refine wpAny_bind (look_from R hx hu short free full (fun m i => wpAny_pure (yes m i)) (fun m j => wpAny_pure (no m)) 100000 0 none rfl (Nat.zero_le _) (by omega) fun d _ _ z => absurd z (Nat.not_lt_zero d))
theorem in_set (R : SetTR P w s.heap a L es ep t) {x : Addr} {k : List Int} (hx : IsT P w s.heap k x) (hu : A.units + 8 < cLine) {Q : Value → Shared → Prop} (q : ∀ tk, Q (.bool (decide (k ∈ L.map (·.2)))) { s with toks := tk }) :
    wpAny (model P w) A (compareOp .In (.ref x) (.ref a)) Q E s := by
  have ty : s.TypeIs (.ref a) "set" := by
    obtain ⟨ob, at_, ex, _⟩ := R.ob
    exact ⟨ob, at_, ex.1⟩
  show wpAny _ _ (contains (.ref a) (.ref x) >>= fun b => pure (.bool b)) Q E s
  refine wpAny_bind ?_
  unfold contains
  refine wpAny_holding (wpAny_bind (wpAny_specialOf ty F.slot_set_contains.lookup ?_))
  show wpAny _ _ (ite ((some (Value.builtin "set.__contains__") == some Value.none) = true) _ _) _ E s
  rw [if_neg (fun z => by rw [beq_builtin_none] at z; cases z)]
  refine wpAny_bind (wpAny_callSpecialUnlessNone?_slot (name := Str.ofString "__contains__") ty F.slot_set_contains (wpAny_call_entry F.slot_set_contains ty entry_set_contains ?_ (F.args_set_contains_2 _ _)))
  have told : ∀ E' : Value → Shared → Prop, wpAny (model P w) A.in1 (setContains a (.ref x)) (fun b s' => b = decide (k ∈ L.map (·.2)) ∧ ∃ tk, s' = { s with toks := tk }) E' s := by
    intro E'
    unfold setContains
    refine wpAny_holding (wpAny_bind (wpAny_pyHash_tuple (knd := intKind P w) (by show A.units + 1 < cLine; omega) hx ?_))
    refine wpAny_bind (look_at (s := { s with toks := s.toks + (k.length + 1) }) ⟨R.ob, R.rows, R.tab, R.nd, R.tup, R.plain, R.led, R.room, R.few⟩ hx (by show A.units + 1 < cLine; omega) (fun m i => ?_) fun m => ?_)
    · exact wpAny_pure ⟨(decide_eq_true m).symm, _, rfl⟩
    · exact wpAny_pure ⟨(decide_eq_false m).symm, _, rfl⟩
  unfold Builtin.«frozenset.__contains__» Builtin.Frozenset.oneOther Builtin.Frozenset.addrOf Builtin.Frozenset.withSetAsKey
  simp only [bind_assoc, List.isEmpty_nil]
  iterate 2 (refine wpAny_bind (wpAny_pure ?_); try dsimp only)
  refine wpAny_bind (wpAny_tryCatch (wpAny_mono (told _) (fun b s' z => ?_) fun _ _ z => z))
  obtain ⟨rfl, tk, rfl⟩ := z
  show wpAny _ _ (ret (Value.bool _)) _ _ _
  exact wpAny_pure ⟨_, rfl, wpAny_truthy_bool (wpAny_pure (q tk))⟩
end
section
variable {X : Cx}
/-- the tuples of ints that a set holds stand in the heap -/
abbrev Laid2 (H : Hp) (L : List (Addr × List Int)) : Prop := ∀ p ∈ L, H p.1 = some (.tup (p.2.map V.int))
/-- (i, j) in s -/
def rInT (P : Program) (w : World) : V → V → Hp → VK → Prop := fun x y H Q => ∃ (t a : Addr) (k : List Int) (L : List (Addr × List Int)), x = .ref t ∧ y = .ref a ∧ H a = some (SetTO P w a L) ∧ H t = some (.tup (k.map V.int)) ∧ Laid2 H L ∧ Q (.bl (decide (k ∈ L.map (·.2)))) H
theorem op_inT (hu : X.A.units + 64 < cLine) : OpR X (compareOp .In) (rInT X.prog X.w) := by
  rintro pins s σ H x y v u Q I rx ry ⟨t, a, k, L, rfl, rfl, ha, ht, hL, q⟩
  cases rx
  cases ry
  obtain ⟨es, ep, tb, R⟩ := SetT0.full (I.hok a _ ha).1 fun p m => I.isT (SqT.of (hL p m))
  exact in_set R (I.isT (SqT.of ht)) (by omega) fun tk => ⟨.bl (decide (k ∈ L.map fun p : Addr × List Int => p.2)), H, I.tok tk, rfl, q⟩
/-- s.add((i, j)) -/
def rPutT (P : Program) (w : World) : V → List V → Hp → VK → Prop := fun x xs H Q => ∃ (t a : Addr) (k : List Int) (L : List (Addr × List Int)), x = .ref a ∧ xs = [.ref t] ∧ H a = some (SetTO P w a L) ∧ H t = some (.tup (k.map V.int)) ∧ Laid2 H L ∧ L.length + 1 < 64 ∧
  ∀ L', (k ∈ L.map (·.2) → L' = L) → (k ∉ L.map (·.2) → L'.Perm ((t, k) :: L)) → Q .non (upd H a (SetTO P w a L'))
theorem mt_addT (hu : X.A.units + 64 < cLine) : MtR X "set.add" (rPutT X.prog X.w) := by
  rintro pins s σ H x xs v us Q I rx rxs ⟨t, a, k, L, rfl, rfl, ha, ht, hL, few, q⟩
  cases rx
  rw [Vals.ref1 rxs]
  obtain ⟨es, ep, tb, R⟩ := SetT0.full (I.hok a _ ha).1 fun p m => I.isT (SqT.of (hL p m))
  have ty : s.TypeIs (.ref a) "set" := by
    obtain ⟨ob, at_, ex, _⟩ := R.ob
    exact ⟨ob, at_, ex.1⟩
  refine wpAny_call_entry F.slot_set_add ty F.entry_set_add ?_ (F.args_set_add_2 _ _)
  unfold Builtin.«set.add» Builtin.Frozenset.oneOther Builtin.Frozenset.addrOf setAdd
  simp only [bind_assoc, List.isEmpty_nil]
  iterate 2 (refine wpAny_bind (wpAny_pure ?_); try dsimp only)
  have tT := I.isT (SqT.of ht)
  refine wpAny_bind (wpAny_holding (wpAny_bind (wpAny_pyHash_tuple (knd := intKind X.prog X.w) (by show X.A.units + 1 < cLine; omega) tT ?_)))
  refine add_at (s := { s with toks := s.toks + (k.length + 1) }) ⟨R.ob, R.rows, R.tab, R.nd, R.tup, R.plain, R.led, R.room, R.few⟩ tT (by show X.A.units + 1 < cLine; omega) few fun b h' L' es' ep' t' sb R' same more => ?_
  show wpAny _ _ (ret Value.none) _ _ _
  have there : ∃ u, h'.get? a = some u := by
    obtain ⟨ob, at_, _⟩ := R'.ob
    exact ⟨ob, at_⟩
  exact wpAny_pure ⟨_, rfl, .non, upd H a (SetTO X.prog X.w a L'), I.write (e := a) (t' := s.toks + (k.length + 1)) (by rw [ha]; trivial) (.inl rfl) (fun b u hb hu => (sb.2 b hb).trans hu) there (setTO_new R'.t0), rfl, q L' same more⟩
/-- set() -/
def rNewT (P : Program) (w : World) : List V → Hp → VK → Prop := fun xs H Q => xs = [] ∧ ∀ a, H a = none → Q (.ref a) (upd H a (SetTO P w a []))
theorem cr_newT : CallR X (.type "set") (rNewT X.prog X.w) := by
  rintro pins s σ H xs us Q I r ⟨rfl, q⟩
  cases r
  refine setR_new fun _ => ?_
  have R : SetTR X.prog X.w (s.heap.push { cls := .type "set", dict := none, data := .set #[] 0 (.fresh 0 0 (!X.w.params.followText "set-order")) }) s.heap.objs.size [] #[] 0 (.fresh 0 0 (!X.w.params.followText "set-order")) := setTR_fresh (Heap.get?_push_size _ rfl)
  exact ⟨.ref s.heap.objs.size, _, I.laid (t' := s.toks) (fun _ _ e => Heap.get?_push_of_some _ e) (Nat.le_refl _) (setTO_new R.t0), rfl, q _ (I.hok.fresh (Nat.le_refl _))⟩
theorem setT_is {P : Program} {w : World} {h : Heap} {a : Addr} {L : List (Addr × List Int)} (R : SetT0 P w h a L) : ∃ ob, h.get? a = some ob ∧ ob.cls = .type "set" ∧ ob.dict = none := by
  obtain ⟨_, _, _, ⟨ob, at_, ex, _⟩, _⟩ := R.ex
  exact ⟨ob, at_, ex.1, ex.2.1⟩
/-- o.add(e), o a set of tuples of ints -/
def tPut (P : Program) (w : World) (to : TE) (t : TA) : TE := fun σ H Q => to σ H fun x H1 => (∃ a L, x = V.ref a ∧ H1 a = some (SetTO P w a L)) ∧ t σ H1 fun xs H2 => rPutT P w x xs H2 Q
variable {o e : Expr} {es : List Expr} {to : TE} {t : TA} {apos cpos : Pos}
theorem pe_put (hu : X.A.units + 64 < cLine) (ho : PE X o to) (ha : PA X (e :: es) t) (b1 : attributeBase o "add" X.env (eval o X.env) = eval o X.env := by rfl)
    (b2 : ((backTo cpos (starEach (e :: es) X.env)).all (fun x => !x.1) && (backToKw cpos (keywordEach [] X.env)).all (fun x => x.1.isSome) && decide ((e :: es).length + ([] : List Keyword).length + (if ([] : List Keyword).isEmpty then 0 else 1) < 30)) = true := by rfl)
    (b3 : (apos.endLine == cpos.line) = true := by rfl) (b4 : starEach (e :: es) X.env = (false, eval e X.env) :: starEach es X.env := by rfl) (b5 : (backTo cpos (starEach es X.env)).any (·.1) = false := by rfl) :
    PE X (.Call (.Attribute o "add" apos) (e :: es) [] cpos) (tPut X.prog X.w to t) := ⟨fun pins s σ H Q I h => by
  refine wpAny_Call_method_late b1 b2 b3 rfl (thn (ho.run pins s σ H _ I h) fun v s1 z => ?_)
  obtain ⟨x, H1, I1, rx, ⟨a, L, rfl, there⟩, z⟩ := z
  obtain ⟨ob, at_, c1, c2⟩ := setT_is (I1.hok a _ there).1
  cases rx
  refine ⟨"set", "set.add", F.plainAttrs_set, F.slot_set_add, F.type_set_add, ⟨ob, at_, c1⟩, fun b eb => by cases eb; exact ⟨ob, at_, c2⟩, ?_⟩
  have args := ha.run cpos pins s1 σ H1 _ I1 z
  rw [b4] at args ⊢
  refine Calls.callWith_builtin (show (false || (backTo cpos (starEach es X.env)).any (·.1)) = false from b5) (Calls.evalArgs_plain (thn args fun us s2 y => ?_))
  obtain ⟨vs, H2, I2, r2, q2⟩ := y
  exact mt_addT hu pins s2 σ H2 (.ref a) vs (.ref a) us Q I2 rfl r2 q2⟩
end
end Fo

namespace Px
open PySem PySem.Spec PyProof.Rows L2 Fo TL
section
variable {F F' F0 G G' H H' : Hp} {σ σ' : L2.St} {S : List PV} {v u : V} {vs us : List V} {xs ys : List PV} {x y : PV}
/-- an own set of tuples of ints -/
def ASet (P : Program) (w : World) (ks : List (List Int)) : Asr where
  R := fun F H v fs => ∃ a L, v = .ref a ∧ fs = [a] ∧ H a = some (SetTO P w a L) ∧ (∀ p ∈ L, F p.1 = some (.tup (p.2.map V.int))) ∧ (L.map fun p => p.2).Perm ks
  stay := fun {F F' H H' v fs} h s k => by
    obtain ⟨a, L, rfl, rfl, h1, h2, h3⟩ := h
    exact ⟨a, L, rfl, rfl, by rw [k a (List.mem_singleton_self _)]; exact h1, fun p m => s _ _ (h2 p m), h3⟩
  has := fun {F H v fs} h b m => by
    obtain ⟨a, L, rfl, rfl, h1, _⟩ := h
    rw [List.mem_singleton.mp m]
    exact ⟨_, h1, fun _ z => nomatch z⟩
/-- set() -/
def pNewS (P : Program) (w : World) : PC' := fun S xs Q => xs = [] ∧ Q (.o (ASet P w [])) S
theorem sim_newS {P : Program} {w : World} : SimC (rNewT P w) (pNewS P w) := by
  intro F G H σ S vs xs Qp Q r hp k
  obtain ⟨rfl, hp⟩ := hp
  have hl : vs.length = 0 := by obtain ⟨_, _, r⟩ := r; exact r.vl.len
  have ev : vs = [] := List.eq_nil_of_length_eq_zero hl
  subst ev
  refine ⟨rfl, fun a na => ?_⟩
  exact k _ _ _ _ _ (RepA.new (f := [a]) r (same_new na) (fun b m => by rw [List.mem_singleton.mp m]; exact na) (List.nodup_cons.mpr ⟨fun m => (nomatch m), .nil⟩) (.o (A := ASet P w []) ⟨a, [], rfl, rfl, upd_same, (fun _ m => nomatch m), .refl _⟩)) (Same.refl _) hp
def intsP (k : List Int) : PyData := .tuple (k.map .int)
theorem ints_v : ∀ {k : List Int} {us : List V}, LvA F us (k.map .int) → us = k.map V.int
  | [], us, h => by
    cases h
    rfl
  | i :: k, us, h => by
    cases h with
    | cons h1 h2 =>
      cases h1
      rw [ints_v h2]
      rfl
/-- k in s -/
def pInS (P : Program) (w : World) : P2 := fun S x y Q => ∃ k ks, look S x = .d (intsP k) ∧ look S y = .o (ASet P w ks) ∧ Q (.d (.bool (decide (k ∈ ks)))) S
theorem sim_inS {P : Program} {w : World} : Sim2 (rInT P w) (pInS P w) := by
  intro F G H σ S v u x y Qp Q r hp k0
  obtain ⟨k, ks, e1, e2, hp⟩ := hp
  obtain ⟨f1, r1⟩ := r.look0
  obtain ⟨f2, r2⟩ := r.look1
  rw [e1] at r1
  rw [e2] at r2
  cases r2 with
  | o h =>
    obtain ⟨a, L, rfl, rfl, h1, h2, h3⟩ := h
    have l := r1.dat
    cases l with
    | tup z1 z2 =>
      have e := ints_v z2
      subst e
      refine ⟨_, a, k, L, rfl, rfl, h1, r.lf _ _ z1, fun p m => r.lf _ _ (h2 p m), ?_⟩
      have ed : decide (k ∈ L.map (·.2)) = decide (k ∈ ks) := by
        rw [decide_eq_decide]
        exact h3.mem_iff
      rw [ed]
      exact k0.dat r (.bl _) hp
/-- s.add(k) -/
def addX (P : Program) (w : World) (to : TX) (t : TXA) : TX := fun S Q => to S fun x S1 => (∃ ks, look S1 x = .o (ASet P w ks)) ∧ t S1 fun xs S2 => ∃ i ks k, x = .al i ∧ (frzA S2 xs).1 = [.d (intsP k)] ∧ (frzA S2 xs).2.getD i .un = .o (ASet P w ks) ∧ ks.length < 63 ∧
  force ((frzA S2 xs).2.set i (.o (ASet P w (if k ∈ ks then ks else ks ++ [k])))) (Q (.d .none))
theorem x_put {X : Cx} {e : Expr} {P : Program} {w : World} {to : TX} {tr : TXA} (h : PE X e (tPut P w (rw to) (rwA tr))) : PE X e (rw (addX P w to tr)) := PE_imp h fun σ H Q q => by
  obtain ⟨F, G, S, Qp, hr, ht, k0⟩ := q
  refine ⟨F, G, S, _, hr, ht, fun v x S1 F1 H1 r1 s1 h1 => ?_⟩
  obtain ⟨⟨ks0, e0⟩, h1⟩ := h1
  obtain ⟨f, rv⟩ := r1.look0
  rw [e0] at rv
  obtain ⟨G1, sg, r2, more⟩ := r1.aside
  cases rv with
  | o rv =>
    obtain ⟨a0, L0, rfl, rfl, at0, _⟩ := rv
    refine ⟨⟨a0, L0, rfl, at0⟩, F1, G1, S1, _, r2, h1, fun us ys S2 F2 H2 r3 s2 h2 => ?_⟩
    obtain ⟨F3, s3, r4⟩ := (more _ _ _ _ _ r3 s2).frzTl
    obtain ⟨i, ks, k, rfl, e1, e2, few, h2⟩ := h2
    have r4 : RepA F3 G H2 σ (frzA S2 ys).2 (V.ref a0 :: us) (.al i :: (frzA S2 ys).1) := r4
    rw [e1] at r4
    have kk := k0.up ((s1.trans s2).trans s3)
    generalize (frzA S2 ys).2 = S3 at r4 e2 h2
    have e3 : S3[i]? = some (.o (ASet P w ks)) := by
      rw [List.getD_eq_getElem?_getD] at e2
      cases z : S3[i]? with
      | none => rw [z] at e2; cases e2
      | some y => rw [z] at e2; exact congrArg some e2
    have hl : us.length = 1 := by
      obtain ⟨_, _, r⟩ := r4
      have := r.vl.len
      simpa using this
    match us, hl with
    | [u], _ =>
      obtain ⟨w1, f1, ew, rw1, off, chg⟩ := r4.chg e3 (fun z => nomatch z)
      have ev : σ[i]? = some (some (V.ref a0)) := by
        obtain ⟨_, ra⟩ := r4.hd
        cases ra with
        | al e => exact e
      rw [ev] at ew
      cases ew
      have du := r4.tl.dat
      cases rw1 with
      | o rw1 =>
        obtain ⟨a, L, ea, rfl, at1, laid, pm⟩ := rw1
        cases ea
        cases du with
        | tup z1 z2 =>
          have e := ints_v z2
          subst e
          refine ⟨_, a0, k, L, rfl, rfl, at1, r4.lf _ _ z1, fun p m => r4.lf _ _ (laid p m), by have := pm.length_eq; rw [List.length_map] at this; omega, fun L' same more' => ?_⟩
          refine kk.dat (chg (upd H2 a0 (SetTO P w a0 L')) (.o (ASet P w (if k ∈ ks then ks else ks ++ [k]))) [a0] (fun b o n z => by rw [upd_ne (fun z => n (by rw [z]; exact List.mem_singleton_self _))]; exact z)
            (.o (A := ASet P w _) ⟨a0, L', rfl, rfl, upd_same, ?_, ?_⟩) (List.nodup_cons.mpr ⟨fun m => (nomatch m), .nil⟩) fun b m => .inl m) .non (unforce h2)
          · by_cases c : k ∈ L.map (·.2)
            · rw [same c]
              exact laid
            · intro p m
              rcases List.mem_cons.mp ((more' c).mem_iff.mp m) with e | m
              · rw [e]
                exact z1
              · exact laid p m
          · by_cases c : k ∈ L.map (·.2)
            · rw [same c, if_pos (pm.mem_iff.mp c)]
              exact pm
            · rw [if_neg (fun z => c (pm.mem_iff.mpr z))]
              refine ((more' c).map fun p => p.2).trans ?_
              rw [List.map_cons]
              exact (List.perm_append_singleton k _).symm.trans (pm.append_right [k])
theorem x_cb0 {X : Cx} {e : Expr} {r : List V → Hp → VK → Prop} {p : PC'} (sim : SimC r p) (h : PE X e (fun _ H Q => r [] H Q)) : PE X e (rw (callX p nilA)) := PE_imp h fun σ H Q q => by
  obtain ⟨F, G, S, Qp, hr, ht, k⟩ := q
  exact sim _ _ _ _ _ [] [] _ _ hr ht k
/-- what Python takes for true -/
def trP (S : List PV) (x : PV) : Option Bool := match look S x with
  | .d (.bool b) => some b
  | .d .none => some false
  | .d (.list ds) => some (!ds.isEmpty)
  | .d (.tuple ds) => some (!ds.isEmpty)
  | .l ds => some (!ds.isEmpty)
  | _ => none
def truX (t : TX) : TXT := fun S Q => t S fun x S1 => ∃ b, trP S1 x = some b ∧ Q b S1
theorem empty_lv {ds : List PyData} {ws : List V} (l : LvA F ws ds) : (!ds.isEmpty) = !ws.isEmpty := by cases l <;> rfl
theorem trp_v {K : PySem.W.Frag} {f : List Addr} {b : Bool} (r : RV [] F H v (look S x) f) (s : Same F H) (e : trP S x = some b) : TruV K v H b := by
  unfold trP at e
  split at e
  · rename_i h
    rw [h] at r
    cases r.dat
    cases e
    exact rfl
  · rename_i h
    rw [h] at r
    cases r.dat
    cases e
    exact rfl
  · rename_i h
    rw [h] at r
    cases e
    cases r.dat with
    | lst z1 z2 => exact .inl ⟨_, SqL.of (s _ _ z1), empty_lv z2⟩
  · rename_i h
    rw [h] at r
    cases e
    cases r.dat with
    | tup z1 z2 => exact .inr (.inl ⟨_, SqT.of (s _ _ z1), empty_lv z2⟩)
  · rename_i h
    rw [h] at r
    cases e
    cases r with
    | l z1 z2 => exact .inl ⟨_, SqL.of z1, empty_lv z2⟩
  · cases e
theorem xt_tru {X : Cx} {K : PySem.W.Frag} {e : Expr} {t : TX} (eK : X.K = K) (h : PE X e (rw t)) (he : ∀ whole, isTrue e X.env whole = (do let v ← whole; standAt e.pos; holding [v] (truthy v)) := by intro _; rfl) : PT X e (rwT (truX t)) := by
  subst eK
  refine PT_imp (pt_truth h he) fun σ H Q q => ?_
  obtain ⟨F, G, S, Qp, hr, ht, k⟩ := q
  refine ⟨F, G, S, _, hr, ht, fun v x S1 F1 H1 r1 s1 h1 => ?_⟩
  obtain ⟨b, eb, h1⟩ := h1
  obtain ⟨f, rv⟩ := r1.look0
  exact ⟨b, trp_v rv r1.lf eb, k _ _ _ _ r1.rep s1 h1⟩
/-- a datum in a list of data -/
def pInD (neg : Bool) : P2 := fun S x y Q => ∃ d ds, look S x = .d d ∧ asList (look S y) = some ds ∧ SeqAt.shaped d = true ∧ SeqAt.shaped (.list ds) = true ∧ Q (.d (.bool (neg ^^ inD d ds))) S
theorem sim_inD2 {K : PySem.W.Frag} (neg : Bool) {Qp : KP} {Q : VK} (r : RepA F G H σ S [v, u] [x, y]) (hp : pInD neg S x y Qp) (k : Fin F G σ Qp Q) : ∃ d ds, Dp K H v d ∧ Dp K H u (.list ds) ∧ SeqAt.shaped d = true ∧ SeqAt.shaped (.list ds) = true ∧ Q (.bl (neg ^^ inD d ds)) H := by
  obtain ⟨d, ds, e1, e2, s1, s2, hp⟩ := hp
  obtain ⟨f1, r1⟩ := r.look0
  obtain ⟨f2, r2⟩ := r.look1
  rw [e1] at r1
  obtain ⟨p, ws, rfl, z1, l1⟩ := r2.lst r.lf e2
  refine ⟨d, ds, lv_dp d v (no_dict s1) (Lv.sm r.lf _ _ r1.dat), lv_dp (.list ds) (.ref p) (no_dict s2) (.lst z1 (LvA.sm r.lf _ _ l1)), s1, s2, ?_⟩
  exact k.dat r (.bl _) hp
theorem sim_inD {K : PySem.W.Frag} : Sim2 (rInD K) (pInD false) := by
  intro F G H σ S v u x y Qp Q r hp k
  obtain ⟨d, ds, a, b, c, e, q⟩ := sim_inD2 (K := K) false r hp k
  rw [Bool.false_xor] at q
  exact ⟨d, ds, a, b, c, e, q⟩
theorem sim_ninD {K : PySem.W.Frag} : Sim2 (rNotInD K) (pInD true) := by
  intro F G H σ S v u x y Qp Q r hp k
  obtain ⟨d, ds, a, b, c, e, q⟩ := sim_inD2 (K := K) true r hp k
  rw [Bool.true_xor] at q
  exact ⟨d, ds, a, b, c, e, q⟩
theorem un65 {k : Nat} {A : Around} (r : Room k A) : A.units + 65 < cLine := by have := r.un; omega
theorem kInD {X : Cx} {K : PySem.W.Frag} (e : X.K = K) (hu : X.A.units + 65 < cLine) : OpR X (compareOp .In) (rInD K) := e ▸ op_inD hu
theorem kNinD {X : Cx} {K : PySem.W.Frag} (e : X.K = K) (hu : X.A.units + 65 < cLine) : OpR X (compareOp .NotIn) (rNotInD K) := e ▸ op_notInD hu
/-! three names at once -/
def parS3 (i j l : Nat) (ta : TXA) : TXS := fun D S => ta S fun xs S1 => match (takeX S1 xs).1 with
  | [x, y, z] => force ((((takeX S1 xs).2.set i x).set j y).set l z) D.nx
  | _ => False
theorem xs_par3 {X : Cx} {kp : Nat → Bool} {i j l : Nat} {ta : TXA} {st : Stmt} (hi : kp i = false) (hj : kp j = false) (hk : kp l = false) (h : PS X st (tPar3 i j l (rwA ta))) : PS X st (rwS kp (parS3 i j l ta)) := PS_imp h fun D σ H q => by
  obtain ⟨F, G, S, Dp, hr, ht, k⟩ := q
  refine ⟨F, G, S, _, hr, ht, fun vs xs S1 F1 H1 r1 s1 h1 => ?_⟩
  have hl : vs.length = xs.length := by obtain ⟨_, _, r⟩ := r1; exact r.vl.len
  have hm := RepA.takeAll (dv := []) (done := []) hl (by rw [List.append_nil, List.append_nil]; exact r1) (fun _ m => nomatch m)
  rw [List.nil_append, List.nil_append] at hm
  generalize (takeX S1 xs).1 = as at hm h1
  generalize (takeX S1 xs).2 = S2 at hm h1
  obtain ⟨r2, na⟩ := hm
  have hl2 : vs.length = as.length := by obtain ⟨_, _, r⟩ := r2; exact r.vl.len
  split at h1
  · rename_i x y z
    match vs, hl2 with
    | [u, v, w], _ =>
      obtain ⟨G1, sg, r3, more⟩ := RepA.aside2 (vs := [u]) (xs := [x]) r2 rfl
      have r4 := r3.setv (fun m e => na x (List.mem_cons_self ..) m e) i
      have r5 := more _ _ _ _ [] [] r4 (Same.refl _) (.inr fun e m => na e (List.mem_cons_of_mem _ m))
      rw [List.append_nil, List.append_nil] at r5
      obtain ⟨G2, sg2, r6, more2⟩ := RepA.aside2 (vs := [v]) (xs := [y]) r5 rfl
      have r7 := r6.setv (fun m e => na y (List.mem_cons_of_mem _ (List.mem_cons_self ..)) m e) j
      have r8 := more2 _ _ _ _ [] [] r7 (Same.refl _) (.inr fun e m => na e (List.mem_cons_of_mem _ (List.mem_cons_of_mem _ m)))
      rw [List.append_nil, List.append_nil] at r8
      have r9 := r8.setv (fun m e => na z (List.mem_cons_of_mem _ (List.mem_cons_of_mem _ (List.mem_cons_self ..))) m e) l
      exact ⟨u, v, w, rfl, k.nx _ _ _ _ r9 s1 (((Kp.set hi).trans (Kp.set hj)).trans (Kp.set hk)) (unforce h1)⟩
  · exact h1.elim
/-! a call by keywords, with the numbers of its values -/
def callN (n m : Nat) (c : Ct) (t tk : TXA) : TX := fun S Q => t S fun xs S1 => tk S1 fun ys S2 => xs.length = n ∧ ys.length = m ∧ c (takeX S2 (xs ++ ys)).1 fun r as' => force (giveX (takeX S2 (xs ++ ys)).2 (xs ++ ys) as') (Q r)
theorem callN_sim {c : Ct} {ta tk : TXA} {n m : Nat} {E : XK} {σ : L2.St} {H : Hp} {Q : VK} (q : rw (callN n m c ta tk) σ H Q) : tCallN n m (spP c) (fun vs zs => vs ++ zs) E (rwA ta) (rwA tk) σ H Q := by
  obtain ⟨F, G, S, Qp, hr, ht, k⟩ := q
  refine ⟨F, G, S, _, hr, ht, fun vs xs S1 F1 H1 r1 s1 h1 => ?_⟩
  have l1 : vs.length = xs.length := by obtain ⟨_, _, r⟩ := r1; exact r.vl.len
  obtain ⟨G1, sg, r2, more⟩ := r1.aside
  refine ⟨F1, G1, S1, _, r2, h1, fun us ys S2 F2 H2 r3 s2 h2 => ?_⟩
  have l2 : us.length = ys.length := by obtain ⟨_, _, r⟩ := r3; exact r.vl.len
  obtain ⟨e1, e2, h2⟩ := h2
  have r4 := more _ _ _ _ _ r3 s2
  obtain ⟨G2, rc, back⟩ := r4.callee
  exact ⟨l1.trans e1, l2.trans e2, F2, G2, _, _, rc, h2, fun v r as' F' H' r5 s3 q2 => k _ _ _ _ _ (back _ _ _ _ _ r5 s3) ((s1.trans s2).trans s3) (unforce q2)⟩
theorem x_callN {X : Cx} {e : Expr} {c : Ct} {ta tk : TXA} {n m : Nat} {E : XK} (h : PE X e (tCallN n m (spP c) (fun vs zs => vs ++ zs) E (rwA ta) (rwA tk))) : PE X e (rw (callN n m c ta tk)) := PE_imp h fun _ _ _ q => callN_sim q
end
end Px

namespace Px
open PySem PySem.Spec PyProof.Rows L2 Fo TL
/-! ### an own list of own lists -/
inductive LL (F H : Hp) : List Addr → List (List PyData) → Prop
  | nil : LL F H [] []
  | cons {q : Addr} {ws : List V} {d : List PyData} {qs : List Addr} {ds : List (List PyData)} : H q = some (.lst ws) → LvA F ws d → LL F H qs ds → LL F H (q :: qs) (d :: ds)
theorem LL.stay {F F' H H' : Hp} (s : Same F F') : ∀ {qs : List Addr} {ds : List (List PyData)}, LL F H qs ds → (∀ a ∈ qs, H' a = H a) → LL F' H' qs ds
  | _, _, .nil, _ => .nil
  | _, _, .cons h1 h2 h3, k => .cons (by rw [k _ (List.mem_cons_self ..)]; exact h1) (LvA.sm s _ _ h2) (LL.stay s h3 fun a m => k a (List.mem_cons_of_mem _ m))
theorem LL.has {F H : Hp} : ∀ {qs : List Addr} {ds : List (List PyData)}, LL F H qs ds → ∀ a ∈ qs, ∃ ws, H a = some (.lst ws)
  | _, _, .nil, _, m => nomatch m
  | _, _, .cons h1 _ h3, a, m => by
    rcases List.mem_cons.mp m with rfl | m
    · exact ⟨_, h1⟩
    · exact LL.has h3 a m
theorem LL.len {F H : Hp} : ∀ {qs : List Addr} {ds : List (List PyData)}, LL F H qs ds → qs.length = ds.length
  | _, _, .nil => rfl
  | _, _, .cons _ _ h3 => congrArg (· + 1) (LL.len h3)
theorem LL.nth {F H : Hp} : ∀ {qs : List Addr} {ds : List (List PyData)} {k : Nat} {d : List PyData}, LL F H qs ds → ds[k]? = some d → ∃ q ws, qs[k]? = some q ∧ H q = some (.lst ws) ∧ LvA F ws d
  | _, _, k, d, .nil, e => by simp at e
  | _, _, 0, d, .cons h1 h2 _, e => by cases e; exact ⟨_, _, rfl, h1, h2⟩
  | _, _, k + 1, d, .cons _ _ h3, e => by
    obtain ⟨q, ws, e1, e2, e3⟩ := LL.nth (k := k) h3 (by simpa using e)
    exact ⟨q, ws, by simpa using e1, e2, e3⟩
theorem LL.chg {F H H' : Hp} : ∀ {qs : List Addr} {ds : List (List PyData)} {k : Nat} {q : Addr} {ws : List V} {d : List PyData}, LL F H qs ds → qs.Nodup → qs[k]? = some q → (∀ a o, a ≠ q → H a = some o → H' a = some o) → H' q = some (.lst ws) → LvA F ws d → LL F H' qs (ds.set k d)
  | _, _, k, _, _, _, .nil, _, e, _, _, _ => by simp at e
  | _, _, 0, _, _, _, .cons (qs := qs) h1 h2 h3, nd, e, b, e1, e2 => by
    cases e
    refine .cons e1 e2 (LL.stay (fun _ _ q => q) h3 fun a m => ?_)
    obtain ⟨ws, ea⟩ := h3.has a m
    rw [ea]
    exact b a _ (fun z => (List.nodup_cons.mp nd).1 (z ▸ m)) ea
  | _, _, k + 1, q, _, _, .cons (q := q0) (qs := qs) h1 h2 h3, nd, e, b, e1, e2 => by
    have e : qs[k]? = some q := by simpa using e
    have mq := List.mem_of_getElem? e
    have h1' := b q0 _ (fun z => (List.nodup_cons.mp nd).1 (z ▸ mq)) h1
    exact .cons h1' h2 (LL.chg h3 (List.nodup_cons.mp nd).2 e b e1 e2)
def ALL (ds : List (List PyData)) : Asr where
  R := fun F H v fs => ∃ p qs, v = .ref p ∧ fs = p :: qs ∧ H p = some (.lst (qs.map V.ref)) ∧ LL F H qs ds ∧ (p :: qs).Nodup
  stay := fun {F F' H H' v fs} h s k => by
    obtain ⟨p, qs, rfl, rfl, h1, h2, h3⟩ := h
    exact ⟨p, qs, rfl, rfl, by rw [k p (List.mem_cons_self ..)]; exact h1, LL.stay s h2 fun a m => k a (List.mem_cons_of_mem _ m), h3⟩
  has := fun {F H v fs} h a m => by
    obtain ⟨p, qs, rfl, rfl, h1, h2, _⟩ := h
    rcases List.mem_cons.mp m with rfl | m
    · exact ⟨_, h1, fun _ z => nomatch z⟩
    · obtain ⟨ws, e⟩ := h2.has a m
      exact ⟨_, e, fun _ z => nomatch z⟩
section
variable {F F' F0 G G' H H' : Hp} {σ σ' : L2.St} {S : List PV} {v u : V} {vs us : List V} {xs ys : List PV} {x y : PV} {Qp : KP} {Q : VK} {X : Cx} {e : Expr} {K : PySem.W.Frag} {kp : Nat → Bool} {st : Stmt} {te : TX}
/-- the slot i holds a list of lists, the slot a a number: what the relations want -/
theorem RepA.inner {i a k : Nat} {dss : List (List PyData)} {ds : List PyData} (h : RepA F G H σ S vs xs) (e1 : S[i]? = some (.o (ALL dss))) (e2 : S[a]? = some (.d (.int (k : Int)))) (e3 : dss[k]? = some ds) :
    ∃ (p : Addr) (qs : List Addr) (q : Addr) (ws : List V), σ[i]? = some (some (.ref p)) ∧ σ[a]? = some (some (.int (k : Int))) ∧ H p = some (.lst (qs.map V.ref)) ∧ qs[k]? = some q ∧ H q = some (.lst ws) ∧ LvA F ws ds ∧
      ∀ H' ws' ds', But q H H' → H' q = some (.lst ws') → LvA F ws' ds' → RepA F G H' σ (S.set i (.o (ALL (dss.set k ds')))) vs xs := by
  obtain ⟨w, f, ev, r, off, chg⟩ := h.chg e1 (fun z => nomatch z)
  obtain ⟨w2, ev2, r2⟩ := h.rep.nameD e2
  cases r2.dat
  cases r with
  | o r =>
    obtain ⟨p, qs, rfl, rfl, h1, h2, nd⟩ := r
    obtain ⟨q, ws, e4, e5, e6⟩ := h2.nth e3
    have mq := List.mem_of_getElem? e4
    have pq : p ≠ q := fun z => (List.nodup_cons.mp nd).1 (z ▸ mq)
    refine ⟨p, qs, q, ws, ev, ev2, h1, e4, e5, e6, fun H' ws' ds' b e' l' => chg H' _ (p :: qs) (fun a o n z => b a o (fun y => n (y ▸ List.mem_cons_of_mem _ mq)) z) (.o (A := ALL (dss.set k ds')) ⟨p, qs, rfl, rfl, b _ _ pq h1, LL.chg h2 (List.nodup_cons.mp nd).2 e4 b e' l', nd⟩) nd fun a m => .inl m⟩
theorem atI_ref {qs : List Addr} {k : Nat} {q : Addr} (h : qs[k]? = some q) : atI (qs.map V.ref) (k : Int) = some (.ref q) := atI_nat (by rw [List.getElem?_map, h]; rfl)
/-- d[k][j] -/
def ix2X (i a : Nat) (j : Int) : TX := fun S Q => ∃ dss, S[i]? = some (.o (ALL dss)) ∧ ∃ k : Nat, S[a]? = some (.d (.int (k : Int))) ∧ ∃ ds, dss[k]? = some ds ∧ ∃ d, atI ds j = some d ∧ Q (.d d) S
theorem LvA.atI {F : Hp} {ds : List PyData} {ws : List V} {j : Int} {d : PyData} (h : LvA F ws ds) (e : atI ds j = some d) : ∃ w, L2.atI ws j = some w ∧ Lv F w d := by
  unfold L2.atI at e ⊢
  rw [h.len]
  cases z : ixN ds.length j with
  | none => rw [z] at e; cases e
  | some n =>
    rw [z] at e
    exact LvA.nthd h e
theorem x_ix2 {i a : Nat} {j : Int} (h : PE X e (tOp (rIx K) (tOp (rIx K) (tVar i) (tVar a)) (tC (.int j)))) : PE X e (rw (ix2X i a j)) := PE_imp h fun σ H Q q => by
  obtain ⟨F, G, S, Qp, hr, ht, k⟩ := q
  obtain ⟨dss, e1, n, e2, ds, e3, d, e4, ht⟩ := ht
  obtain ⟨p, qs, q, ws, v1, v2, h1, h2, h3, l3, _⟩ := hr.inner e1 e2 e3
  obtain ⟨w, e5, lw⟩ := LvA.atI l3 e4
  refine ⟨_, v1, _, v2, Or.inl ⟨_, _, _, _, rfl, rfl, SqL.of h1, atI_ref h2, ?_⟩⟩
  exact Or.inl ⟨_, _, _, _, rfl, rfl, SqL.of h3, e5, k _ _ _ _ _ (hr.withD lw) (Same.refl _) ht⟩
/-- d[k][j] = x -/
def set2S (i a : Nat) (j : Int) (t : TX) : TXS := fun D S => t S fun r S1 => ∃ d, r = .d d ∧ ∃ dss, S1[i]? = some (.o (ALL dss)) ∧ ∃ k : Nat, S1[a]? = some (.d (.int (k : Int))) ∧ ∃ ds, dss[k]? = some ds ∧ ∃ n, ixN ds.length j = some n ∧ force (S1.set i (.o (ALL (dss.set k (ds.set n d))))) D.nx
theorem xs_set2 {i a : Nat} {j : Int} (h : PS X st (tAsg (rw te) (gSub (tOp (rIx K) (tVar i) (tVar a)) (tC (.int j)) rSetN))) : PS X st (rwS kp (set2S i a j te)) := PS_imp h fun D σ H q => by
  obtain ⟨F, G, S, Dp, hr, ht, k⟩ := q
  refine ⟨F, G, S, _, hr, ht, fun v r S' F' H' r' s' q' => ?_⟩
  obtain ⟨d, rfl, dss, e1, n, e2, ds, e3, m, e4, q'⟩ := q'
  obtain ⟨p, qs, q, ws, v1, v2, h1, h2, h3, l3, chg⟩ := r'.inner e1 e2 e3
  refine ⟨_, v1, _, v2, Or.inl ⟨_, _, _, _, rfl, rfl, SqL.of h1, atI_ref h2, ?_⟩⟩
  refine ⟨q, ws, j, m, rfl, rfl, h3, by rw [l3.len]; exact e4, fun H2 b e' => ?_⟩
  exact k.nx _ _ _ _ (chg H2 _ (ds.set m d) b e' (LvA.sets r'.dat m l3)).rep s' (Kp.refl ..) (unforce q')
/-- d[k].append(z), z a written text -/
def app2X (i a : Nat) (z : PyData) : TX := fun S Q => ∃ dss, S[i]? = some (.o (ALL dss)) ∧ ∃ k : Nat, S[a]? = some (.d (.int (k : Int))) ∧ ∃ ds, dss[k]? = some ds ∧ ds.length < 16777216 ∧ force (S.set i (.o (ALL (dss.set k (ds ++ [z]))))) (Q (.d .none))
theorem x_app2 {i a : Nat} {v : V} {z : PyData} (hv : Cv v z) (h : PE X e (tBM K "list" rAppN (tOp (rIx K) (tVar i) (tVar a)) (tCons (tC v) tNil))) : PE X e (rw (app2X i a z)) := PE_imp h fun σ H Q q => by
  obtain ⟨F, G, S, Qp, hr, ht, k⟩ := q
  obtain ⟨dss, e1, n, e2, ds, e3, few, ht⟩ := ht
  obtain ⟨p, qs, q, ws, v1, v2, h1, h2, h3, l3, chg⟩ := hr.inner e1 e2 e3
  refine ⟨_, v1, _, v2, Or.inl ⟨_, _, _, _, rfl, rfl, SqL.of h1, atI_ref h2, ?_⟩⟩
  refine ⟨.inl ⟨rfl, _, SqL.of h3⟩, ?_⟩
  refine ⟨q, ws, v, rfl, rfl, h3, by rw [l3.len, ← line_eq]; exact few, fun H2 b e' => ?_⟩
  exact k _ _ _ _ _ ((chg H2 _ (ds ++ [z]) b e' (LvA.snoc l3 hv.lv)).rep.withD .non) (Same.refl _) (unforce ht)
theorem LL.lvs {F H F' : Hp} (s : Same F F') : ∀ {qs : List Addr} {ds : List (List PyData)}, LL F H qs ds → (∀ a ∈ qs, F' a = H a) → LvA F' (qs.map V.ref) (ds.map PyData.list)
  | _, _, .nil, _ => .nil
  | _, _, .cons h1 h2 h3, k => .cons (.lst (by rw [k _ (List.mem_cons_self ..)]; exact h1) (LvA.sm s _ _ h2)) (LL.lvs s h3 fun a m => k a (List.mem_cons_of_mem _ m))
/-- a list of lists is data from now on -/
theorem RepA.frzAll {i : Nat} {dss : List (List PyData)} (h : RepA F G H σ S vs xs) (e : S[i]? = some (.o (ALL dss))) : ∃ F', Same F F' ∧ RepA F' G H σ (S.set i (.d (.list (dss.map .list)))) vs xs := by
  obtain ⟨fv, fs, h⟩ := h
  obtain ⟨v, f, fs', e1, r, rs, nf, nfs, d1, d2, m1, m2⟩ := h.taken e (fun z => nomatch z)
  have hi : i < S.length := (List.getElem?_eq_some_iff.mp e).1
  cases r with
  | o r =>
    obtain ⟨p, qs, rfl, rfl, h1, h2, nd⟩ := r
    have offf : ∀ a ∈ p :: qs, F a = none ∧ G a = none := fun a m => h.off a (List.mem_append_right _ (m1 a m))
    have sF : Same F (lock F H (p :: qs)) := fun a o q => by
      have : a ∉ p :: qs := fun m => by rw [(offf a m).1] at q; cases q
      rw [lock_out this]
      exact q
    have lv : Lv (lock F H (p :: qs)) (.ref p) (.list (dss.map .list)) := .lst (by rw [lock_in (List.mem_cons_self ..)]; exact h1) (LL.lvs sF h2 fun a m => lock_in (List.mem_cons_of_mem _ m))
    obtain ⟨fs2, q1, q2, q3⟩ := (rs.stay sF fun _ _ => rfl).put (i := i) (v := .ref p) (x := .d (.list (dss.map .list))) (f := []) (by rw [List.length_set]; exact hi) (.d lv) nfs
    rw [List.set_set] at q1
    have eσ : σ.set i (some (.ref p)) = σ := by
      refine List.ext_getElem? fun j => ?_
      by_cases z : i = j
      · subst z
        rw [List.getElem?_set_self (List.getElem?_eq_some_iff.mp e1).1, e1]
      · rw [List.getElem?_set_ne z]
    rw [eσ] at q1
    refine ⟨_, sF, fv, fs2, fun a o q => ?_, h.lg, q1, h.vl.stay sF _ _ _ fun _ _ => rfl, List.nodup_append.mpr ⟨(List.nodup_append.mp h.nd).1, q2, fun a ha b hb z => ?_⟩, fun a m => ?_, fun a o q => ?_⟩
    · by_cases m : a ∈ p :: qs
      · rw [lock_in m] at q; exact q
      · rw [lock_out m] at q; exact h.lf a o q
    · subst z
      exact d2 a (q3 a hb) ha
    · have out : a ∉ p :: qs := fun z => (List.mem_append.mp m).elim (d1 a z).1 fun y => (d1 a z).2 (q3 a y)
      rw [lock_out out]
      exact h.off a ((List.mem_append.mp m).elim (List.mem_append_left _) fun y => List.mem_append_right _ (m2 a (q3 a y)))
    · have out : a ∉ p :: qs := fun z => by rw [(offf a z).2] at q; cases q
      rw [lock_out out]
      exact h.dj a o q
def frzS (i : Nat) (t : TXS) : TXS := fun D S => ∃ dss, S[i]? = some (.o (ALL dss)) ∧ force (S.set i (.d (.list (dss.map .list)))) (t D)
theorem xs_frz {i : Nat} {t : TXS} (h : PS X st (rwS kp t)) : PS X st (rwS kp (frzS i t)) := PS_imp h fun D σ H q => by
  obtain ⟨F, G, S, Dp, hr, ht, k⟩ := q
  obtain ⟨dss, e, ht⟩ := ht
  obtain ⟨F', s, r⟩ := hr.frzAll e
  exact ⟨F', G, _, Dp, r, unforce ht, k.on s (Kp.refl ..)⟩
/-! made by a comprehension -/
theorem RepA.stash {d : List PyData} (h : RepA F G H σ S [v] [.l d]) : ∃ q ws, v = .ref q ∧ H q = some (.lst ws) ∧ LvA F ws d ∧ G q = none ∧ Rep F (upd G q (.lst ws)) H σ S := by
  obtain ⟨fv, fs, h⟩ := h
  cases hv : h.vl with
  | cons h1 h2 =>
    cases h2
    cases h1 with
    | l h1 h3 =>
      rename_i q ws
      have nd := List.nodup_cons.mp (show (q :: fs).Nodup by have := h.nd; simpa using this)
      have hq := h.off q (by simp)
      refine ⟨q, ws, rfl, h1, h3, hq.2, [], fs, h.lf, fun a o e => ?_, h.sl, .nil, nd.2, fun a m => ?_, fun a o e => ?_⟩
      · rcases upd_mine e with ⟨rfl, rfl⟩ | ⟨_, e⟩
        · exact h1
        · exact h.lg a o e
      · have : a ≠ q := fun z => nd.1 (z ▸ m)
        rw [upd_ne this]
        exact h.off a (by simp; exact .inr m)
      · rcases upd_mine e with ⟨rfl, rfl⟩ | ⟨_, e⟩
        · exact ⟨hq.1, fun _ z => nomatch z⟩
        · exact h.dj a o e
theorem RepA.unlock {A : Asr} {f : List Addr} (h : Rep F G' H σ S) (s : Same G G') (hf : ∀ a ∈ f, G a = none) (nf : f.Nodup) (r : A.R F G' v f) : RepA F G H σ S [v] [.o A] := by
  obtain ⟨fv, fs, h0⟩ := h
  cases h0.vl
  have has := A.has r
  have rH : A.R F H v f := A.stay r (Same.refl _) fun a m => by
    obtain ⟨o, e, _⟩ := has a m
    rw [e]
    exact h0.lg a o e
  have hn : ∀ a ∈ fs, a ∉ f := fun a m z => by
    obtain ⟨o, e, _⟩ := has a z
    have := (h0.off a m).2
    rw [e] at this
    cases this
  have rv : RVs σ F H [v] [.o A] (f ++ []) := .cons (.o rH) .nil
  rw [List.append_nil] at rv
  refine ⟨f, fs, h0.lf, fun a o e => h0.lg a o (s a o e), h0.sl, rv, List.nodup_append.mpr ⟨nf, h0.nd, fun a ha b hb z => hn b hb (z ▸ ha)⟩, fun a m => ?_, fun a o e => h0.dj a o (s a o e)⟩
  rcases List.mem_append.mp m with m | m
  · obtain ⟨o, e, _⟩ := has a m
    exact ⟨(h0.dj a o e).1, hf a m⟩
  · refine ⟨(h0.off a m).1, ?_⟩
    cases q : G a with
    | none => rfl
    | some u =>
      have := (h0.off a m).2
      rw [s a u q] at this
      cases this
theorem upd_swap {G : Hp} {p q : Addr} {o u : HO} (h : p ≠ q) : upd (upd G p o) q u = upd (upd G q u) p o := by
  funext a
  by_cases e1 : a = q
  · subst e1
    rw [upd_same, upd_ne (Ne.symm h), upd_same]
  · by_cases e2 : a = p
    · subst e2
      rw [upd_ne e1, upd_same, upd_same]
    · rw [upd_ne e1, upd_ne e2, upd_ne e2, upd_ne e1]
theorem LL.snoc {F H : Hp} {q : Addr} {ws : List V} {d : List PyData} (h1 : H q = some (.lst ws)) (h2 : LvA F ws d) : ∀ {qs : List Addr} {ds : List (List PyData)}, LL F H qs ds → LL F H (qs ++ [q]) (ds ++ [d])
  | _, _, .nil => .cons h1 h2 .nil
  | _, _, .cons e1 e2 e3 => .cons e1 e2 (LL.snoc h1 h2 e3)
inductive LcL (g : TXG) (te : TX) (ws : List Nat) (Q : KP) (its : List PyData) (S0 : List PV) : Prop
  | mk (few : its.length < 16777216) (J : Nat → List (List PyData) → List PV → Prop) (h0 : J 0 [] (wipeX S0 ws))
    (hs : ∀ (k : Nat) (x : PyData) (acc : List (List PyData)) (S : List PV), its[k]? = some x → J k acc S → g (.d x) S fun S2 => te S2 fun y S4 => ∃ z, y = .l z ∧ force (wipeX S4 ws) (J (k + 1) (acc ++ [z])))
    (hd : ∀ acc S, J its.length acc S → Q (.o (ALL acc)) S)
def lcL (ti : TXI) (g : TXG) (te : TX) (ws : List Nat) : TX := fun S Q => ti S fun its S0 => LcL g te ws Q its S0
theorem lcL_sim {ti : TXI} {g : TXG} {te : TX} {ws : List Nat} {σ : L2.St} {H : Hp} {Q : VK} (q : rw (lcL ti g te ws) σ H Q) : tLc (rwI ti) (rwG (kpOf ws) g) tYes (rw te) ws σ H Q := by
  obtain ⟨F, G, S, Qp, hr, ht, k⟩ := q
  refine ⟨F, G, S, _, hr, ht, fun J its S0 F0 H0 r0 s0 w h0 => ?_⟩
  intro D hD
  obtain ⟨few, Jv, j0, step, done⟩ := h0
  obtain ⟨P, Y, w, hP, hY⟩ := w.ex
  have hG : G D = none := by
    obtain ⟨_, _, r⟩ := r0
    cases q : G D with
    | none => rfl
    | some u => rw [r.lg D u q] at hD; cases hD
  have rg := (RepA.guard (acc := []) r0 hD).wipedIn ws
  refine lc_it w (fun i H' => ∃ (F' : Hp) (S' : List PV) (G2 : Hp) (qs : List Addr) (ds : List (List PyData)), Rep F' (upd G2 D (.lst (qs.map V.ref))) H' σ S' ∧ Same F0 F' ∧ Same G G2 ∧ G2 D = none ∧ LL F' G2 qs ds ∧ qs.Nodup ∧ (∀ a ∈ qs, G a = none) ∧ ds.length = i ∧ Jv i ds S' ∧ wipeX S' ws = S')
    ⟨F0, wipeX S0 ws, G, [], [], rg.2, Same.refl _, Same.refl _, hG, .nil, .nil, (fun _ m => nomatch m), rfl, j0, wipeX_twice ..⟩ (fun i H' _ pv => ?_) (fun i x H1 H2 hi pv y => ?_) (fun H' pv => ?_)
  · obtain ⟨F', S', G2, qs, ds, r', s', _⟩ := pv
    exact hP _ (s'.trans r'.lf)
  · obtain ⟨F', S', G2, qs, ds, r', s', sg, gD, ll, nd, gq, dl, j', ew⟩ := pv
    obtain ⟨sh, z, ez, yz⟩ := hY i H1 x H2 hi (s'.trans r'.lf) y
    obtain ⟨F2, s2, r2⟩ := r'.yld s' sh yz
    have r3 : RepA F2 (upd G2 D (.lst (qs.map V.ref))) H2 (wipe σ ws) S' [x] [.d z] := by
      have := (r2.rep.wipedIn ws).1
      rw [ew] at this
      exact this.withD r2.dat
    refine ⟨F2, _, S', _, _, r3, step i z ds S' ez j', fun σ3 S3 F3 H3 q3 s3 e3 h3 => ?_⟩
    have ew3 := Kp.wiped (fun j hj => by simp [kpOf, hj]) e3
    have el3 : σ3.length = σ.length := e3.1.trans (wipe_length ..)
    refine ⟨ew3, ?_⟩
    show tYes σ3 H3 _
    refine ⟨F3, _, S3, _, q3, h3, fun u r S5 F5 H5 q5 s5 h5 => ?_⟩
    obtain ⟨d, rfl, h5⟩ := h5
    have h5 := unforce h5
    have eD : H5 D = some (.lst (qs.map V.ref)) := by
      obtain ⟨_, _, r⟩ := q5
      exact r.lg _ _ upd_same
    obtain ⟨q, vs', rfl, h6, l6, gq6, r6⟩ := q5.stash
    have qD : D ≠ q := fun z => by rw [← z, upd_same] at gq6; cases gq6
    rw [upd_ne (Ne.symm qD)] at gq6
    rw [upd_swap qD] at r6
    have sF := s2.trans (s3.trans s5)
    have keepG : Same G2 (upd G2 q (.lst vs')) := fun a o e => by
      have : a ≠ q := fun z => by rw [z, gq6] at e; cases e
      rw [upd_ne this]
      exact e
    have ll2 : LL F5 (upd G2 q (.lst vs')) (qs ++ [q]) (ds ++ [d]) := LL.snoc upd_same l6 (LL.stay sF ll fun a m => by
      obtain ⟨ws', ea⟩ := ll.has a m
      rw [ea]
      exact keepG a _ ea)
    have nq : q ∉ qs := fun m => by
      obtain ⟨ws', ea⟩ := ll.has q m
      rw [gq6] at ea
      cases ea
    have g0 : G q = none := by
      cases z : G q with
      | none => rfl
      | some u => rw [sg q u z] at gq6; cases gq6
    refine ⟨qs.map V.ref, eD, by rw [List.length_map, ll.len, dl, sizeLine_eq]; have := hi; omega, F5, wipeX S5 ws, _, qs ++ [q], ds ++ [d], ?_, s'.trans sF, sg.trans keepG, by rw [upd_ne qD]; exact gD, ll2, List.nodup_append.mpr ⟨nd, List.nodup_cons.mpr ⟨fun m => (nomatch m), .nil⟩, fun a ha b hb z => nq (by rw [List.mem_singleton.mp hb] at z; exact z ▸ ha)⟩, fun a m => ?_, by rw [List.length_append, dl]; rfl, h5, wipeX_twice ..⟩
    · have := (r6.reguard (acc' := (qs ++ [q]).map V.ref)).wipedOut ws ew3 el3
      rw [List.map_append] at this ⊢
      exact this
    · rcases List.mem_append.mp m with m | m
      · exact gq a m
      · rw [List.mem_singleton.mp m]; exact g0
  · obtain ⟨F', S', G2, qs, ds, r', s', sg, gD, ll, nd, gq, dl, j', _⟩ := pv
    have j2 := done _ _ j'
    have keepG : Same G2 (upd G2 D (.lst (qs.map V.ref))) := same_new gD
    have nD : D ∉ qs := fun m => by
      obtain ⟨ws', ea⟩ := ll.has D m
      rw [gD] at ea
      cases ea
    have r2 : RepA F' G H' σ S' [.ref D] [.o (ALL ds)] := RepA.unlock (f := D :: qs) r' (sg.trans keepG) (fun a m => by
      rcases List.mem_cons.mp m with rfl | m
      · exact hG
      · exact gq a m) (List.nodup_cons.mpr ⟨nD, nd⟩) ⟨D, qs, rfl, rfl, upd_same, LL.stay (Same.refl _) ll fun a m => by
        obtain ⟨ws', ea⟩ := ll.has a m
        rw [ea]
        exact keepG a _ ea, List.nodup_cons.mpr ⟨nD, nd⟩⟩
    exact k _ _ _ _ _ r2 (s0.trans s') j2
theorem x_lcL {ti : TXI} {g : TXG} {te : TX} {ws : List Nat} (h : PE X e (tLc (rwI ti) (rwG (kpOf ws) g) tYes (rw te) ws)) : PE X e (rw (lcL ti g te ws)) := PE_imp h fun _ _ _ q => lcL_sim q
/-- a written number below nought -/
theorem pe_m {j : Int} (h : PE X e (tUn (rU fun i => .int (-i)) (tC (.int j)))) : PE X e (tC (.int (-j))) := PE_imp h fun σ H Q q => ⟨j, rfl, q⟩
/-! a text no times or once -/
def rMulO : R2 := fun x y H Q => ∃ (t : Cs) (i : Int), x = .str (tx t) ∧ y = .int i ∧ (i = 0 ∨ i = 1) ∧ Q (.str (tx (if i = 1 then t else []))) H
theorem op_mulO {X : Cx} : OpR X (binaryOp .Mult) rMulO := by
  intro pins s σ H x y v u Q I rx ry h
  obtain ⟨t, i, rfl, rfl, hi, q⟩ := h
  obtain ⟨k, rfl⟩ := rx
  obtain ⟨k', rfl⟩ := ry
  have ok : MulOk (tx t) i := by
    rcases hi with rfl | rfl
    · exact ⟨by decide, fun z => absurd (by decide) z, fun z => absurd (by decide) z⟩
    · exact ⟨by decide, fun _ z => (nomatch z), fun _ z => (nomatch z)⟩
  refine SB.mul ok fun t2 k => ?_
  refine ⟨.str (tx (if i = 1 then t else [])), H, I.tok _, ⟨t2, ?_⟩, q⟩
  rcases hi with rfl | rfl
  · rfl
  · unfold Txt.mul
    rw [if_neg (by decide), if_pos rfl]
    rfl
def pMulO : P2 := fun S x y Q => match look S x, look S y with
  | .d (.str z), .d (.int i) => (i = 0 ∨ i = 1) ∧ Q (.d (.str (tx (if i = 1 then TL.tl z else [])))) S
  | _, _ => pMul S x y Q
def rMulPO : R2 := fun x y H Q => rMulP x y H Q ∨ rMulO x y H Q
theorem op_mulPO {X : Cx} : OpR X (binaryOp .Mult) rMulPO := OpR.or op_mulP op_mulO
theorem sim_mulO : Sim2 rMulPO pMulO := by
  intro F G H σ S v u x y Qp Q r hp k
  unfold pMulO at hp
  split at hp
  · rename_i z i e1 e2
    obtain ⟨h0, h1⟩ := hp
    obtain ⟨f1, r1⟩ := r.look0
    obtain ⟨f2, r2⟩ := r.look1
    rw [e1] at r1
    rw [e2] at r2
    cases r1.dat
    cases r2.dat
    exact .inr ⟨TL.tl z, i, by rw [tx_tl], rfl, h0, k.dat r (.str _) h1⟩
  · exact .inl (sim_mul _ _ _ _ _ _ _ _ _ _ _ r hp k)
/-! or of values -/
def trD : PyData → Option Bool
  | .none => some false
  | .str z => some (!(TL.tl z).isEmpty)
  | _ => none
def orD (t u : TX) : TX := fun S Q => t S fun x S1 => ∃ d, x = .d d ∧ (∀ z, d = .str z → (TL.tl z).length ≤ 16777216) ∧ ∃ b, trD d = some b ∧ pick b (Q x S1) (u S1 Q)
theorem x_orD {a b : Expr} {rest : List Expr} {pos : Pos} {ta tb : TX} (eK : X.K = K) (ha : PE X a (rw ta)) (hb : PE X (.BoolOp .Or (b :: rest) pos) (rw tb)) : PE X (.BoolOp .Or (a :: b :: rest) pos) (rw (orD ta tb)) := PE_imp (pe_orT ha hb) fun σ H Q q => by
  subst eK
  obtain ⟨F, G, S, Qp, hr, ht, k⟩ := q
  refine ⟨F, G, S, _, hr, ht, fun v x S1 F1 H1 r1 s1 h1 => ?_⟩
  obtain ⟨d, rfl, few, b, eb, h1⟩ := h1
  have tv : TruV X.K v H1 b := by
    have dv := r1.dat
    cases d with
    | none => cases dv; cases eb; rfl
    | str z =>
      have fz := few z rfl
      cases dv
      cases eb
      refine ⟨by rw [len_tl, ← line_eq]; exact fz, ?_⟩
      rw [len_tl]
      cases TL.tl z with
      | nil => rfl
      | cons c t => simp; omega
    | _ => cases eb
  refine ⟨b, tv, ?_⟩
  cases b with
  | true =>
    rw [if_pos rfl]
    exact k _ _ _ _ _ r1 s1 h1
  | false =>
    rw [if_neg Bool.false_ne_true]
    exact ⟨F1, G, S1, _, r1.rep, h1, k.up s1⟩
theorem x_app2S {i a : Nat} {y : Str} {cs : Cs} (h : PE X e (tBM K "list" rAppN (tOp (rIx K) (tVar i) (tVar a)) (tCons (tC (.str y)) tNil))) (ey : y = tx cs) : PE X e (rw (app2X i a (.str (tx cs)))) := by
  subst ey
  exact x_app2 (.str _) h
end
end Px

namespace Px
open PySem PySem.Spec PyProof.Rows L2 Fo TL
/-! ### a comprehension over an own list that stays an own list -/
section
variable {F F' F0 G G' H H' : Hp} {σ σ' : L2.St} {S : List PV} {v u : V} {vs us : List V} {xs ys : List PV} {x y : PV} {Qp : KP} {Q : VK} {X : Cx} {e : Expr} {K : PySem.W.Frag}
/-- a slot's list is laid aside .. -/
theorem RepA.lockSlot {i : Nat} {ds : List PyData} (h : Rep F G H σ S) (e : S[i]? = some (.l ds)) : ∃ p ws, σ[i]? = some (some (.ref p)) ∧ H p = some (.lst ws) ∧ LvA F ws ds ∧ G p = none ∧ Rep F (upd G p (.lst ws)) H σ (S.set i .un) := by
  obtain ⟨fv, fs, h⟩ := h
  cases h.vl
  obtain ⟨v, f, fs', e1, r, rs, nf, nfs, d1, d2, m1, m2⟩ := h.taken e (fun z => nomatch z)
  cases r with
  | l h1 h3 =>
    rename_i p ws
    have hp := h.off p (m1 p (List.mem_singleton_self _))
    refine ⟨p, ws, e1, h1, h3, hp.2, [], fs', h.lf, fun a o q => ?_, rs, .nil, nfs, fun a m => ?_, fun a o q => ?_⟩
    · rcases upd_mine q with ⟨rfl, rfl⟩ | ⟨_, q⟩
      · exact h1
      · exact h.lg a o q
    · have ne : a ≠ p := fun z => (d1 p (List.mem_singleton_self _)).2 (z ▸ m)
      rw [upd_ne ne]
      exact h.off a (m2 a m)
    · rcases upd_mine q with ⟨rfl, rfl⟩ | ⟨_, q⟩
      · exact ⟨hp.1, fun _ z => nomatch z⟩
      · exact h.dj a o q
/-- .. and taken back -/
theorem RepA.unlockSlot {i : Nat} {p : Addr} {ws : List V} {ds : List PyData} (h : RepA F (upd G p (.lst ws)) H σ S vs xs) (e : σ[i]? = some (some (.ref p))) (l : LvA F ws ds) (gp : G p = none) : RepA F G H σ (S.set i (.l ds)) vs xs := by
  obtain ⟨fv, fs, h⟩ := h
  have hp : H p = some (.lst ws) := h.lg _ _ upd_same
  have fp : F p = none := (h.dj p _ upd_same).1
  have out : ∀ a ∈ fv ++ fs, a ≠ p := fun a m z => by
    have := (h.off a m).2
    rw [z, upd_same] at this
    cases this
  have nd := List.nodup_append.mp h.nd
  have hi : i < S.length := by
    rw [h.sl.len]
    exact (List.getElem?_eq_some_iff.mp e).1
  obtain ⟨fs', q1, q2, q3⟩ := h.sl.put (i := i) (v := .ref p) (x := .l ds) (f := [p]) hi (.l hp l) (List.nodup_cons.mpr ⟨fun m => out p (List.mem_append_right _ m) rfl, nd.2.1⟩)
  have eσ : σ.set i (some (.ref p)) = σ := by
    refine List.ext_getElem? fun j => ?_
    by_cases z : i = j
    · subst z
      rw [List.getElem?_set_self (List.getElem?_eq_some_iff.mp e).1, e]
    · rw [List.getElem?_set_ne z]
  rw [eσ] at q1
  have gne : ∀ a o, G a = some o → a ≠ p := fun a o q z => by rw [z, gp] at q; cases q
  have sub : ∀ a ∈ fs', a = p ∨ a ∈ fs := fun a m => (List.mem_cons.mp (q3 a m))
  refine ⟨fv, fs', h.lf, fun a o q => h.lg a o (by rw [upd_ne (gne a o q)]; exact q), q1, h.vl, List.nodup_append.mpr ⟨nd.1, q2, fun a ha b hb z => ?_⟩, fun a m => ?_, fun a o q => h.dj a o (by rw [upd_ne (gne a o q)]; exact q)⟩
  · subst z
    rcases sub a hb with rfl | m
    · exact out a (List.mem_append_left _ ha) rfl
    · exact nd.2.2 a ha a m rfl
  · have inn : a = p ∨ a ∈ fv ++ fs := (List.mem_append.mp m).elim (fun m => .inr (List.mem_append_left _ m)) fun m => (sub a m).imp id (List.mem_append_right _)
    rcases inn with rfl | m
    · exact ⟨fp, gp⟩
    · have z := h.off a m
      rw [upd_ne (out a m)] at z
      exact z
inductive LcK (g : TXG) (te : TX) (ws : List Nat) (Q : KP) (i : Nat) (ds : List PyData) (S0 : List PV) : Prop
  | mk (few : ds.length < 16777216) (J : Nat → List PyData → List PV → Prop) (h0 : J 0 [] (wipeX (S0.set i .un) ws))
    (hs : ∀ (k : Nat) (x : PyData) (acc : List PyData) (S : List PV), ds[k]? = some x → J k acc S → g (.d x) S fun S2 => te S2 fun y S4 => ∃ z, y = .d z ∧ force (wipeX S4 ws) (J (k + 1) (acc ++ [z])))
    (hd : ∀ acc S, J ds.length acc S → force (S.set i (.l ds)) (Q (.l acc)))
def lcK (i : Nat) (g : TXG) (te : TX) (ws : List Nat) : TX := fun S Q => ∃ ds, S[i]? = some (.l ds) ∧ LcK g te ws Q i ds S
theorem kV (eK : X.K = K) {tg ex : Expr} {te : TE} (h : PE X ex te) : PI X tg ex (iV K te) := by
  subst eK
  exact pi_V h
theorem lcK_sim {i : Nat} {g : TXG} {te : TX} {ws : List Nat} (hi : i ∉ ws) {σ : L2.St} {H : Hp} {Q : VK} (q : rw (lcK i g te ws) σ H Q) : tLc (iV K (tVar i)) (rwG (kpOf ws) g) tYes (rw te) ws σ H Q := by
  obtain ⟨F, G0, S, Qp, hr, ht, k⟩ := q
  obtain ⟨ds, es, few, Jv, j0, step, done⟩ := ht
  obtain ⟨p, us, ev, hp, lv, gp, r0⟩ := hr.lockSlot es
  refine ⟨_, ev, Or.inl ⟨p, us, rfl, SqL.of hp, ?_⟩⟩
  intro D hD
  generalize hG : upd G0 p (.lst us) = G at r0
  have gpG : G p = some (.lst us) := by rw [← hG, upd_same]
  have gD : G D = none := by
    obtain ⟨_, _, r⟩ := r0
    cases q : G D with
    | none => rfl
    | some u => rw [r.lg D u q] at hD; cases hD
  have pD : p ≠ D := fun z => by rw [z, gD] at gpG; cases gpG
  have rg := (RepA.guard (acc := []) r0 hD).wipedIn ws
  have hpk : ∀ {F' : Hp} {acc : List V} {H' : Hp} {σ' : L2.St} {S' : List PV} {vs : List V} {xs : List PV}, RepA F' (upd G D (.lst acc)) H' σ' S' vs xs → H' p = some (.lst us) := fun r => by
    obtain ⟨_, _, r⟩ := r
    exact r.lg _ _ (by rw [upd_ne pD]; exact gpG)
  refine lc_it (walk_list (a := p) (xs := us)) (fun i H' => ∃ F' S' acc ds', Rep F' (upd G D (.lst acc)) H' σ S' ∧ Same F F' ∧ LvA F' acc ds' ∧ ds'.length = i ∧ Jv i ds' S' ∧ wipeX S' ws = S') ⟨F, wipeX (S.set i .un) ws, [], [], rg.2, Same.refl _, .nil, rfl, j0, wipeX_twice ..⟩ (fun i H' _ pv => ?_) (fun i x H1 H2 hi' pv y => ?_) (fun H' pv => ?_)
  · obtain ⟨F', S', acc, ds', r', _⟩ := pv
    exact SqL.of (hpk r')
  · obtain ⟨F', S', acc, ds', r', s', l', dl, j', ew⟩ := pv
    obtain ⟨rfl, ex⟩ := y
    obtain ⟨z, ez, lz⟩ := LvA.nth (LvA.sm s' _ _ lv) ex
    have r3 : RepA F' (upd G D (.lst acc)) H2 (wipe σ ws) S' [x] [.d z] := by
      have := (r'.wipedIn ws).1
      rw [ew] at this
      exact this.withD lz
    refine ⟨F', _, S', _, _, r3, step i z ds' S' ez j', fun σ3 S3 F3 H3 q3 s3 e3 h3 => ?_⟩
    have ew3 := Kp.wiped (fun j hj => by simp [kpOf, hj]) e3
    have el3 : σ3.length = σ.length := e3.1.trans (wipe_length ..)
    refine ⟨ew3, ?_⟩
    show tYes σ3 H3 _
    refine ⟨F3, _, S3, _, q3, h3, fun u r S5 F5 H5 q5 s5 h5 => ?_⟩
    obtain ⟨d, rfl, h5⟩ := h5
    have h5 := unforce h5
    have eD : H5 D = some (.lst acc) := by
      obtain ⟨_, _, r⟩ := q5
      exact r.lg _ _ upd_same
    have sF := s3.trans s5
    have lu : us.length = ds.length := lv.len
    refine ⟨acc, eD, by rw [l'.len, dl, sizeLine_eq]; omega, F5, wipeX S5 ws, acc ++ [u], ds' ++ [d], (q5.rep.reguard).wipedOut ws ew3 el3, s'.trans sF, LvA.snoc (LvA.sm sF _ _ l') q5.dat, by rw [List.length_append, dl]; rfl, h5, wipeX_twice ..⟩
  · obtain ⟨F', S', acc, ds', r', s', l', dl, j', _⟩ := pv
    rw [lv.len] at j'
    have r2 := r'.unguard gD l'
    rw [← hG] at r2
    exact k _ _ _ _ _ (r2.unlockSlot ev (LvA.sm s' _ _ lv) gp) s' (unforce (done _ _ j'))
theorem x_lcK {i : Nat} {g : TXG} {te : TX} {ws : List Nat} (hi : i ∉ ws) (h : PE X e (tLc (iV K (tVar i)) (rwG (kpOf ws) g) tYes (rw te) ws)) : PE X e (rw (lcK i g te ws)) := PE_imp h fun _ _ _ q => lcK_sim hi q
theorem lck_of {α : Type} {g : TXG} {te : TX} {ws : List Nat} {Q : KP} {i : Nat} {ds : List PyData} {S0 : List PV} (l : List α) (f h : α → PyData) (e : ds = l.map f) (few : l.length < 16777216)
    (hs : ∀ x ∈ l, ∀ R : KP, (∀ S4, wipeX S4 ws = wipeX (S0.set i .un) ws → R (.d (h x)) S4) → g (.d (f x)) (wipeX (S0.set i .un) ws) fun S2 => te S2 R) (hd : force ((wipeX (S0.set i .un) ws).set i (.l (l.map f))) (Q (.l (l.map h)))) : LcK g te ws Q i ds S0 := by
  subst e
  refine ⟨by rw [List.length_map]; exact few, fun k acc S => S = wipeX (S0.set i .un) ws ∧ acc = (l.take k).map h, ⟨rfl, rfl⟩, fun k x acc S e q => ?_, fun acc S q => ?_⟩
  · obtain ⟨rfl, rfl⟩ := q
    obtain ⟨y, ey, rfl⟩ : ∃ y, l[k]? = some y ∧ f y = x := by
      rw [List.getElem?_map] at e
      cases z : l[k]? with
      | none => rw [z] at e; cases e
      | some y => rw [z] at e; exact ⟨y, rfl, Option.some.inj e⟩
    exact hs y (List.mem_of_getElem? ey) (fun y S4 => ∃ z, y = .d z ∧ force (wipeX S4 ws) fun S => S = wipeX (S0.set i .un) ws ∧ (l.take k).map h ++ [z] = (l.take (k + 1)).map h) fun S4 e4 => ⟨_, rfl, doforce ⟨e4, by
      rw [take_snoc ey, List.map_append]
      rfl⟩⟩
  · obtain ⟨rfl, rfl⟩ := q
    rw [List.length_map, List.take_length]
    exact hd
end
end Px

namespace Px
open PySem PySem.Spec PyProof.Rows L2 Fo TL
/-! ### a short text some times -/
theorem fold_rep (t : Cs) : ∀ (m : Nat) (acc : Cs), (List.replicate m t.toArray).foldl (fun x1 x2 => x1 ++ x2) acc.toArray = (acc ++ (List.replicate m t).flatten).toArray
  | 0, acc => by simp
  | m + 1, acc => by
    rw [List.replicate_succ, List.foldl_cons, List.append_toArray, fold_rep t m (acc ++ t), List.replicate_succ, List.flatten_cons, List.append_assoc]
theorem txt_mul (t : Cs) (k : Nat) : Txt.mul (tx t) (k : Int) = tx (List.replicate k t).flatten := by
  unfold Txt.mul
  match k with
  | 0 => rfl
  | 1 =>
    rw [if_neg (by decide)]
    show (if (true || _) = true then tx t else _) = tx (t ++ [])
    rw [Bool.true_or, if_pos rfl, List.append_nil]
  | k + 2 =>
    rw [if_neg (by omega)]
    by_cases h : t = []
    · subst h
      rw [if_pos (by rw [tx_len]; simp)]
      rw [show (List.replicate (k + 2) ([] : Cs)).flatten = [] from List.flatten_eq_nil_iff.mpr fun l m => List.eq_of_mem_replicate m]
    · have n1 : (((k + 2 : Nat) : Int) == 1) = false := beq_eq_false_iff_ne.mpr (by omega)
      have n2 : ((tx t).length == 0) = false := beq_eq_false_iff_ne.mpr (by rw [tx_len]; exact fun z => h (List.eq_nil_of_length_eq_zero z))
      rw [n1, n2, if_neg (by decide), Int.toNat_natCast]
      have := fold_rep t (k + 2) []
      rw [List.nil_append] at this
      exact congrArg Str.mk this
def rMulR : R2 := fun x y H Q => ∃ (t : Cs) (k : Nat), x = .str (tx t) ∧ y = .int (k : Int) ∧ t.length ≤ 100 ∧ k ≤ 30 ∧ Q (.str (tx (List.replicate k t).flatten)) H
theorem op_mulR {X : Cx} : OpR X (binaryOp .Mult) rMulR := by
  intro pins s σ H x y v u Q I rx ry h
  obtain ⟨t, k, rfl, rfl, ht, hk, q⟩ := h
  obtain ⟨t1, rfl⟩ := rx
  obtain ⟨t2, rfl⟩ := ry
  have kk : ∀ k < 31, (2 ^ 63 - 1 : Int) / ((k : Nat) : Int) > 100 ∨ k = 0 := by decide +kernel
  have ok : MulOk (tx t) (k : Int) := by
    refine ⟨by rw [decide_eq_false (by omega), decide_eq_false (by omega)]; rfl, fun z _ => ?_, fun z _ => ?_⟩
    · rw [tx_len]
      rcases kk k (by omega) with h | h
      · omega
      · omega
    · rw [tx_len, Int.toNat_natCast]
      have : t.length * k ≤ 100 * 30 := Nat.mul_le_mul ht hk
      show decide (_ > sizeLine) = false
      rw [sizeLine_eq]
      exact decide_eq_false (by omega)
  refine SB.mul ok fun t3 k2 => ?_
  exact ⟨.str (tx (List.replicate k t).flatten), H, I.tok _, ⟨t3, by rw [txt_mul]⟩, q⟩
def pMulR : P2 := fun S x y Q => match look S x, look S y with
  | .d (.str z), .d (.int i) => (TL.tl z).length ≤ 100 ∧ 0 ≤ i ∧ i ≤ 30 ∧ Q (.d (.str (tx (List.replicate i.toNat (TL.tl z)).flatten))) S
  | _, _ => pMul S x y Q
def rMulPR : R2 := fun x y H Q => rMulP x y H Q ∨ rMulR x y H Q
theorem op_mulPR {X : Cx} : OpR X (binaryOp .Mult) rMulPR := OpR.or op_mulP op_mulR
theorem sim_mulR : Sim2 rMulPR pMulR := by
  intro F G H σ S v u x y Qp Q r hp k
  unfold pMulR at hp
  split at hp
  · rename_i z i e1 e2
    obtain ⟨h0, h1, h2, h3⟩ := hp
    obtain ⟨f1, r1⟩ := r.look0
    obtain ⟨f2, r2⟩ := r.look1
    rw [e1] at r1
    rw [e2] at r2
    cases r1.dat
    cases r2.dat
    exact .inr ⟨TL.tl z, i.toNat, by rw [tx_tl], by rw [Int.toNat_of_nonneg h1], h0, by omega, k.dat r (.str _) h3⟩
  · exact .inl (sim_mul _ _ _ _ _ _ _ _ _ _ _ r hp k)
/-! an own list that is handed back is data from then on -/
def frzV : PV → PV
  | .l ds => .d (.list ds)
  | x => x
def frzRX (t : TX) : TX := fun S Q => t S fun r S1 => Q (frzV r) S1
theorem x_frzR {X : Cx} {e : Expr} {t : TX} (h : PE X e (rw t)) : PE X e (rw (frzRX t)) := PE_imp h fun σ H Q q => by
  obtain ⟨F, G, S, Qp, hr, ht, k⟩ := q
  refine ⟨F, G, S, _, hr, ht, fun v r S' F' H' r' s' q' => ?_⟩
  cases r with
  | l ds =>
    obtain ⟨p, ws, _, _, _, sf, r2⟩ := r'.freeze
    exact k _ _ _ _ _ r2 (s'.trans sf) q'
  | _ => exact k _ _ _ _ _ r' s' q'
end Px

-- @zip2
-- @frzret copied
namespace Kx
open PySem PySem.Spec PyProof.Rows L2 Fo Px
section
variable {P : Program} {w : World} {K : PySem.W.Frag} {mg : Str → Option Value} {base : Heap}
def dT (t : Cs) : PyData := .str (tx t)
def c_take : Ct := fun as Q => ∃ n m, as = [pen n, .d (.int m)] ∧ 1 ≤ n ∧ 0 < m ∧ m < 1000000 ∧ ∀ r : Nat, (r : Int) < m → Q (.d (.int r)) [pen (n - 1), .d (.int m)]
theorem x_take (T : Top K mg) : FnOk P w K mg base CX0 2 T.f__law_take T.fd__law_take ["pen", "amount"] (spP c_take) := (ok_take T).imp fun vs H Q E h => by
  obtain ⟨F, G, as, Qc, hr, hc, k⟩ := h
  obtain ⟨n, m, rfl, h0, h1, h2, q⟩ := hc
  obtain ⟨n, rfl⟩ : ∃ j, n = j + 1 := ⟨n - 1, by omega⟩
  have hl : vs.length = 2 := by obtain ⟨_, _, r⟩ := hr; exact r.vl.len
  match vs, hl with
  | [v, u], _ =>
    obtain ⟨f, ⟨p, c, rfl, rfl, hp⟩, nf, off, chg⟩ := hr.chgHand
    cases hr.tl.dat
    refine ⟨p, c, n, m, rfl, hp, h1, h2, fun H' r b p' r0 r1 => ?_⟩
    obtain ⟨r, rfl⟩ : ∃ j : Nat, r = (j : Int) := ⟨r.toNat, by omega⟩
    exact k _ _ _ _ _ (RepA.consD (chg H' (APen n) (fun a o m' e => b a o (fun z => m' (z ▸ List.mem_cons_self ..)) e) ⟨p, c, rfl, rfl, p'⟩) (.int _)) (Same.refl _) (q r r1)
def c_open (K : PySem.W.Frag) : Ct := fun as Q => ∃ ns : List Int, as = [.o (AScr K ns)] ∧ ns.length ≤ 63 ∧ Q (pen 1048576) [.o (AScr K ns)]
theorem x_open (T : Top K mg) : FnOk P w K mg base CX0 1 T.f__law_open T.fd__law_open ["script"] (spP (c_open K)) := (ok_open T).imp fun vs H Q E h => by
  obtain ⟨F, G, as, Qc, hr, hc, k⟩ := h
  obtain ⟨ns, rfl, h1, q⟩ := hc
  have hl : vs.length = 1 := by obtain ⟨_, _, r⟩ := hr; exact r.vl.len
  match vs, hl with
  | [v], _ =>
    obtain ⟨f, ⟨a, rfl, rfl, hs⟩, nf, off, chg⟩ := hr.chgHand
    refine ⟨a, ns, rfl, hr.lf.seq hs, h1, fun p c H' np nc s pn => ?_⟩
    obtain ⟨cs, n, l, g1, g2, g3, g4, g5⟩ := id pn
    refine k _ _ _ _ _ (RepA.new (f := [p, c]) hr s (fun a m => ?_) (List.nodup_cons.mpr ⟨fun m => g5 (List.mem_singleton.mp m).symm, List.nodup_cons.mpr ⟨fun m => (nomatch m), .nil⟩⟩) (.o (A := APen 1048576) ⟨p, c, rfl, rfl, pn⟩)) (Same.refl _) q
    rcases List.mem_cons.mp m with rfl | m
    · exact np
    · rw [List.mem_singleton.mp m]
      exact nc
theorem RepA.two {F G H : Hp} {vs : List V} {as : List PV} (hr : RepA F G H [] [] vs as) (k : as.length = 2) : ∃ v u, vs = [v, u] := by
  have hl : vs.length = 2 := by obtain ⟨_, _, r⟩ := hr; rw [r.vl.len]; exact k
  match vs, hl with
  | [v, u], _ => exact ⟨v, u, rfl⟩
def c_sameD : Ct := fun as Q => ∃ d : PyData, as = [.d d, .d d] ∧ SD 10 d ∧ Q (.d (.bool true)) [.d d, .d d]
theorem x_sameD (T : Top K mg) : FnOk P w K mg base CX0 10 T.f__law_same T.fd__law_same ["found", "due"] (spP c_sameD) := (ok_same T 10).imp fun vs H Q E h => by
  obtain ⟨F, G, as, Qc, hr, hc, k⟩ := h
  obtain ⟨d, rfl, sd, q⟩ := hc
  obtain ⟨v, u, rfl⟩ := RepA.two hr rfl
  exact ⟨v, u, d, rfl, Lv.sm hr.lf _ _ hr.dat, Lv.sm hr.lf _ _ hr.tl.dat, sd, fun H' s => dat_of hr k q s (.bl _)⟩
/-! copied -/
def Flat : PyData → Prop
  | .none => True
  | .bool _ => True
  | .int _ => True
  | .str _ => True
  | _ => False
def Flat2 : PyData → Prop
  | .list ds => ds.length ≤ 1000 ∧ ∀ d ∈ ds, Flat d
  | .tuple ds => ds.length ≤ 1000 ∧ ∀ d ∈ ds, Flat d
  | d => Flat d
theorem Flat.two {d : PyData} (h : Flat d) : Flat2 d := by
  cases d <;> first | exact h | exact h.elim
def c_cp0 : Ct := fun as Q => ∃ d, as = [.d d] ∧ Flat d ∧ Q (.d d) [.un]
def c_copied : Ct := fun as Q => ∃ d, as = [.d d] ∧ Flat2 d ∧ Q (.d d) [.un]
theorem fn_never {k : Nat} {f : Addr} {fd : FuncData} {ps : List Str} : FnOk P w K mg base CX0 k f fd ps (spP fun _ _ => False) :=
  ⟨fun vs H Q E h => by obtain ⟨_, _, _, _, _, z, _⟩ := h; exact z.elim, fun A outer s H args us vs Q E hr e0 hb r h => by obtain ⟨_, _, _, _, _, z, _⟩ := h; exact z.elim⟩
theorem x_cp0 (T : Top K mg) : FnOk P w K mg base CX0 1 T.f_copied T.fd_copied ["thing"] (spP c_cp0) := by
  have G_copied := fn_never (P := P) (w := w) (K := K) (mg := mg) (base := base) (k := 0) (f := T.f_copied) (fd := T.fd_copied) (ps := ["thing"])
  refine okP T.F_copied sc_copied [false] rfl (by decide) (fun as Q h => by obtain ⟨d, rfl, _⟩ := h; rfl) (fun cdv A outer s H E hr => ⟨_, (xs_cons (xs_if (xt_val (x_cb (sim_two sim_isi) (pe_callB (kIsi K rfl) (by rfl) T.m_isinstance (by decide +kernel) (xa_cons (x_var (pv 0)) (xa_cons (x_ty (pe_bltn (v := .ty "list") (by rfl) T.m_list (by decide +kernel) rfl)) xa_nil))))) (xs_one (xs_ret (ps_ret (x_frzR (x_lc0 (pe_lc (own := [("part", 1)]) (tt := tYes) rfl sc_copied.nd (xi_val K rfl (x_var (pv 0))) (blkOk_by (N := ["thing", "part", "key"]) (sc := (defScope s_copied)) (by decide +kernel)) (fun _ _ _ _ _ => (xg_name rfl (pg_name (i := 1) sc_copied.nd rfl (Or.inl rfl)))) (fun _ _ _ _ _ => pts_nil) (fun _ _ _ _ _ => (x_call .nil (pe_call G_copied (hr.mono (by first | decide | omega)) (by rfl) T.g_copied T.F_copied.kp T.b_copied .nil pass0 (xa_cons (x_var (pv 1)) xa_nil)))))))))) xs_nil)
    (xs_cons (xs_if (xt_val (x_cb (sim_two sim_isi) (pe_callB (kIsi K rfl) (by rfl) T.m_isinstance (by decide +kernel) (xa_cons (x_var (pv 0)) (xa_cons (x_ty (pe_bltn (v := .ty "tuple") (by rfl) T.m_tuple (by decide +kernel) rfl)) xa_nil))))) (xs_one (xs_ret (ps_ret (x_frzR (x_cb (sim_one sim_tuple) (pe_callTy (kTuple K rfl) (by rfl) T.m_tuple (by decide +kernel) (xa_cons (x_lc0 (pe_lc (own := [("part", 1)]) (tt := tYes) rfl sc_copied.nd (xi_val K rfl (x_var (pv 0))) (blkOk_by (N := ["thing", "part", "key"]) (sc := (defScope s_copied)) (by decide +kernel)) (fun _ _ _ _ _ => (xg_name rfl (pg_name (i := 1) sc_copied.nd rfl (Or.inl rfl)))) (fun _ _ _ _ _ => pts_nil) (fun _ _ _ _ _ => (x_call .nil (pe_call G_copied (hr.mono (by first | decide | omega)) (by rfl) T.g_copied T.F_copied.kp T.b_copied .nil pass0 (xa_cons (x_var (pv 1)) xa_nil)))))) xa_nil))))))) xs_nil)
    (xs_cons (xs_if (xt_val (x_cb (sim_two sim_isi) (pe_callB (kIsi K rfl) (by rfl) T.m_isinstance (by decide +kernel) (xa_cons (x_var (pv 0)) (xa_cons (x_ty (pe_bltn (v := .ty "dict") (by rfl) T.m_dict (by decide +kernel) rfl)) xa_nil))))) (xs_one (xs_ret (ps_ret (x_frzR x_never)))) xs_nil)
    (xs_one (xs_ret (ps_ret (x_frzR (x_var (pv 0))))))))), fun as Qc hc => ?_⟩)
  obtain ⟨d, rfl, hd, q⟩ := hc
  cases d with
  | none =>
    ((conv => whnf); repeat ((first | refine ⟨_, rfl, ?_⟩ | refine ⟨Nat.le_of_ble_eq_true rfl, ?_⟩ | refine ⟨rfl, ?_⟩ | refine ⟨_, _, rfl, rfl, ?_⟩ | refine ⟨_, _, _, _, rfl, rfl, rfl, ?_⟩); conv => whnf))
    exact q
  | bool b =>
    ((conv => whnf); repeat ((first | refine ⟨_, rfl, ?_⟩ | refine ⟨Nat.le_of_ble_eq_true rfl, ?_⟩ | refine ⟨rfl, ?_⟩ | refine ⟨_, _, rfl, rfl, ?_⟩ | refine ⟨_, _, _, _, rfl, rfl, rfl, ?_⟩); conv => whnf))
    exact q
  | int i =>
    ((conv => whnf); repeat ((first | refine ⟨_, rfl, ?_⟩ | refine ⟨Nat.le_of_ble_eq_true rfl, ?_⟩ | refine ⟨rfl, ?_⟩ | refine ⟨_, _, rfl, rfl, ?_⟩ | refine ⟨_, _, _, _, rfl, rfl, rfl, ?_⟩); conv => whnf))
    exact q
  | str z =>
    ((conv => whnf); repeat ((first | refine ⟨_, rfl, ?_⟩ | refine ⟨Nat.le_of_ble_eq_true rfl, ?_⟩ | refine ⟨rfl, ?_⟩ | refine ⟨_, _, rfl, rfl, ?_⟩ | refine ⟨_, _, _, _, rfl, rfl, rfl, ?_⟩); conv => whnf))
    exact q
  | _ => exact hd.elim
theorem x_copied (T : Top K mg) : FnOk P w K mg base CX0 2 T.f_copied T.fd_copied ["thing"] (spP c_copied) := by
  have G_copied := x_cp0 (P := P) (w := w) (base := base) T
  refine okP T.F_copied sc_copied [false] rfl (by decide) (fun as Q h => by obtain ⟨d, rfl, _⟩ := h; rfl) (fun cdv A outer s H E hr => ⟨_, (xs_cons (xs_if (xt_val (x_cb (sim_two sim_isi) (pe_callB (kIsi K rfl) (by rfl) T.m_isinstance (by decide +kernel) (xa_cons (x_var (pv 0)) (xa_cons (x_ty (pe_bltn (v := .ty "list") (by rfl) T.m_list (by decide +kernel) rfl)) xa_nil))))) (xs_one (xs_ret (ps_ret (x_frzR (x_lc0 (pe_lc (own := [("part", 1)]) (tt := tYes) rfl sc_copied.nd (xi_val K rfl (x_var (pv 0))) (blkOk_by (N := ["thing", "part", "key"]) (sc := (defScope s_copied)) (by decide +kernel)) (fun _ _ _ _ _ => (xg_name rfl (pg_name (i := 1) sc_copied.nd rfl (Or.inl rfl)))) (fun _ _ _ _ _ => pts_nil) (fun _ _ _ _ _ => (x_call .nil (pe_call G_copied (hr.mono (by first | decide | omega)) (by rfl) T.g_copied T.F_copied.kp T.b_copied .nil pass0 (xa_cons (x_var (pv 1)) xa_nil)))))))))) xs_nil)
    (xs_cons (xs_if (xt_val (x_cb (sim_two sim_isi) (pe_callB (kIsi K rfl) (by rfl) T.m_isinstance (by decide +kernel) (xa_cons (x_var (pv 0)) (xa_cons (x_ty (pe_bltn (v := .ty "tuple") (by rfl) T.m_tuple (by decide +kernel) rfl)) xa_nil))))) (xs_one (xs_ret (ps_ret (x_frzR (x_cb (sim_one sim_tuple) (pe_callTy (kTuple K rfl) (by rfl) T.m_tuple (by decide +kernel) (xa_cons (x_lc0 (pe_lc (own := [("part", 1)]) (tt := tYes) rfl sc_copied.nd (xi_val K rfl (x_var (pv 0))) (blkOk_by (N := ["thing", "part", "key"]) (sc := (defScope s_copied)) (by decide +kernel)) (fun _ _ _ _ _ => (xg_name rfl (pg_name (i := 1) sc_copied.nd rfl (Or.inl rfl)))) (fun _ _ _ _ _ => pts_nil) (fun _ _ _ _ _ => (x_call .nil (pe_call G_copied (hr.mono (by first | decide | omega)) (by rfl) T.g_copied T.F_copied.kp T.b_copied .nil pass0 (xa_cons (x_var (pv 1)) xa_nil)))))) xa_nil))))))) xs_nil)
    (xs_cons (xs_if (xt_val (x_cb (sim_two sim_isi) (pe_callB (kIsi K rfl) (by rfl) T.m_isinstance (by decide +kernel) (xa_cons (x_var (pv 0)) (xa_cons (x_ty (pe_bltn (v := .ty "dict") (by rfl) T.m_dict (by decide +kernel) rfl)) xa_nil))))) (xs_one (xs_ret (ps_ret (x_frzR x_never)))) xs_nil)
    (xs_one (xs_ret (ps_ret (x_frzR (x_var (pv 0))))))))), fun as Qc hc => ?_⟩)
  obtain ⟨d, rfl, hd, q⟩ := hc
  cases d with
  | none =>
    ((conv => whnf); repeat ((first | refine ⟨_, rfl, ?_⟩ | refine ⟨Nat.le_of_ble_eq_true rfl, ?_⟩ | refine ⟨rfl, ?_⟩ | refine ⟨_, _, rfl, rfl, ?_⟩ | refine ⟨_, _, _, _, rfl, rfl, rfl, ?_⟩); conv => whnf))
    exact q
  | bool b =>
    ((conv => whnf); repeat ((first | refine ⟨_, rfl, ?_⟩ | refine ⟨Nat.le_of_ble_eq_true rfl, ?_⟩ | refine ⟨rfl, ?_⟩ | refine ⟨_, _, rfl, rfl, ?_⟩ | refine ⟨_, _, _, _, rfl, rfl, rfl, ?_⟩); conv => whnf))
    exact q
  | int i =>
    ((conv => whnf); repeat ((first | refine ⟨_, rfl, ?_⟩ | refine ⟨Nat.le_of_ble_eq_true rfl, ?_⟩ | refine ⟨rfl, ?_⟩ | refine ⟨_, _, rfl, rfl, ?_⟩ | refine ⟨_, _, _, _, rfl, rfl, rfl, ?_⟩); conv => whnf))
    exact q
  | str z =>
    ((conv => whnf); repeat ((first | refine ⟨_, rfl, ?_⟩ | refine ⟨Nat.le_of_ble_eq_true rfl, ?_⟩ | refine ⟨rfl, ?_⟩ | refine ⟨_, _, rfl, rfl, ?_⟩ | refine ⟨_, _, _, _, rfl, rfl, rfl, ?_⟩); conv => whnf))
    exact q
  | list ds =>
    ((conv => whnf); repeat ((first | refine ⟨_, rfl, ?_⟩ | refine ⟨Nat.le_of_ble_eq_true rfl, ?_⟩ | refine ⟨rfl, ?_⟩ | refine ⟨_, _, rfl, rfl, ?_⟩ | refine ⟨_, _, _, _, rfl, rfl, rfl, ?_⟩); conv => whnf))
    refine lc_map (fun d => d) (by have := hd.1; omega) (fun d hd2 R hR => ?_) ?_
    · ((conv => whnf); repeat ((first | refine ⟨_, rfl, ?_⟩ | refine ⟨Nat.le_of_ble_eq_true rfl, ?_⟩ | refine ⟨rfl, ?_⟩ | refine ⟨_, _, rfl, rfl, ?_⟩ | refine ⟨_, _, _, _, rfl, rfl, rfl, ?_⟩); conv => whnf))
      exact ⟨hd.2 d hd2, hR _ rfl⟩
    · rw [List.map_id']
      ((conv => whnf); repeat ((first | refine ⟨_, rfl, ?_⟩ | refine ⟨Nat.le_of_ble_eq_true rfl, ?_⟩ | refine ⟨rfl, ?_⟩ | refine ⟨_, _, rfl, rfl, ?_⟩ | refine ⟨_, _, _, _, rfl, rfl, rfl, ?_⟩); conv => whnf))
      exact q
  | tuple ds =>
    ((conv => whnf); repeat ((first | refine ⟨_, rfl, ?_⟩ | refine ⟨Nat.le_of_ble_eq_true rfl, ?_⟩ | refine ⟨rfl, ?_⟩ | refine ⟨_, _, rfl, rfl, ?_⟩ | refine ⟨_, _, _, _, rfl, rfl, rfl, ?_⟩); conv => whnf))
    refine lc_map (fun d => d) (by have := hd.1; omega) (fun d hd2 R hR => ?_) ?_
    · ((conv => whnf); repeat ((first | refine ⟨_, rfl, ?_⟩ | refine ⟨Nat.le_of_ble_eq_true rfl, ?_⟩ | refine ⟨rfl, ?_⟩ | refine ⟨_, _, rfl, rfl, ?_⟩ | refine ⟨_, _, _, _, rfl, rfl, rfl, ?_⟩); conv => whnf))
      exact ⟨hd.2 d hd2, hR _ rfl⟩
    · rw [List.map_id']
      ((conv => whnf); repeat ((first | refine ⟨_, rfl, ?_⟩ | refine ⟨Nat.le_of_ble_eq_true rfl, ?_⟩ | refine ⟨rfl, ?_⟩ | refine ⟨_, _, rfl, rfl, ?_⟩ | refine ⟨_, _, _, _, rfl, rfl, rfl, ?_⟩); conv => whnf))
      exact q
  | _ => exact hd.elim
end
end Kx

namespace Kx
open PySem PySem.Spec PyProof.Rows L2 Fo Px
section
variable {P : Program} {w : World} {K : PySem.W.Frag} {mg : Str → Option Value} {base : Heap}
theorem spI_len {C : Addr} {f : Str} {ok : Cpy} : ∀ vs H Q E, spI C f ok vs H Q E → vs.length = 2 := fun vs H Q E h => by
  obtain ⟨e, v, x, F, G, rfl, _⟩ := h
  rfl
theorem spI_fst {C : Addr} {f : Str} {ok : Cpy} : ∀ vs H Q E, spI C f ok vs H Q E → ∃ e, vs[0]? = some (.ref e) ∧ H e = some (exo e C none) := fun vs H Q E h => by
  obtain ⟨e, v, x, F, G, rfl, hr, _, hG, _⟩ := h
  obtain ⟨_, _, r⟩ := hr
  exact ⟨e, rfl, r.lg _ _ hG⟩
theorem spI_run {C : Addr} {f : Str} {ok : Cpy} {N : List Str} {vs : List V} {H : Hp} {Q : VK} {E : XK} (hok : ∀ x, ok x → Flat2 x) (T : OexC K C) (hno : PySem.W.findIn K (.ref C) f = some none) (hN : N.length = 2) (h : spI C f ok vs H Q E) :
    tOst K f (tVar 0) (rw (callF c_copied [] (consA (nameX 1) nilA))) { nx := fun _ H' => Q .non H', rt := Q } (L2.start N vs) H := by
  obtain ⟨e, v, x, F, G, rfl, hr, hx, hG, k⟩ := h
  have lv := hr.dat
  obtain ⟨fv, fs, r⟩ := hr
  have eσ : L2.start N [.ref e, v] = [some (.ref e), some v] := by
    unfold L2.start
    rw [hN]
    rfl
  rw [eσ]
  have rep : Rep F G H [some (.ref e), some v] [.un, .d x] := ⟨[], [], r.lf, r.lg, .un (.cons (f := []) (.d lv) .nil), .nil, List.nodup_nil, (fun a m => nomatch m), r.dj⟩
  refine ⟨F, G, [.un, .d x], _, rep, (show callF c_copied [] (consA (nameX 1) nilA) [.un, .d x] (fun r S => r = .d x) from ⟨x, rfl, hok x hx, rfl⟩), fun v' r' S' F' H' hr' s' q' => ?_⟩
  subst q'
  obtain ⟨fv', fs', r2⟩ := id hr'
  have lv' := hr'.dat
  have he : H' e = some (exo e C none) := r2.lg _ _ hG
  refine ⟨_, rfl, e, C, rfl, T, hno, .inl ⟨he, fun dx hdx ne => k F' H' v' dx ?_ s' hdx ne⟩⟩
  exact ⟨[], [], r2.lf, r2.lg, .nil, RVs.cons (f := []) (.d lv') .nil, List.nodup_nil, (fun a m => nomatch m), r2.dj⟩

theorem x_iNoWord (T : Top K mg) (hP : POk P T.fl) : FnOk P w K mg base CX0 4 T.f_NoWord T.fd_NoWord ["self", "hole"] (spI T.C_NoWord "hole" Flat2) := by
  have G_copied := x_copied (P := P) (w := w) (base := base) T
  exact fn_sup (k := 3) hP T.S_NoWord sc_NoWord T.m_super spI_len rfl spI_fst (fun L => rfl) (fun env => rfl) fun A outer s H vs Q E hr h =>
    ⟨_, pss_one (kOst K rfl (ps_ost (pv 0) (x_call .nil (pe_call G_copied (hr.mono (by decide)) (by rfl) T.g_copied T.F_copied.kp T.b_copied .nil pass0 (xa_cons (x_var (pv 1)) xa_nil))))), spI_run (fun x z => z) T.E_NoWord.oex T.n_NoWord rfl h⟩
theorem x_iNoName (T : Top K mg) (hP : POk P T.fl) : FnOk P w K mg base CX0 4 T.f_NoName T.fd_NoName ["self", "name"] (spI T.C_NoName "name" Flat2) := by
  have G_copied := x_copied (P := P) (w := w) (base := base) T
  exact fn_sup (k := 3) hP T.S_NoName sc_NoName T.m_super spI_len rfl spI_fst (fun L => rfl) (fun env => rfl) fun A outer s H vs Q E hr h =>
    ⟨_, pss_one (kOst K rfl (ps_ost (pv 0) (x_call .nil (pe_call G_copied (hr.mono (by decide)) (by rfl) T.g_copied T.F_copied.kp T.b_copied .nil pass0 (xa_cons (x_var (pv 1)) xa_nil))))), spI_run (fun x z => z) T.E_NoName.oex T.n_NoName rfl h⟩
theorem x_iTaken (T : Top K mg) (hP : POk P T.fl) : FnOk P w K mg base CX0 4 T.f_Taken T.fd_Taken ["self", "name"] (spI T.C_Taken "name" Flat2) := by
  have G_copied := x_copied (P := P) (w := w) (base := base) T
  exact fn_sup (k := 3) hP T.S_Taken sc_Taken T.m_super spI_len rfl spI_fst (fun L => rfl) (fun env => rfl) fun A outer s H vs Q E hr h =>
    ⟨_, pss_one (kOst K rfl (ps_ost (pv 0) (x_call .nil (pe_call G_copied (hr.mono (by decide)) (by rfl) T.g_copied T.F_copied.kp T.b_copied .nil pass0 (xa_cons (x_var (pv 1)) xa_nil))))), spI_run (fun x z => z) T.E_Taken.oex T.n_Taken rfl h⟩
theorem x_iHeld (T : Top K mg) (hP : POk P T.fl) : FnOk P w K mg base CX0 4 T.f_Held T.fd_Held ["self", "name"] (spI T.C_Held "name" Flat2) := by
  have G_copied := x_copied (P := P) (w := w) (base := base) T
  exact fn_sup (k := 3) hP T.S_Held sc_Held T.m_super spI_len rfl spI_fst (fun L => rfl) (fun env => rfl) fun A outer s H vs Q E hr h =>
    ⟨_, pss_one (kOst K rfl (ps_ost (pv 0) (x_call .nil (pe_call G_copied (hr.mono (by decide)) (by rfl) T.g_copied T.F_copied.kp T.b_copied .nil pass0 (xa_cons (x_var (pv 1)) xa_nil))))), spI_run (fun x z => z) T.E_Held.oex T.n_Held rfl h⟩
theorem x_iFull (T : Top K mg) (hP : POk P T.fl) : FnOk P w K mg base CX0 4 T.f_Full T.fd_Full ["self", "most"] (spI T.C_Full "most" Flat2) := by
  have G_copied := x_copied (P := P) (w := w) (base := base) T
  exact fn_sup (k := 3) hP T.S_Full sc_Full T.m_super spI_len rfl spI_fst (fun L => rfl) (fun env => rfl) fun A outer s H vs Q E hr h =>
    ⟨_, pss_one (kOst K rfl (ps_ost (pv 0) (x_call .nil (pe_call G_copied (hr.mono (by decide)) (by rfl) T.g_copied T.F_copied.kp T.b_copied .nil pass0 (xa_cons (x_var (pv 1)) xa_nil))))), spI_run (fun x z => z) T.E_Full.oex T.n_Full rfl h⟩
end
end Kx

-- @zip2
-- @frzret _law_kinds
-- @classes
-- @err _law_kinds one
-- @err law one
-- @errs law some
namespace Kx
open PySem PySem.Spec PyProof.Rows L2 Fo Px
section
variable {P : Program} {w : World} {K : PySem.W.Frag} {mg : Str → Option Value} {base : Heap}
def Top.Cs (T : Top K mg) : List Addr := [T.C_NoWord, T.C_NoName, T.C_Taken, T.C_Held, T.C_Full, T.C_NoWay, T.C_NoHole, T.C_NoNumber, T.C_NoBook, T.C_NoGuide, T.C_NoReader, T.C_NoWeb, T.C_NoFrame]
def kindsD (i : Nat) : PyData := .list ((List.range 13).map fun j => .bool (i == j))
def c_kinds (T : Top K mg) : Ct := fun as Q => ∃ (i : Nat) (e : Er), as = [.o (AE e)] ∧ i < 13 ∧ e.1 = T.Cs.getD i 0 ∧ ExcC K e.1 ∧ Q (.d (kindsD i)) [.un]
theorem x_kinds (T : Top K mg) : FnOk P w K mg base CX0 1 T.f__law_kinds T.fd__law_kinds ["one"] (spP (c_kinds T)) := by
  refine okP T.F__law_kinds sc__law_kinds [false] rfl (by decide) (fun as Q h => by obtain ⟨i, e, rfl, _⟩ := h; rfl) (fun cdv A outer s H E hr => ⟨_, (xs_cons (xs_set rfl (ps_set (i := 1) sc__law_kinds.nd rfl (Or.inl rfl) (x_lst (pe_lstN (xa_cons (x_isX (K := K) (c := (.ref T.C_NoWord)) (cv := (.ref T.C_NoWord)) (fun _ h => h) (pe_callB (kIsX K rfl) (by rfl) T.m_isinstance (by decide +kernel) (pa_cons (pv 0) (pa_cons (pe_glob (v := .ref T.C_NoWord) (by rfl) T.g_NoWord rfl) pa_nil)))) (xa_cons (x_isX (K := K) (c := (.ref T.C_NoName)) (cv := (.ref T.C_NoName)) (fun _ h => h) (pe_callB (kIsX K rfl) (by rfl) T.m_isinstance (by decide +kernel) (pa_cons (pv 0) (pa_cons (pe_glob (v := .ref T.C_NoName) (by rfl) T.g_NoName rfl) pa_nil)))) (xa_cons (x_isX (K := K) (c := (.ref T.C_Taken)) (cv := (.ref T.C_Taken)) (fun _ h => h) (pe_callB (kIsX K rfl) (by rfl) T.m_isinstance (by decide +kernel) (pa_cons (pv 0) (pa_cons (pe_glob (v := .ref T.C_Taken) (by rfl) T.g_Taken rfl) pa_nil)))) (xa_cons (x_isX (K := K) (c := (.ref T.C_Held)) (cv := (.ref T.C_Held)) (fun _ h => h) (pe_callB (kIsX K rfl) (by rfl) T.m_isinstance (by decide +kernel) (pa_cons (pv 0) (pa_cons (pe_glob (v := .ref T.C_Held) (by rfl) T.g_Held rfl) pa_nil)))) xa_nil))))))))
    (xs_cons (xs_set rfl (ps_set (i := 1) sc__law_kinds.nd rfl (Or.inl rfl) (x_op sim_add op_addG (x_var (pv 1)) (x_lst (pe_lstN (xa_cons (x_isX (K := K) (c := (.ref T.C_Full)) (cv := (.ref T.C_Full)) (fun _ h => h) (pe_callB (kIsX K rfl) (by rfl) T.m_isinstance (by decide +kernel) (pa_cons (pv 0) (pa_cons (pe_glob (v := .ref T.C_Full) (by rfl) T.g_Full rfl) pa_nil)))) (xa_cons (x_isX (K := K) (c := (.ref T.C_NoWay)) (cv := (.ref T.C_NoWay)) (fun _ h => h) (pe_callB (kIsX K rfl) (by rfl) T.m_isinstance (by decide +kernel) (pa_cons (pv 0) (pa_cons (pe_glob (v := .ref T.C_NoWay) (by rfl) T.g_NoWay rfl) pa_nil)))) (xa_cons (x_isX (K := K) (c := (.ref T.C_NoHole)) (cv := (.ref T.C_NoHole)) (fun _ h => h) (pe_callB (kIsX K rfl) (by rfl) T.m_isinstance (by decide +kernel) (pa_cons (pv 0) (pa_cons (pe_glob (v := .ref T.C_NoHole) (by rfl) T.g_NoHole rfl) pa_nil)))) (xa_cons (x_isX (K := K) (c := (.ref T.C_NoNumber)) (cv := (.ref T.C_NoNumber)) (fun _ h => h) (pe_callB (kIsX K rfl) (by rfl) T.m_isinstance (by decide +kernel) (pa_cons (pv 0) (pa_cons (pe_glob (v := .ref T.C_NoNumber) (by rfl) T.g_NoNumber rfl) pa_nil)))) xa_nil)))))))))
    (xs_cons (xs_set rfl (ps_set (i := 1) sc__law_kinds.nd rfl (Or.inl rfl) (x_op sim_add op_addG (x_var (pv 1)) (x_lst (pe_lstN (xa_cons (x_isX (K := K) (c := (.ref T.C_NoBook)) (cv := (.ref T.C_NoBook)) (fun _ h => h) (pe_callB (kIsX K rfl) (by rfl) T.m_isinstance (by decide +kernel) (pa_cons (pv 0) (pa_cons (pe_glob (v := .ref T.C_NoBook) (by rfl) T.g_NoBook rfl) pa_nil)))) (xa_cons (x_isX (K := K) (c := (.ref T.C_NoGuide)) (cv := (.ref T.C_NoGuide)) (fun _ h => h) (pe_callB (kIsX K rfl) (by rfl) T.m_isinstance (by decide +kernel) (pa_cons (pv 0) (pa_cons (pe_glob (v := .ref T.C_NoGuide) (by rfl) T.g_NoGuide rfl) pa_nil)))) (xa_cons (x_isX (K := K) (c := (.ref T.C_NoReader)) (cv := (.ref T.C_NoReader)) (fun _ h => h) (pe_callB (kIsX K rfl) (by rfl) T.m_isinstance (by decide +kernel) (pa_cons (pv 0) (pa_cons (pe_glob (v := .ref T.C_NoReader) (by rfl) T.g_NoReader rfl) pa_nil)))) xa_nil))))))))
    (xs_one (xs_ret (ps_ret (x_frzR (x_op sim_add op_addG (x_var (pv 1)) (x_lst (pe_lstN (xa_cons (x_isX (K := K) (c := (.ref T.C_NoWeb)) (cv := (.ref T.C_NoWeb)) (fun _ h => h) (pe_callB (kIsX K rfl) (by rfl) T.m_isinstance (by decide +kernel) (pa_cons (pv 0) (pa_cons (pe_glob (v := .ref T.C_NoWeb) (by rfl) T.g_NoWeb rfl) pa_nil)))) (xa_cons (x_isX (K := K) (c := (.ref T.C_NoFrame)) (cv := (.ref T.C_NoFrame)) (fun _ h => h) (pe_callB (kIsX K rfl) (by rfl) T.m_isinstance (by decide +kernel) (pa_cons (pv 0) (pa_cons (pe_glob (v := .ref T.C_NoFrame) (by rfl) T.g_NoFrame rfl) pa_nil)))) xa_nil)))))))))))), fun as Qc hc => ?_⟩)
  obtain ⟨i, e, rfl, hi, he, E, q⟩ := hc
  obtain ⟨C, fld⟩ := e
  have he : C = T.Cs.getD i 0 := he
  have E : ExcC K C := E
  obtain ⟨_, _, k⟩ := kinds_of T.kinds (i := i) (by exact hi)
  have k : ∀ j, j < 13 → PySem.W.kitOne K (.ref C) (.ref (T.Cs.getD j 0)) = some (i == j) := fun j hj => by rw [he]; exact k j hj
  ((conv => whnf); repeat ((first | refine ⟨_, rfl, ?_⟩ | refine ⟨Nat.le_of_ble_eq_true rfl, ?_⟩ | refine ⟨rfl, ?_⟩ | refine ⟨_, _, rfl, rfl, ?_⟩ | refine ⟨_, _, _, _, rfl, rfl, rfl, ?_⟩); conv => whnf))
  refine ⟨_, _, rfl, E, k 0 (by decide), ?_⟩
  ((conv => whnf); repeat ((first | refine ⟨_, rfl, ?_⟩ | refine ⟨Nat.le_of_ble_eq_true rfl, ?_⟩ | refine ⟨rfl, ?_⟩ | refine ⟨_, _, rfl, rfl, ?_⟩ | refine ⟨_, _, _, _, rfl, rfl, rfl, ?_⟩); conv => whnf))
  refine ⟨_, _, rfl, E, k 1 (by decide), ?_⟩
  ((conv => whnf); repeat ((first | refine ⟨_, rfl, ?_⟩ | refine ⟨Nat.le_of_ble_eq_true rfl, ?_⟩ | refine ⟨rfl, ?_⟩ | refine ⟨_, _, rfl, rfl, ?_⟩ | refine ⟨_, _, _, _, rfl, rfl, rfl, ?_⟩); conv => whnf))
  refine ⟨_, _, rfl, E, k 2 (by decide), ?_⟩
  ((conv => whnf); repeat ((first | refine ⟨_, rfl, ?_⟩ | refine ⟨Nat.le_of_ble_eq_true rfl, ?_⟩ | refine ⟨rfl, ?_⟩ | refine ⟨_, _, rfl, rfl, ?_⟩ | refine ⟨_, _, _, _, rfl, rfl, rfl, ?_⟩); conv => whnf))
  refine ⟨_, _, rfl, E, k 3 (by decide), ?_⟩
  ((conv => whnf); repeat ((first | refine ⟨_, rfl, ?_⟩ | refine ⟨Nat.le_of_ble_eq_true rfl, ?_⟩ | refine ⟨rfl, ?_⟩ | refine ⟨_, _, rfl, rfl, ?_⟩ | refine ⟨_, _, _, _, rfl, rfl, rfl, ?_⟩); conv => whnf))
  refine ⟨_, _, rfl, E, k 4 (by decide), ?_⟩
  ((conv => whnf); repeat ((first | refine ⟨_, rfl, ?_⟩ | refine ⟨Nat.le_of_ble_eq_true rfl, ?_⟩ | refine ⟨rfl, ?_⟩ | refine ⟨_, _, rfl, rfl, ?_⟩ | refine ⟨_, _, _, _, rfl, rfl, rfl, ?_⟩); conv => whnf))
  refine ⟨_, _, rfl, E, k 5 (by decide), ?_⟩
  ((conv => whnf); repeat ((first | refine ⟨_, rfl, ?_⟩ | refine ⟨Nat.le_of_ble_eq_true rfl, ?_⟩ | refine ⟨rfl, ?_⟩ | refine ⟨_, _, rfl, rfl, ?_⟩ | refine ⟨_, _, _, _, rfl, rfl, rfl, ?_⟩); conv => whnf))
  refine ⟨_, _, rfl, E, k 6 (by decide), ?_⟩
  ((conv => whnf); repeat ((first | refine ⟨_, rfl, ?_⟩ | refine ⟨Nat.le_of_ble_eq_true rfl, ?_⟩ | refine ⟨rfl, ?_⟩ | refine ⟨_, _, rfl, rfl, ?_⟩ | refine ⟨_, _, _, _, rfl, rfl, rfl, ?_⟩); conv => whnf))
  refine ⟨_, _, rfl, E, k 7 (by decide), ?_⟩
  ((conv => whnf); repeat ((first | refine ⟨_, rfl, ?_⟩ | refine ⟨Nat.le_of_ble_eq_true rfl, ?_⟩ | refine ⟨rfl, ?_⟩ | refine ⟨_, _, rfl, rfl, ?_⟩ | refine ⟨_, _, _, _, rfl, rfl, rfl, ?_⟩); conv => whnf))
  refine ⟨_, _, rfl, E, k 8 (by decide), ?_⟩
  ((conv => whnf); repeat ((first | refine ⟨_, rfl, ?_⟩ | refine ⟨Nat.le_of_ble_eq_true rfl, ?_⟩ | refine ⟨rfl, ?_⟩ | refine ⟨_, _, rfl, rfl, ?_⟩ | refine ⟨_, _, _, _, rfl, rfl, rfl, ?_⟩); conv => whnf))
  refine ⟨_, _, rfl, E, k 9 (by decide), ?_⟩
  ((conv => whnf); repeat ((first | refine ⟨_, rfl, ?_⟩ | refine ⟨Nat.le_of_ble_eq_true rfl, ?_⟩ | refine ⟨rfl, ?_⟩ | refine ⟨_, _, rfl, rfl, ?_⟩ | refine ⟨_, _, _, _, rfl, rfl, rfl, ?_⟩); conv => whnf))
  refine ⟨_, _, rfl, E, k 10 (by decide), ?_⟩
  ((conv => whnf); repeat ((first | refine ⟨_, rfl, ?_⟩ | refine ⟨Nat.le_of_ble_eq_true rfl, ?_⟩ | refine ⟨rfl, ?_⟩ | refine ⟨_, _, rfl, rfl, ?_⟩ | refine ⟨_, _, _, _, rfl, rfl, rfl, ?_⟩); conv => whnf))
  refine ⟨_, _, rfl, E, k 11 (by decide), ?_⟩
  ((conv => whnf); repeat ((first | refine ⟨_, rfl, ?_⟩ | refine ⟨Nat.le_of_ble_eq_true rfl, ?_⟩ | refine ⟨rfl, ?_⟩ | refine ⟨_, _, rfl, rfl, ?_⟩ | refine ⟨_, _, _, _, rfl, rfl, rfl, ?_⟩); conv => whnf))
  refine ⟨_, _, rfl, E, k 12 (by decide), ?_⟩
  ((conv => whnf); repeat ((first | refine ⟨_, rfl, ?_⟩ | refine ⟨Nat.le_of_ble_eq_true rfl, ?_⟩ | refine ⟨rfl, ?_⟩ | refine ⟨_, _, rfl, rfl, ?_⟩ | refine ⟨_, _, _, _, rfl, rfl, rfl, ?_⟩); conv => whnf))
  exact q
end
end Kx

-- @zip2
-- @classes
-- @err law one
-- @errs law some
namespace Kx
open PySem PySem.Spec PyProof.Rows L2 Fo Px
section
variable {P : Program} {w : World} {K : PySem.W.Frag} {mg : Str → Option Value} {base : Heap}
def thingsL : List PyData := [.none, .str (tx []), .list [.str (tx [97])], .tuple [.str (tx [97]), .int 1], .int 7, .bool true, .str (tx [65])]
theorem things_ok : ∀ d ∈ thingsL, Flat2 d ∧ SD 9 d := by
  intro d hd
  have one : ∀ x ∈ [PyData.str (tx [97])], Flat x ∧ SD 8 x := fun x hx => by rw [List.mem_singleton.mp hx]; exact ⟨trivial, trivial⟩
  have two : ∀ x ∈ [PyData.str (tx [97]), .int 1], Flat x ∧ SD 8 x := fun x hx => by
    rcases List.mem_cons.mp hx with rfl | hx
    · exact ⟨trivial, trivial⟩
    · rw [List.mem_singleton.mp hx]; exact ⟨trivial, trivial⟩
  unfold thingsL at hd
  rcases List.mem_cons.mp hd with rfl | hd
  · exact ⟨trivial, trivial⟩
  rcases List.mem_cons.mp hd with rfl | hd
  · exact ⟨trivial, trivial⟩
  rcases List.mem_cons.mp hd with rfl | hd
  · exact ⟨⟨by decide, fun x hx => (one x hx).1⟩, ⟨by decide, fun x hx => (one x hx).2⟩⟩
  rcases List.mem_cons.mp hd with rfl | hd
  · exact ⟨⟨by decide, fun x hx => (two x hx).1⟩, ⟨by decide, fun x hx => (two x hx).2⟩⟩
  rcases List.mem_cons.mp hd with rfl | hd
  · exact ⟨trivial, trivial⟩
  rcases List.mem_cons.mp hd with rfl | hd
  · exact ⟨trivial, trivial⟩
  rw [List.mem_singleton.mp hd]
  exact ⟨trivial, trivial⟩
theorem text_ok {d : PyData} (h : ∃ z, d = .str z) : Flat2 d ∧ SD 9 d := by
  obtain ⟨z, rfl⟩ := h
  exact ⟨trivial, trivial⟩
theorem text_of {a b c : Str} {d : PyData} (h : d ∈ [PyData.str a, .str b, .str c]) : ∃ z, d = .str z := by
  rcases List.mem_cons.mp h with rfl | h
  · exact ⟨_, rfl⟩
  rcases List.mem_cons.mp h with rfl | h
  · exact ⟨_, rfl⟩
  exact ⟨_, List.mem_singleton.mp h⟩
def errs7 (T : Top K mg) (r : Int) (th nm : PyData) : List Er := [(T.C_NoWord, some ("hole", .int r)), (T.C_NoName, some ("name", th)), (T.C_Taken, some ("name", nm)), (T.C_Held, some ("name", nm)), (T.C_Full, some ("most", .int (8 + r))), (T.C_NoWay, none), (T.C_NoHole, none)]
def errs6 (T : Top K mg) : List Er := [(T.C_NoNumber, none), (T.C_NoBook, none), (T.C_NoGuide, none), (T.C_NoReader, none), (T.C_NoWeb, none), (T.C_NoFrame, none)]
theorem excs (T : Top K mg) : ∀ C ∈ T.Cs, ExcC K C := by
  intro C h
  unfold Top.Cs at h
  rcases List.mem_cons.mp h with rfl | h
  · exact T.E_NoWord.exc
  rcases List.mem_cons.mp h with rfl | h
  · exact T.E_NoName.exc
  rcases List.mem_cons.mp h with rfl | h
  · exact T.E_Taken.exc
  rcases List.mem_cons.mp h with rfl | h
  · exact T.E_Held.exc
  rcases List.mem_cons.mp h with rfl | h
  · exact T.E_Full.exc
  rcases List.mem_cons.mp h with rfl | h
  · exact T.E_NoWay.exc
  rcases List.mem_cons.mp h with rfl | h
  · exact T.E_NoHole.exc
  rcases List.mem_cons.mp h with rfl | h
  · exact T.E_NoNumber.exc
  rcases List.mem_cons.mp h with rfl | h
  · exact T.E_NoBook.exc
  rcases List.mem_cons.mp h with rfl | h
  · exact T.E_NoGuide.exc
  rcases List.mem_cons.mp h with rfl | h
  · exact T.E_NoReader.exc
  rcases List.mem_cons.mp h with rfl | h
  · exact T.E_NoWeb.exc
  rw [List.mem_singleton.mp h]
  exact T.E_NoFrame.exc
theorem errs_at (T : Top K mg) {r : Int} {th nm : PyData} {i : Nat} {e : Er} (h : (errs7 T r th nm ++ errs6 T)[i]? = some e) : i < 13 ∧ e.1 = T.Cs.getD i 0 ∧ ExcC K e.1 := by
  have q : (T.Cs)[i]? = some e.1 := by
    have : (errs7 T r th nm ++ errs6 T).map (·.1) = T.Cs := rfl
    rw [← this, List.getElem?_map, h]
    rfl
  obtain ⟨hi, ei⟩ := List.getElem?_eq_some_iff.mp q
  refine ⟨hi, ?_, excs T _ (List.mem_of_getElem? q)⟩
  rw [List.getD_eq_getElem?_getD, q]
  rfl
def c_sameF : Ct := fun as Q => ∃ (d : PyData) (x y : PV), as = [x, y] ∧ frzV x = .d d ∧ frzV y = .d d ∧ SD 10 d ∧ Q (.d (.bool true)) [.un, .un]
theorem frz_two {x y : PV} {d d' : PyData} (ex : frzV x = .d d) (ey : frzV y = .d d') : frzA [] [x, y] = ([.d d, .d d'], []) := by
  cases x <;> cases ex <;> cases y <;> cases ey <;> rfl
theorem x_sameF (T : Top K mg) : FnOk P w K mg base CX0 10 T.f__law_same T.fd__law_same ["found", "due"] (spP c_sameF) := (x_sameD T).imp fun vs H Q E h => by
  obtain ⟨F, G, as, Qc, hr, ⟨d, x, y, rfl, ex, ey, sd, q⟩, k⟩ := h
  obtain ⟨v, u, rfl⟩ := RepA.two hr rfl
  obtain ⟨F2, s2, r2⟩ := hr.frzs
  rw [frz_two ex ey] at r2
  refine ⟨F2, G, [.d d, .d d], fun r as' => r = .d (.bool true), r2, ⟨d, rfl, sd, rfl⟩, fun w' r as' F' H' h1 s1 e1 => ?_⟩
  subst e1
  have lv := h1.dat
  obtain ⟨fv, fs, r3⟩ := h1.rep
  cases r3.vl
  cases r3.sl
  exact k _ _ [.un, .un] F' H' ⟨[], [], r3.lf, r3.lg, .nil, RVs.cons (f := []) (.d lv) (RVs.cons (f := []) (.un v) (RVs.cons (f := []) (.un u) .nil)), List.nodup_nil, (fun a m => nomatch m), r3.dj⟩ (s2.trans s1) q
theorem same_bit {i j : Nat} : (false ^^ decide ((j : Int) = (i : Int))) = (i == j) := by
  rw [Bool.false_xor]
  by_cases h : i = j
  · subst h
    simp
  · have h2 : ¬ ((j : Int) = (i : Int)) := fun z => h (by omega)
    simp [h, h2]
theorem sd_kinds (i : Nat) : SD 10 (kindsD i) := ⟨by show ((List.range 13).map _).length ≤ 50000; rw [List.length_map, List.length_range]; decide, fun d hd => by
  obtain ⟨j, _, rfl⟩ := List.mem_map.mp hd
  exact True.intro⟩
theorem sd_five {a b : Int} {x y : PyData} (hx : SD 9 x) (hy : SD 9 y) : SD 10 (.list [.int a, x, y, y, .int b]) := ⟨by show 5 ≤ 50000; decide, fun d hd => by
  rcases List.mem_cons.mp hd with rfl | hd
  · exact True.intro
  rcases List.mem_cons.mp hd with rfl | hd
  · exact hx
  rcases List.mem_cons.mp hd with rfl | hd
  · exact hy
  rcases List.mem_cons.mp hd with rfl | hd
  · exact hy
  rw [List.mem_singleton.mp hd]
  exact True.intro⟩
theorem pick_at {L : List PyData} {r : Nat} {m : Int} (h : (r : Int) < m) (e : m = (L.length : Nat)) : ∃ d, atI L (r : Int) = some d ∧ d ∈ L := by
  have hr : r < L.length := by omega
  exact ⟨L[r], atI_nat (List.getElem?_eq_getElem hr), List.getElem_mem hr⟩
theorem x_law (T : Top K mg) (hP : POk P T.fl) : FnG P w K mg base CX0 11 T.f_law T.fd_law ["script"] (spP (c_law K)) := by
  have G__law_open := x_open (P := P) (w := w) (base := base) T
  have G__law_take := x_take (P := P) (w := w) (base := base) T
  have G__law_kinds := x_kinds (P := P) (w := w) (base := base) T
  have G__law_same := x_sameF (P := P) (w := w) (base := base) T
  have G_NoWord := x_iNoWord (P := P) (w := w) (base := base) T hP
  have G_NoName := x_iNoName (P := P) (w := w) (base := base) T hP
  have G_Taken := x_iTaken (P := P) (w := w) (base := base) T hP
  have G_Held := x_iHeld (P := P) (w := w) (base := base) T hP
  have G_Full := x_iFull (P := P) (w := w) (base := base) T hP
  refine okG T.F_law sc_law [true] rfl (by decide) (fun as Q h => c_law_len h) (fun cdv A outer s H E hgd hr => ⟨_, (xs_cons (xs_set rfl (ps_set (i := 1) sc_law.nd rfl (Or.inl rfl) (x_call .nil (pe_call G__law_open (hr.mono (by first | decide | omega)) (by rfl) T.g__law_open T.F__law_open.kp T.b__law_open .nil pass0 (xa_cons (x_var (pv 0)) xa_nil)))))
    (xs_cons (xs_for (ps_for PassesOwn.never rfl (xi_rng1 (pi_range1 rfl T.m_range (xa_cons (x_val pe_int (.int _)) xa_nil))) (xg_name rfl (pg_name (i := 2) sc_law.nd rfl (Or.inl rfl))) (xs_cons (xs_par rfl rfl (ps_par (i := 3) (j := 4) rfl sc_law.nd rfl rfl (by decide) rfl rfl (xa_cons (x_ix (K := K) (pe_ix (kIx K rfl) (x_lst (pe_lstN (xa_cons (x_strC (cs := []) pe_str (by decide +kernel)) (xa_cons (x_strC (cs := [97, 32, 119, 111, 114, 100]) pe_str (by decide +kernel)) (xa_cons (x_strC (cs := [110, 111, 110, 101]) pe_str (by decide +kernel)) xa_nil))))) (x_call .nil (pe_call G__law_take (hr.mono (by first | decide | omega)) (by rfl) T.g__law_take T.F__law_take.kp T.b__law_take .nil pass0 (xa_cons (x_var (pv 1)) (xa_cons (x_val pe_int (.int _)) xa_nil)))) (fun _ _ => rfl))) (xa_cons (x_call .nil (pe_call G__law_take (hr.mono (by first | decide | omega)) (by rfl) T.g__law_take T.F__law_take.kp T.b__law_take .nil pass0 (xa_cons (x_var (pv 1)) (xa_cons (x_val pe_int (.int _)) xa_nil)))) xa_nil)) rfl))
    (xs_cons (xs_set rfl (ps_set (i := 5) sc_law.nd rfl (Or.inl rfl) (x_ix (K := K) (pe_ix (kIx K rfl) (x_lst (pe_lstN (xa_cons (x_strC (cs := [97]) pe_str (by decide +kernel)) (xa_cons (x_strC (cs := [119, 101, 98]) pe_str (by decide +kernel)) (xa_cons (x_strC (cs := [122, 122, 122, 122, 122, 122, 122, 122]) pe_str (by decide +kernel)) xa_nil))))) (x_call .nil (pe_call G__law_take (hr.mono (by first | decide | omega)) (by rfl) T.g__law_take T.F__law_take.kp T.b__law_take .nil pass0 (xa_cons (x_var (pv 1)) (xa_cons (x_val pe_int (.int _)) xa_nil)))) (fun _ _ => rfl)))))
    (xs_cons (xs_set rfl (ps_set (i := 6) sc_law.nd rfl (Or.inl rfl) (x_ix (K := K) (pe_ix (kIx K rfl) (x_lst (pe_lstN (xa_cons (x_val pe_non .non) (xa_cons (x_strC (cs := []) pe_str (by decide +kernel)) (xa_cons (x_lst (pe_lstN (xa_cons (x_strC (cs := [97]) pe_str (by decide +kernel)) xa_nil))) (xa_cons (x_tup (pe_tupN (xa_cons (x_strC (cs := [97]) pe_str (by decide +kernel)) (xa_cons (x_val pe_int (.int _)) xa_nil)))) (xa_cons (x_val pe_int (.int _)) (xa_cons (x_val pe_bl (.bl _)) (xa_cons (x_strC (cs := [65]) pe_str (by decide +kernel)) xa_nil))))))))) (x_call .nil (pe_call G__law_take (hr.mono (by first | decide | omega)) (by rfl) T.g__law_take T.F__law_take.kp T.b__law_take .nil pass0 (xa_cons (x_var (pv 1)) (xa_cons (x_val pe_int (.int _)) xa_nil)))) (fun _ _ => rfl)))))
    (xs_cons (xs_set rfl (ps_set (i := 7) sc_law.nd rfl (Or.inl rfl) (x_lstE (pe_lstN (xa_cons (x_newI (pe_newI T.E_NoWord.oex T.i_NoWord T.t_NoWord G_NoWord (hr.mono (by first | decide | omega)) T.b_NoWord (by rfl) T.g_NoWord (xa_cons (x_var (pv 4)) xa_nil))) (xa_cons (x_newI (pe_newI T.E_NoName.oex T.i_NoName T.t_NoName G_NoName (hr.mono (by first | decide | omega)) T.b_NoName (by rfl) T.g_NoName (xa_cons (x_var (pv 6)) xa_nil))) (xa_cons (x_newI (pe_newI T.E_Taken.oex T.i_Taken T.t_Taken G_Taken (hr.mono (by first | decide | omega)) T.b_Taken (by rfl) T.g_Taken (xa_cons (x_var (pv 5)) xa_nil))) (xa_cons (x_newI (pe_newI T.E_Held.oex T.i_Held T.t_Held G_Held (hr.mono (by first | decide | omega)) T.b_Held (by rfl) T.g_Held (xa_cons (x_var (pv 5)) xa_nil))) (xa_cons (x_newI (pe_newI T.E_Full.oex T.i_Full T.t_Full G_Full (hr.mono (by first | decide | omega)) T.b_Full (by rfl) T.g_Full (xa_cons (x_op sim_add op_addG (x_val pe_int (.int _)) (x_var (pv 4))) xa_nil))) (xa_cons (x_newP (pe_newP T.E_NoWay.oex T.i_NoWay (by rfl) T.g_NoWay (xa_cons (x_var (pv 3)) xa_nil))) (xa_cons (x_newP (pe_newP T.E_NoHole.oex T.i_NoHole (by rfl) T.g_NoHole (xa_cons (x_var (pv 3)) xa_nil))) xa_nil)))))))))))
    (xs_cons (xs_set rfl (ps_set (i := 7) sc_law.nd rfl (Or.inl rfl) (x_catE (pe_op op_addG (pv 7) (x_lstE (pe_lstN (xa_cons (x_newP (pe_newP T.E_NoNumber.oex T.i_NoNumber (by rfl) T.g_NoNumber (xa_cons (x_var (pv 3)) xa_nil))) (xa_cons (x_newP (pe_newP T.E_NoBook.oex T.i_NoBook (by rfl) T.g_NoBook (xa_cons (x_var (pv 3)) xa_nil))) (xa_cons (x_newP (pe_newP T.E_NoGuide.oex T.i_NoGuide (by rfl) T.g_NoGuide (xa_cons (x_var (pv 3)) xa_nil))) (xa_cons (x_newP (pe_newP T.E_NoReader.oex T.i_NoReader (by rfl) T.g_NoReader (xa_cons (x_var (pv 3)) xa_nil))) (xa_cons (x_newP (pe_newP T.E_NoWeb.oex T.i_NoWeb (by rfl) T.g_NoWeb (xa_cons (x_var (pv 3)) xa_nil))) (xa_cons (x_newP (pe_newP T.E_NoFrame.oex T.i_NoFrame (by rfl) T.g_NoFrame (xa_cons (x_var (pv 3)) xa_nil))) xa_nil))))))))))))
    (xs_cons (xs_forE (K := K) (ps_for PassesOwn.never rfl (pi_enumA K rfl (by rfl) T.m_enumerate (pa_cons (pv 7) pa_nil)) (xg_tup rfl (kTg K rfl (n := 2) rfl (xgs_cons (xg_name rfl (pg_name (i := 8) sc_law.nd rfl (Or.inr rfl))) (xgs_cons (xg_name rfl (pg_name (i := 9) sc_law.nd rfl (Or.inl rfl))) xgs_nil)))) (xs_cons (xs_if (PW.pt (xw_or (xt_not (xt_val (x_isX (K := K) (c := (.ref T.C_HoleError)) (cv := (.ref T.C_HoleError)) (fun _ h => h) (pe_callB (kIsX K rfl) (by rfl) T.m_isinstance (by decide +kernel) (pa_cons (pv 9) (pa_cons (pe_glob (v := .ref T.C_HoleError) (by rfl) T.g_HoleError rfl) pa_nil)))))) (xw_or1 (xt_not (xt_val (x_isX (K := K) (c := (.ty "ValueError")) (cv := (.type "ValueError")) (fun _ h => h) (pe_callB (kIsX K rfl) (by rfl) T.m_isinstance (by decide +kernel) (pa_cons (pv 9) (pa_cons (pe_bltn (v := .ty "ValueError") (by rfl) T.m_ValueError (by decide +kernel) rfl) pa_nil))))))))) (xs_one (xs_ret (ps_ret (x_val pe_bl (.bl _))))) xs_nil)
    (xs_one (xs_if (xt_not (xt_val (x_call .nil (pe_call G__law_same (hr.mono (by first | decide | omega)) (by rfl) T.g__law_same T.F__law_same.kp T.b__law_same .nil pass0 (xa_cons (x_call .nil (pe_call G__law_kinds (hr.mono (by first | decide | omega)) (by rfl) T.g__law_kinds T.F__law_kinds.kp T.b__law_kinds .nil pass0 (xa_cons (x_var (pv 9)) xa_nil))) (xa_cons (x_lc0 (pe_lc (own := [("j", 11)]) (tt := tYes) rfl sc_law.nd (xi_rng1 (pi_range1 rfl T.m_range (xa_cons (x_val pe_int (.int _)) xa_nil))) (blkOk_by (N := ["script", "pen", "turn", "word", "hole", "name", "thing", "some", "k", "one", "fields", "j"]) (sc := (defScope s_law)) (by decide +kernel)) (fun _ _ _ _ _ => (xg_name rfl (pg_name (i := 11) sc_law.nd rfl (Or.inl rfl)))) (fun _ _ _ _ _ => pts_nil) (fun _ _ _ _ _ => (x_cmp sim_eq (kEq K rfl hr.units) (x_var (pv 11)) (x_var (pv 8)) (nomark _))))) xa_nil)))))) (xs_one (xs_ret (ps_ret (x_val pe_bl (.bl _))))) xs_nil)))))
    (xs_cons (xs_set rfl (ps_set (i := 10) sc_law.nd rfl (Or.inl rfl) (x_lst (pe_lstN (xa_cons (x_fld (K := K) (kFld K rfl (pe_xfld (pe_ix (kIx K rfl) (pv 7) pe_int (fun _ _ => rfl))))) (xa_cons (x_fld (K := K) (kFld K rfl (pe_xfld (pe_ix (kIx K rfl) (pv 7) pe_int (fun _ _ => rfl))))) (xa_cons (x_fld (K := K) (kFld K rfl (pe_xfld (pe_ix (kIx K rfl) (pv 7) pe_int (fun _ _ => rfl))))) (xa_cons (x_fld (K := K) (kFld K rfl (pe_xfld (pe_ix (kIx K rfl) (pv 7) pe_int (fun _ _ => rfl))))) (xa_cons (x_fld (K := K) (kFld K rfl (pe_xfld (pe_ix (kIx K rfl) (pv 7) pe_int (fun _ _ => rfl))))) xa_nil)))))))))
    (xs_one (xs_if (xt_not (xt_val (x_call .nil (pe_call G__law_same (hr.mono (by first | decide | omega)) (by rfl) T.g__law_same T.F__law_same.kp T.b__law_same .nil pass0 (xa_cons (x_var (pv 10)) (xa_cons (x_lst (pe_lstN (xa_cons (x_var (pv 4)) (xa_cons (x_var (pv 6)) (xa_cons (x_var (pv 5)) (xa_cons (x_var (pv 5)) (xa_cons (x_op sim_add op_addG (x_val pe_int (.int _)) (x_var (pv 4))) xa_nil))))))) xa_nil)))))) (xs_one (xs_ret (ps_ret (x_val pe_bl (.bl _))))) xs_nil)))))))))))
    (xs_one (xs_ret (ps_ret (x_val pe_bl (.bl _))))))), fun as Qc hc => ?_⟩)
  obtain ⟨ns, rfl, hns, q⟩ := hc
  ((conv => whnf); repeat ((first | refine ⟨_, rfl, ?_⟩ | refine ⟨Nat.le_of_ble_eq_true rfl, ?_⟩ | refine ⟨rfl, ?_⟩ | refine ⟨_, _, rfl, rfl, ?_⟩ | refine ⟨_, _, _, _, rfl, rfl, rfl, ?_⟩); conv => whnf))
  refine ⟨hns, ?_⟩
  ((conv => whnf); repeat ((first | refine ⟨_, rfl, ?_⟩ | refine ⟨Nat.le_of_ble_eq_true rfl, ?_⟩ | refine ⟨rfl, ?_⟩ | refine ⟨_, _, rfl, rfl, ?_⟩ | refine ⟨_, _, _, _, rfl, rfl, rfl, ?_⟩); conv => whnf))
  refine ⟨by decide, ?_⟩
  ((conv => whnf); repeat ((first | refine ⟨_, rfl, ?_⟩ | refine ⟨Nat.le_of_ble_eq_true rfl, ?_⟩ | refine ⟨rfl, ?_⟩ | refine ⟨_, _, rfl, rfl, ?_⟩ | refine ⟨_, _, _, _, rfl, rfl, rfl, ?_⟩); conv => whnf))
  refine ForR.mk (fun k S => ∃ n y2 y3 y4 y5 y6 y7 y8 y9 y10 y11, 4 * (3 - k) ≤ n ∧ S = [.o (AScr K ns), pen n, y2, y3, y4, y5, y6, y7, y8, y9, y10, y11]) ⟨_, _, _, _, _, _, _, _, _, _, _, by decide, rfl⟩ (fun k x S e j => ?_) (fun S j => ?_)
  · obtain ⟨n, y2, y3, y4, y5, y6, y7, y8, y9, y10, y11, hn, rfl⟩ := j
    have hk : k < 3 := by
      have := (List.getElem?_eq_some_iff.mp e).1
      rw [show (rangeD 0 (Int.toNat 3)).length = 3 from rfl] at this
      exact this
    obtain ⟨n, rfl⟩ : ∃ m, n = m + 4 := ⟨n - 4, by omega⟩
    have hn2 : 4 * (3 - (k + 1)) ≤ n := by omega
    ((conv => whnf); repeat ((first | refine ⟨_, rfl, ?_⟩ | refine ⟨Nat.le_of_ble_eq_true rfl, ?_⟩ | refine ⟨rfl, ?_⟩ | refine ⟨_, _, rfl, rfl, ?_⟩ | refine ⟨_, _, _, _, rfl, rfl, rfl, ?_⟩); conv => whnf))
    refine ⟨_, 3, rfl, by omega, by decide, by decide, fun r0 hr0 => ?_⟩
    ((conv => whnf); repeat ((first | refine ⟨_, rfl, ?_⟩ | refine ⟨Nat.le_of_ble_eq_true rfl, ?_⟩ | refine ⟨rfl, ?_⟩ | refine ⟨_, _, rfl, rfl, ?_⟩ | refine ⟨_, _, _, _, rfl, rfl, rfl, ?_⟩); conv => whnf))
    obtain ⟨wd, ewd, mwd⟩ := pick_at (L := [PyData.str (tx []), .str (tx [97, 32, 119, 111, 114, 100]), .str (tx [110, 111, 110, 101])]) hr0 rfl
    refine ⟨wd, ewd, ?_⟩
    ((conv => whnf); repeat ((first | refine ⟨_, rfl, ?_⟩ | refine ⟨Nat.le_of_ble_eq_true rfl, ?_⟩ | refine ⟨rfl, ?_⟩ | refine ⟨_, _, rfl, rfl, ?_⟩ | refine ⟨_, _, _, _, rfl, rfl, rfl, ?_⟩); conv => whnf))
    refine ⟨_, 4, rfl, by omega, by decide, by decide, fun r1 hr1 => ?_⟩
    ((conv => whnf); repeat ((first | refine ⟨_, rfl, ?_⟩ | refine ⟨Nat.le_of_ble_eq_true rfl, ?_⟩ | refine ⟨rfl, ?_⟩ | refine ⟨_, _, rfl, rfl, ?_⟩ | refine ⟨_, _, _, _, rfl, rfl, rfl, ?_⟩); conv => whnf))
    refine ⟨_, 3, rfl, by omega, by decide, by decide, fun r2 hr2 => ?_⟩
    ((conv => whnf); repeat ((first | refine ⟨_, rfl, ?_⟩ | refine ⟨Nat.le_of_ble_eq_true rfl, ?_⟩ | refine ⟨rfl, ?_⟩ | refine ⟨_, _, rfl, rfl, ?_⟩ | refine ⟨_, _, _, _, rfl, rfl, rfl, ?_⟩); conv => whnf))
    obtain ⟨nm, enm, mnm⟩ := pick_at (L := [PyData.str (tx [97]), .str (tx [119, 101, 98]), .str (tx [122, 122, 122, 122, 122, 122, 122, 122])]) hr2 rfl
    refine ⟨nm, enm, ?_⟩
    ((conv => whnf); repeat ((first | refine ⟨_, rfl, ?_⟩ | refine ⟨Nat.le_of_ble_eq_true rfl, ?_⟩ | refine ⟨rfl, ?_⟩ | refine ⟨_, _, rfl, rfl, ?_⟩ | refine ⟨_, _, _, _, rfl, rfl, rfl, ?_⟩); conv => whnf))
    refine ⟨_, 7, rfl, by omega, by decide, by decide, fun r3 hr3 => ?_⟩
    ((conv => whnf); repeat ((first | refine ⟨_, rfl, ?_⟩ | refine ⟨Nat.le_of_ble_eq_true rfl, ?_⟩ | refine ⟨rfl, ?_⟩ | refine ⟨_, _, rfl, rfl, ?_⟩ | refine ⟨_, _, _, _, rfl, rfl, rfl, ?_⟩); conv => whnf))
    obtain ⟨th, eth, mth⟩ := pick_at (L := thingsL) hr3 rfl
    refine ⟨th, eth, ?_⟩
    ((conv => whnf); repeat ((first | refine ⟨_, rfl, ?_⟩ | refine ⟨Nat.le_of_ble_eq_true rfl, ?_⟩ | refine ⟨rfl, ?_⟩ | refine ⟨_, _, rfl, rfl, ?_⟩ | refine ⟨_, _, _, _, rfl, rfl, rfl, ?_⟩); conv => whnf))
    obtain ⟨fn, sn⟩ := text_ok (text_of mnm)
    obtain ⟨ft, st⟩ := things_ok th mth
    refine ⟨trivial, ?_⟩
    ((conv => whnf); repeat ((first | refine ⟨_, rfl, ?_⟩ | refine ⟨Nat.le_of_ble_eq_true rfl, ?_⟩ | refine ⟨rfl, ?_⟩ | refine ⟨_, _, rfl, rfl, ?_⟩ | refine ⟨_, _, _, _, rfl, rfl, rfl, ?_⟩); conv => whnf))
    refine ⟨ft, ?_⟩
    ((conv => whnf); repeat ((first | refine ⟨_, rfl, ?_⟩ | refine ⟨Nat.le_of_ble_eq_true rfl, ?_⟩ | refine ⟨rfl, ?_⟩ | refine ⟨_, _, rfl, rfl, ?_⟩ | refine ⟨_, _, _, _, rfl, rfl, rfl, ?_⟩); conv => whnf))
    refine ⟨fn, ?_⟩
    ((conv => whnf); repeat ((first | refine ⟨_, rfl, ?_⟩ | refine ⟨Nat.le_of_ble_eq_true rfl, ?_⟩ | refine ⟨rfl, ?_⟩ | refine ⟨_, _, rfl, rfl, ?_⟩ | refine ⟨_, _, _, _, rfl, rfl, rfl, ?_⟩); conv => whnf))
    refine ⟨fn, ?_⟩
    ((conv => whnf); repeat ((first | refine ⟨_, rfl, ?_⟩ | refine ⟨Nat.le_of_ble_eq_true rfl, ?_⟩ | refine ⟨rfl, ?_⟩ | refine ⟨_, _, rfl, rfl, ?_⟩ | refine ⟨_, _, _, _, rfl, rfl, rfl, ?_⟩); conv => whnf))
    refine ⟨trivial, ?_⟩
    (((conv => whnf); repeat ((first | refine ⟨_, rfl, ?_⟩ | refine ⟨Nat.le_of_ble_eq_true rfl, ?_⟩ | refine ⟨rfl, ?_⟩ | refine ⟨_, _, rfl, rfl, ?_⟩ | refine ⟨_, _, _, _, rfl, rfl, rfl, ?_⟩); conv => whnf)); repeat (refine And.intro (by (first | omega | (rw [tl_tx]; omega) | (rw [tl_tx, tl_tx]; omega))) ?_; ((conv => whnf); repeat ((first | refine ⟨_, rfl, ?_⟩ | refine ⟨Nat.le_of_ble_eq_true rfl, ?_⟩ | refine ⟨rfl, ?_⟩ | refine ⟨_, _, rfl, rfl, ?_⟩ | refine ⟨_, _, _, _, rfl, rfl, rfl, ?_⟩); conv => whnf))))
    refine ⟨errs7 T r1 th nm, rfl, by show 7 ≤ 1000; decide, ?_⟩
    (((conv => whnf); repeat ((first | refine ⟨_, rfl, ?_⟩ | refine ⟨Nat.le_of_ble_eq_true rfl, ?_⟩ | refine ⟨rfl, ?_⟩ | refine ⟨_, _, rfl, rfl, ?_⟩ | refine ⟨_, _, _, _, rfl, rfl, rfl, ?_⟩); conv => whnf)); repeat (refine And.intro (by (first | omega | (rw [tl_tx]; omega) | (rw [tl_tx, tl_tx]; omega))) ?_; ((conv => whnf); repeat ((first | refine ⟨_, rfl, ?_⟩ | refine ⟨Nat.le_of_ble_eq_true rfl, ?_⟩ | refine ⟨rfl, ?_⟩ | refine ⟨_, _, rfl, rfl, ?_⟩ | refine ⟨_, _, _, _, rfl, rfl, rfl, ?_⟩); conv => whnf))))
    refine ⟨errs7 T r1 th nm, errs6 T, rfl, ?_⟩
    (((conv => whnf); repeat ((first | refine ⟨_, rfl, ?_⟩ | refine ⟨Nat.le_of_ble_eq_true rfl, ?_⟩ | refine ⟨rfl, ?_⟩ | refine ⟨_, _, rfl, rfl, ?_⟩ | refine ⟨_, _, _, _, rfl, rfl, rfl, ?_⟩); conv => whnf)); repeat (refine And.intro (by (first | omega | (rw [tl_tx]; omega) | (rw [tl_tx, tl_tx]; omega))) ?_; ((conv => whnf); repeat ((first | refine ⟨_, rfl, ?_⟩ | refine ⟨Nat.le_of_ble_eq_true rfl, ?_⟩ | refine ⟨rfl, ?_⟩ | refine ⟨_, _, rfl, rfl, ?_⟩ | refine ⟨_, _, _, _, rfl, rfl, rfl, ?_⟩); conv => whnf))))
    refine ⟨errs6 T, rfl, by show 6 ≤ 1000; decide, rfl, by show 13 ≤ 1000; decide, ?_⟩
    ((conv => whnf); repeat ((first | refine ⟨_, rfl, ?_⟩ | refine ⟨Nat.le_of_ble_eq_true rfl, ?_⟩ | refine ⟨rfl, ?_⟩ | refine ⟨_, _, rfl, rfl, ?_⟩ | refine ⟨_, _, _, _, rfl, rfl, rfl, ?_⟩); conv => whnf))
    refine ForE.mk (fun i S => ∃ y8 y9 y10 y11, S = [.o (AScr K ns), pen n, .d x, .d wd, .d (.int r1), .d nm, .d th, .o (ALE (errs7 T r1 th nm ++ errs6 T)), y8, y9, y10, y11]) ⟨_, _, _, _, rfl⟩ (fun i e S e2 j2 => ?_) (fun S j2 => ?_)
    · obtain ⟨y8, y9, y10, y11, rfl⟩ := j2
      obtain ⟨hi, he, E⟩ := errs_at T e2
      obtain ⟨k1, k2, _⟩ := kinds_of T.kinds (i := i) (by exact hi)
      have k1 : PySem.W.kitOne K (.ref e.1) (.ref T.C_HoleError) = some true := by rw [he]; exact k1
      have k2 : PySem.W.kitOne K (.ref e.1) (.type "ValueError") = some true := by rw [he]; exact k2
      ((conv => whnf); repeat ((first | refine ⟨_, rfl, ?_⟩ | refine ⟨Nat.le_of_ble_eq_true rfl, ?_⟩ | refine ⟨rfl, ?_⟩ | refine ⟨_, _, rfl, rfl, ?_⟩ | refine ⟨_, _, _, _, rfl, rfl, rfl, ?_⟩); conv => whnf))
      refine ⟨_, _, rfl, E, k1, ?_⟩
      ((conv => whnf); repeat ((first | refine ⟨_, rfl, ?_⟩ | refine ⟨Nat.le_of_ble_eq_true rfl, ?_⟩ | refine ⟨rfl, ?_⟩ | refine ⟨_, _, rfl, rfl, ?_⟩ | refine ⟨_, _, _, _, rfl, rfl, rfl, ?_⟩); conv => whnf))
      refine ⟨_, _, rfl, E, k2, ?_⟩
      ((conv => whnf); repeat ((first | refine ⟨_, rfl, ?_⟩ | refine ⟨Nat.le_of_ble_eq_true rfl, ?_⟩ | refine ⟨rfl, ?_⟩ | refine ⟨_, _, rfl, rfl, ?_⟩ | refine ⟨_, _, _, _, rfl, rfl, rfl, ?_⟩); conv => whnf))
      refine ⟨i, e, rfl, hi, he, E, ?_⟩
      ((conv => whnf); repeat ((first | refine ⟨_, rfl, ?_⟩ | refine ⟨Nat.le_of_ble_eq_true rfl, ?_⟩ | refine ⟨rfl, ?_⟩ | refine ⟨_, _, rfl, rfl, ?_⟩ | refine ⟨_, _, _, _, rfl, rfl, rfl, ?_⟩); conv => whnf))
      refine ⟨by decide, ?_⟩
      ((conv => whnf); repeat ((first | refine ⟨_, rfl, ?_⟩ | refine ⟨Nat.le_of_ble_eq_true rfl, ?_⟩ | refine ⟨rfl, ?_⟩ | refine ⟨_, _, rfl, rfl, ?_⟩ | refine ⟨_, _, _, _, rfl, rfl, rfl, ?_⟩); conv => whnf))
      refine lc_of (List.range 13) (fun j => .int (j : Nat)) (fun j => .bool (i == j)) (show rangeD 0 (Int.toNat 13) = _ from range_map) (by decide) (fun j hj R hR => ?_) ?_
      · ((conv => whnf); repeat ((first | refine ⟨_, rfl, ?_⟩ | refine ⟨Nat.le_of_ble_eq_true rfl, ?_⟩ | refine ⟨rfl, ?_⟩ | refine ⟨_, _, rfl, rfl, ?_⟩ | refine ⟨_, _, _, _, rfl, rfl, rfl, ?_⟩); conv => whnf))
        rw [same_bit]
        exact hR _ rfl
      ((conv => whnf); repeat ((first | refine ⟨_, rfl, ?_⟩ | refine ⟨Nat.le_of_ble_eq_true rfl, ?_⟩ | refine ⟨rfl, ?_⟩ | refine ⟨_, _, rfl, rfl, ?_⟩ | refine ⟨_, _, _, _, rfl, rfl, rfl, ?_⟩); conv => whnf))
      refine ⟨kindsD i, _, _, rfl, rfl, rfl, sd_kinds i, ?_⟩
      ((conv => whnf); repeat ((first | refine ⟨_, rfl, ?_⟩ | refine ⟨Nat.le_of_ble_eq_true rfl, ?_⟩ | refine ⟨rfl, ?_⟩ | refine ⟨_, _, rfl, rfl, ?_⟩ | refine ⟨_, _, _, _, rfl, rfl, rfl, ?_⟩); conv => whnf))
      exact ⟨_, _, _, _, rfl⟩
    · obtain ⟨y8, y9, y10, y11, rfl⟩ := j2
      ((conv => whnf); repeat ((first | refine ⟨_, rfl, ?_⟩ | refine ⟨Nat.le_of_ble_eq_true rfl, ?_⟩ | refine ⟨rfl, ?_⟩ | refine ⟨_, _, rfl, rfl, ?_⟩ | refine ⟨_, _, _, _, rfl, rfl, rfl, ?_⟩); conv => whnf))
      refine ⟨_, _, _, rfl, rfl, T.E_NoWord.exc, T.n_NoWord, ?_⟩
      ((conv => whnf); repeat ((first | refine ⟨_, rfl, ?_⟩ | refine ⟨Nat.le_of_ble_eq_true rfl, ?_⟩ | refine ⟨rfl, ?_⟩ | refine ⟨_, _, rfl, rfl, ?_⟩ | refine ⟨_, _, _, _, rfl, rfl, rfl, ?_⟩); conv => whnf))
      refine ⟨_, _, _, rfl, rfl, T.E_NoName.exc, T.n_NoName, ?_⟩
      ((conv => whnf); repeat ((first | refine ⟨_, rfl, ?_⟩ | refine ⟨Nat.le_of_ble_eq_true rfl, ?_⟩ | refine ⟨rfl, ?_⟩ | refine ⟨_, _, rfl, rfl, ?_⟩ | refine ⟨_, _, _, _, rfl, rfl, rfl, ?_⟩); conv => whnf))
      refine ⟨_, _, _, rfl, rfl, T.E_Taken.exc, T.n_Taken, ?_⟩
      ((conv => whnf); repeat ((first | refine ⟨_, rfl, ?_⟩ | refine ⟨Nat.le_of_ble_eq_true rfl, ?_⟩ | refine ⟨rfl, ?_⟩ | refine ⟨_, _, rfl, rfl, ?_⟩ | refine ⟨_, _, _, _, rfl, rfl, rfl, ?_⟩); conv => whnf))
      refine ⟨_, _, _, rfl, rfl, T.E_Held.exc, T.n_Held, ?_⟩
      ((conv => whnf); repeat ((first | refine ⟨_, rfl, ?_⟩ | refine ⟨Nat.le_of_ble_eq_true rfl, ?_⟩ | refine ⟨rfl, ?_⟩ | refine ⟨_, _, rfl, rfl, ?_⟩ | refine ⟨_, _, _, _, rfl, rfl, rfl, ?_⟩); conv => whnf))
      refine ⟨_, _, _, rfl, rfl, T.E_Full.exc, T.n_Full, ?_⟩
      ((conv => whnf); repeat ((first | refine ⟨_, rfl, ?_⟩ | refine ⟨Nat.le_of_ble_eq_true rfl, ?_⟩ | refine ⟨rfl, ?_⟩ | refine ⟨_, _, rfl, rfl, ?_⟩ | refine ⟨_, _, _, _, rfl, rfl, rfl, ?_⟩); conv => whnf))
      refine ⟨.list [.int (r1 : Nat), th, nm, nm, .int (8 + (r1 : Nat))], _, _, rfl, rfl, rfl, sd_five st sn, ?_⟩
      ((conv => whnf); repeat ((first | refine ⟨_, rfl, ?_⟩ | refine ⟨Nat.le_of_ble_eq_true rfl, ?_⟩ | refine ⟨rfl, ?_⟩ | refine ⟨_, _, rfl, rfl, ?_⟩ | refine ⟨_, _, _, _, rfl, rfl, rfl, ?_⟩); conv => whnf))
      exact ⟨_, _, _, _, _, _, _, _, _, _, _, hn2, rfl⟩
  · obtain ⟨n, y2, y3, y4, y5, y6, y7, y8, y9, y10, y11, hn, rfl⟩ := j
    ((conv => whnf); repeat ((first | refine ⟨_, rfl, ?_⟩ | refine ⟨Nat.le_of_ble_eq_true rfl, ?_⟩ | refine ⟨rfl, ?_⟩ | refine ⟨_, _, rfl, rfl, ?_⟩ | refine ⟨_, _, _, _, rfl, rfl, rfl, ?_⟩); conv => whnf))
    exact q _
def sp_law (K : PySem.W.Frag) : Sp := fun vs H Q _ => ∃ (a : Addr) (ns : List Int), vs = [.ref a] ∧ SqL K H a (ns.map V.int) ∧ ns.length ≤ 63 ∧ ∀ H', Q (.bl true) H'
theorem ok_law (T : Top K mg) (hP : POk P T.fl) : FnG P w K mg base CX0 11 T.f_law T.fd_law ["script"] (sp_law K) := law_of (x_law T hP)
end
end Kx

-- @classes
namespace Kx
open PySem PySem.Spec PyProof.Rows L2 Fo
theorem all_mk {l : PySem.W.OpenLaw} {w : World} {K : PySem.W.Frag} {h : Heap} {mg : Str → Option Value} {fa f_copied f__law_open f__law_spread f__law_take f__law_same f__law_kinds f_law C_HoleError C_NoWord f_NoWord cda_NoWord cc_NoWord C_NoName f_NoName cda_NoName cc_NoName C_Taken f_Taken cda_Taken cc_Taken C_Held f_Held cda_Held cc_Held C_Full f_Full cda_Full cc_Full C_NoWay C_NoHole C_NoNumber C_NoBook C_NoGuide C_NoReader C_NoWeb C_NoFrame : Addr} (X : K.In h) (G : h.Ns mainGlobals mg) (hfa : mg "law" = some (.ref fa))
    {od_copied an_copied od__law_open an__law_open od__law_spread an__law_spread od__law_take an__law_take od__law_same an__law_same od__law_kinds an__law_kinds od_law an_law : Option Addr} {sl_copied sl__law_open sl__law_spread sl__law_take sl__law_same sl__law_kinds sl_law : Array (Option Value)}
    {oc_copied kV_copied dc_copied pm_copied cd_copied ct_copied oc__law_open kV__law_open dc__law_open pm__law_open cd__law_open ct__law_open oc__law_spread kV__law_spread dc__law_spread pm__law_spread cd__law_spread ct__law_spread oc__law_take kV__law_take dc__law_take pm__law_take cd__law_take ct__law_take oc__law_same kV__law_same dc__law_same pm__law_same cd__law_same ct__law_same oc__law_kinds kV__law_kinds dc__law_kinds pm__law_kinds cd__law_kinds ct__law_kinds oc_law kV_law dc_law pm_law cd_law ct_law : Value}
    {nm_NoWord q_NoWord : Str} {N_NoWord : Addr} {bs_NoWord bm_NoWord : List Value} {sn_NoWord : List Str} {sub_NoWord : List Value} {ab_NoWord : Bool} {col_NoWord : Option Bool} {dd_NoWord : Option Addr} {k0_NoWord k1_NoWord k2_NoWord k3_NoWord k5_NoWord : Option Value}
    {oc_NoWord kV_NoWord dc_NoWord pm_NoWord ct_NoWord ccl_NoWord cl_NoWord : Value} {od_NoWord an_NoWord cdd_NoWord cld_NoWord : Option Addr} {sl_NoWord ccs_NoWord csl_NoWord : Array (Option Value)} {vs_NoWord : Array Value} {tf_NoWord : Tok}
    {nm_NoName q_NoName : Str} {N_NoName : Addr} {bs_NoName bm_NoName : List Value} {sn_NoName : List Str} {sub_NoName : List Value} {ab_NoName : Bool} {col_NoName : Option Bool} {dd_NoName : Option Addr} {k0_NoName k1_NoName k2_NoName k3_NoName k5_NoName : Option Value}
    {oc_NoName kV_NoName dc_NoName pm_NoName ct_NoName ccl_NoName cl_NoName : Value} {od_NoName an_NoName cdd_NoName cld_NoName : Option Addr} {sl_NoName ccs_NoName csl_NoName : Array (Option Value)} {vs_NoName : Array Value} {tf_NoName : Tok}
    {nm_Taken q_Taken : Str} {N_Taken : Addr} {bs_Taken bm_Taken : List Value} {sn_Taken : List Str} {sub_Taken : List Value} {ab_Taken : Bool} {col_Taken : Option Bool} {dd_Taken : Option Addr} {k0_Taken k1_Taken k2_Taken k3_Taken k5_Taken : Option Value}
    {oc_Taken kV_Taken dc_Taken pm_Taken ct_Taken ccl_Taken cl_Taken : Value} {od_Taken an_Taken cdd_Taken cld_Taken : Option Addr} {sl_Taken ccs_Taken csl_Taken : Array (Option Value)} {vs_Taken : Array Value} {tf_Taken : Tok}
    {nm_Held q_Held : Str} {N_Held : Addr} {bs_Held bm_Held : List Value} {sn_Held : List Str} {sub_Held : List Value} {ab_Held : Bool} {col_Held : Option Bool} {dd_Held : Option Addr} {k0_Held k1_Held k2_Held k3_Held k5_Held : Option Value}
    {oc_Held kV_Held dc_Held pm_Held ct_Held ccl_Held cl_Held : Value} {od_Held an_Held cdd_Held cld_Held : Option Addr} {sl_Held ccs_Held csl_Held : Array (Option Value)} {vs_Held : Array Value} {tf_Held : Tok}
    {nm_Full q_Full : Str} {N_Full : Addr} {bs_Full bm_Full : List Value} {sn_Full : List Str} {sub_Full : List Value} {ab_Full : Bool} {col_Full : Option Bool} {dd_Full : Option Addr} {k0_Full k1_Full k2_Full k3_Full k5_Full : Option Value}
    {oc_Full kV_Full dc_Full pm_Full ct_Full ccl_Full cl_Full : Value} {od_Full an_Full cdd_Full cld_Full : Option Addr} {sl_Full ccs_Full csl_Full : Array (Option Value)} {vs_Full : Array Value} {tf_Full : Tok}
    {nm_NoWay q_NoWay : Str} {N_NoWay : Addr} {bs_NoWay bm_NoWay : List Value} {sn_NoWay : List Str} {sub_NoWay : List Value} {ab_NoWay : Bool} {col_NoWay : Option Bool} {dd_NoWay : Option Addr} {k0_NoWay k1_NoWay k2_NoWay k3_NoWay k5_NoWay : Option Value}
    {nm_NoHole q_NoHole : Str} {N_NoHole : Addr} {bs_NoHole bm_NoHole : List Value} {sn_NoHole : List Str} {sub_NoHole : List Value} {ab_NoHole : Bool} {col_NoHole : Option Bool} {dd_NoHole : Option Addr} {k0_NoHole k1_NoHole k2_NoHole k3_NoHole k5_NoHole : Option Value}
    {nm_NoNumber q_NoNumber : Str} {N_NoNumber : Addr} {bs_NoNumber bm_NoNumber : List Value} {sn_NoNumber : List Str} {sub_NoNumber : List Value} {ab_NoNumber : Bool} {col_NoNumber : Option Bool} {dd_NoNumber : Option Addr} {k0_NoNumber k1_NoNumber k2_NoNumber k3_NoNumber k5_NoNumber : Option Value}
    {nm_NoBook q_NoBook : Str} {N_NoBook : Addr} {bs_NoBook bm_NoBook : List Value} {sn_NoBook : List Str} {sub_NoBook : List Value} {ab_NoBook : Bool} {col_NoBook : Option Bool} {dd_NoBook : Option Addr} {k0_NoBook k1_NoBook k2_NoBook k3_NoBook k5_NoBook : Option Value}
    {nm_NoGuide q_NoGuide : Str} {N_NoGuide : Addr} {bs_NoGuide bm_NoGuide : List Value} {sn_NoGuide : List Str} {sub_NoGuide : List Value} {ab_NoGuide : Bool} {col_NoGuide : Option Bool} {dd_NoGuide : Option Addr} {k0_NoGuide k1_NoGuide k2_NoGuide k3_NoGuide k5_NoGuide : Option Value}
    {nm_NoReader q_NoReader : Str} {N_NoReader : Addr} {bs_NoReader bm_NoReader : List Value} {sn_NoReader : List Str} {sub_NoReader : List Value} {ab_NoReader : Bool} {col_NoReader : Option Bool} {dd_NoReader : Option Addr} {k0_NoReader k1_NoReader k2_NoReader k3_NoReader k5_NoReader : Option Value}
    {nm_NoWeb q_NoWeb : Str} {N_NoWeb : Addr} {bs_NoWeb bm_NoWeb : List Value} {sn_NoWeb : List Str} {sub_NoWeb : List Value} {ab_NoWeb : Bool} {col_NoWeb : Option Bool} {dd_NoWeb : Option Addr} {k0_NoWeb k1_NoWeb k2_NoWeb k3_NoWeb k5_NoWeb : Option Value}
    {nm_NoFrame q_NoFrame : Str} {N_NoFrame : Addr} {bs_NoFrame bm_NoFrame : List Value} {sn_NoFrame : List Str} {sub_NoFrame : List Value} {ab_NoFrame : Bool} {col_NoFrame : Option Bool} {dd_NoFrame : Option Addr} {k0_NoFrame k1_NoFrame k2_NoFrame k3_NoFrame k5_NoFrame : Option Value}
    {fl : Str}
    (a_copied : PySem.W.nsIn K mainGlobals "copied" = some (some (.ref f_copied)))
    (l_copied : K.lookup f_copied = some ⟨oc_copied, od_copied, .func (PySem.W.fnOf "copied" "copied" (defArgs s_copied) (defBody s_copied) (defScope s_copied) .none kV_copied dc_copied pm_copied an_copied cd_copied ct_copied), sl_copied⟩)
    (c_copied : PySem.W.codeIn K cd_copied "copied" = true)
    (k_copied : PySem.W.keepIn K (.ref f_copied) = true)
    (a__law_open : PySem.W.nsIn K mainGlobals "_law_open" = some (some (.ref f__law_open)))
    (l__law_open : K.lookup f__law_open = some ⟨oc__law_open, od__law_open, .func (PySem.W.fnOf "_law_open" "_law_open" (defArgs s__law_open) (defBody s__law_open) (defScope s__law_open) .none kV__law_open dc__law_open pm__law_open an__law_open cd__law_open ct__law_open), sl__law_open⟩)
    (c__law_open : PySem.W.codeIn K cd__law_open "_law_open" = true)
    (k__law_open : PySem.W.keepIn K (.ref f__law_open) = true)
    (a__law_spread : PySem.W.nsIn K mainGlobals "_law_spread" = some (some (.ref f__law_spread)))
    (l__law_spread : K.lookup f__law_spread = some ⟨oc__law_spread, od__law_spread, .func (PySem.W.fnOf "_law_spread" "_law_spread" (defArgs s__law_spread) (defBody s__law_spread) (defScope s__law_spread) .none kV__law_spread dc__law_spread pm__law_spread an__law_spread cd__law_spread ct__law_spread), sl__law_spread⟩)
    (c__law_spread : PySem.W.codeIn K cd__law_spread "_law_spread" = true)
    (k__law_spread : PySem.W.keepIn K (.ref f__law_spread) = true)
    (a__law_take : PySem.W.nsIn K mainGlobals "_law_take" = some (some (.ref f__law_take)))
    (l__law_take : K.lookup f__law_take = some ⟨oc__law_take, od__law_take, .func (PySem.W.fnOf "_law_take" "_law_take" (defArgs s__law_take) (defBody s__law_take) (defScope s__law_take) .none kV__law_take dc__law_take pm__law_take an__law_take cd__law_take ct__law_take), sl__law_take⟩)
    (c__law_take : PySem.W.codeIn K cd__law_take "_law_take" = true)
    (k__law_take : PySem.W.keepIn K (.ref f__law_take) = true)
    (a__law_same : PySem.W.nsIn K mainGlobals "_law_same" = some (some (.ref f__law_same)))
    (l__law_same : K.lookup f__law_same = some ⟨oc__law_same, od__law_same, .func (PySem.W.fnOf "_law_same" "_law_same" (defArgs s__law_same) (defBody s__law_same) (defScope s__law_same) .none kV__law_same dc__law_same pm__law_same an__law_same cd__law_same ct__law_same), sl__law_same⟩)
    (c__law_same : PySem.W.codeIn K cd__law_same "_law_same" = true)
    (k__law_same : PySem.W.keepIn K (.ref f__law_same) = true)
    (a__law_kinds : PySem.W.nsIn K mainGlobals "_law_kinds" = some (some (.ref f__law_kinds)))
    (l__law_kinds : K.lookup f__law_kinds = some ⟨oc__law_kinds, od__law_kinds, .func (PySem.W.fnOf "_law_kinds" "_law_kinds" (defArgs s__law_kinds) (defBody s__law_kinds) (defScope s__law_kinds) .none kV__law_kinds dc__law_kinds pm__law_kinds an__law_kinds cd__law_kinds ct__law_kinds), sl__law_kinds⟩)
    (c__law_kinds : PySem.W.codeIn K cd__law_kinds "_law_kinds" = true)
    (k__law_kinds : PySem.W.keepIn K (.ref f__law_kinds) = true)
    (a_law : PySem.W.nsIn K mainGlobals "law" = some (some (.ref f_law)))
    (l_law : K.lookup f_law = some ⟨oc_law, od_law, .func (PySem.W.fnOf "law" "law" (defArgs s_law) (defBody s_law) (defScope s_law) .none kV_law dc_law pm_law an_law cd_law ct_law), sl_law⟩)
    (c_law : PySem.W.codeIn K cd_law "law" = true)
    (k_law : PySem.W.keepIn K (.ref f_law) = true)
    (z_ValueError : PySem.W.nsIn K mainGlobals "ValueError" = some none)
    (z_bool : PySem.W.nsIn K mainGlobals "bool" = some none)
    (z_dict : PySem.W.nsIn K mainGlobals "dict" = some none)
    (z_enumerate : PySem.W.nsIn K mainGlobals "enumerate" = some none)
    (z_int : PySem.W.nsIn K mainGlobals "int" = some none)
    (z_isinstance : PySem.W.nsIn K mainGlobals "isinstance" = some none)
    (z_len : PySem.W.nsIn K mainGlobals "len" = some none)
    (z_list : PySem.W.nsIn K mainGlobals "list" = some none)
    (z_range : PySem.W.nsIn K mainGlobals "range" = some none)
    (z_str : PySem.W.nsIn K mainGlobals "str" = some none)
    (z_super : PySem.W.nsIn K mainGlobals "super" = some none)
    (z_tuple : PySem.W.nsIn K mainGlobals "tuple" = some none)
    (z_zip : PySem.W.nsIn K mainGlobals "zip" = some none)
    (a_HoleError : PySem.W.nsIn K mainGlobals "HoleError" = some (some (.ref C_HoleError)))
    (a_NoWord : PySem.W.nsIn K mainGlobals "NoWord" = some (some (.ref C_NoWord)))
    (lc_NoWord : K.lookup C_NoWord = some (PySem.excClassObj nm_NoWord q_NoWord C_NoWord N_NoWord bs_NoWord bm_NoWord true sn_NoWord sub_NoWord ab_NoWord col_NoWord dd_NoWord k0_NoWord k1_NoWord k2_NoWord k3_NoWord k5_NoWord "ValueError.__new__"))
    (rv_NoWord : PySem.HandSPX.refsVE bm_NoWord = true)
    (eb_NoWord : errB K C_NoWord = true)
    (i_NoWord : PySem.W.findIn K (.ref C_NoWord) "__init__" = some (some (.ref f_NoWord)))
    (t_NoWord : PySem.W.typeIn K (.ref f_NoWord) = some (.type "function"))
    (n_NoWord : PySem.W.findIn K (.ref C_NoWord) "hole" = some none)
    (l_NoWord : K.lookup f_NoWord = some ⟨oc_NoWord, od_NoWord, .func (PySem.W.ksFn "__init__" "NoWord.__init__" (defArgs s_NoWord) (defBody s_NoWord) (defScope s_NoWord) .none kV_NoWord dc_NoWord pm_NoWord an_NoWord (.ref cda_NoWord) ct_NoWord cc_NoWord), sl_NoWord⟩)
    (c_NoWord : PySem.W.codeIn K (.ref cda_NoWord) "NoWord.__init__" = true)
    (lf_NoWord : K.lookup cda_NoWord = some ⟨ccl_NoWord, cdd_NoWord, .fields vs_NoWord, ccs_NoWord⟩)
    (v2_NoWord : vs_NoWord[2]? = some (.str fl tf_NoWord))
    (lx_NoWord : K.lookup cc_NoWord = some ⟨cl_NoWord, cld_NoWord, .cell (some (.ref C_NoWord)), csl_NoWord⟩)
    (sb_NoWord : supB K C_NoWord = true)
    (a_NoName : PySem.W.nsIn K mainGlobals "NoName" = some (some (.ref C_NoName)))
    (lc_NoName : K.lookup C_NoName = some (PySem.excClassObj nm_NoName q_NoName C_NoName N_NoName bs_NoName bm_NoName true sn_NoName sub_NoName ab_NoName col_NoName dd_NoName k0_NoName k1_NoName k2_NoName k3_NoName k5_NoName "ValueError.__new__"))
    (rv_NoName : PySem.HandSPX.refsVE bm_NoName = true)
    (eb_NoName : errB K C_NoName = true)
    (i_NoName : PySem.W.findIn K (.ref C_NoName) "__init__" = some (some (.ref f_NoName)))
    (t_NoName : PySem.W.typeIn K (.ref f_NoName) = some (.type "function"))
    (n_NoName : PySem.W.findIn K (.ref C_NoName) "name" = some none)
    (l_NoName : K.lookup f_NoName = some ⟨oc_NoName, od_NoName, .func (PySem.W.ksFn "__init__" "NoName.__init__" (defArgs s_NoName) (defBody s_NoName) (defScope s_NoName) .none kV_NoName dc_NoName pm_NoName an_NoName (.ref cda_NoName) ct_NoName cc_NoName), sl_NoName⟩)
    (c_NoName : PySem.W.codeIn K (.ref cda_NoName) "NoName.__init__" = true)
    (lf_NoName : K.lookup cda_NoName = some ⟨ccl_NoName, cdd_NoName, .fields vs_NoName, ccs_NoName⟩)
    (v2_NoName : vs_NoName[2]? = some (.str fl tf_NoName))
    (lx_NoName : K.lookup cc_NoName = some ⟨cl_NoName, cld_NoName, .cell (some (.ref C_NoName)), csl_NoName⟩)
    (sb_NoName : supB K C_NoName = true)
    (a_Taken : PySem.W.nsIn K mainGlobals "Taken" = some (some (.ref C_Taken)))
    (lc_Taken : K.lookup C_Taken = some (PySem.excClassObj nm_Taken q_Taken C_Taken N_Taken bs_Taken bm_Taken true sn_Taken sub_Taken ab_Taken col_Taken dd_Taken k0_Taken k1_Taken k2_Taken k3_Taken k5_Taken "ValueError.__new__"))
    (rv_Taken : PySem.HandSPX.refsVE bm_Taken = true)
    (eb_Taken : errB K C_Taken = true)
    (i_Taken : PySem.W.findIn K (.ref C_Taken) "__init__" = some (some (.ref f_Taken)))
    (t_Taken : PySem.W.typeIn K (.ref f_Taken) = some (.type "function"))
    (n_Taken : PySem.W.findIn K (.ref C_Taken) "name" = some none)
    (l_Taken : K.lookup f_Taken = some ⟨oc_Taken, od_Taken, .func (PySem.W.ksFn "__init__" "Taken.__init__" (defArgs s_Taken) (defBody s_Taken) (defScope s_Taken) .none kV_Taken dc_Taken pm_Taken an_Taken (.ref cda_Taken) ct_Taken cc_Taken), sl_Taken⟩)
    (c_Taken : PySem.W.codeIn K (.ref cda_Taken) "Taken.__init__" = true)
    (lf_Taken : K.lookup cda_Taken = some ⟨ccl_Taken, cdd_Taken, .fields vs_Taken, ccs_Taken⟩)
    (v2_Taken : vs_Taken[2]? = some (.str fl tf_Taken))
    (lx_Taken : K.lookup cc_Taken = some ⟨cl_Taken, cld_Taken, .cell (some (.ref C_Taken)), csl_Taken⟩)
    (sb_Taken : supB K C_Taken = true)
    (a_Held : PySem.W.nsIn K mainGlobals "Held" = some (some (.ref C_Held)))
    (lc_Held : K.lookup C_Held = some (PySem.excClassObj nm_Held q_Held C_Held N_Held bs_Held bm_Held true sn_Held sub_Held ab_Held col_Held dd_Held k0_Held k1_Held k2_Held k3_Held k5_Held "ValueError.__new__"))
    (rv_Held : PySem.HandSPX.refsVE bm_Held = true)
    (eb_Held : errB K C_Held = true)
    (i_Held : PySem.W.findIn K (.ref C_Held) "__init__" = some (some (.ref f_Held)))
    (t_Held : PySem.W.typeIn K (.ref f_Held) = some (.type "function"))
    (n_Held : PySem.W.findIn K (.ref C_Held) "name" = some none)
    (l_Held : K.lookup f_Held = some ⟨oc_Held, od_Held, .func (PySem.W.ksFn "__init__" "Held.__init__" (defArgs s_Held) (defBody s_Held) (defScope s_Held) .none kV_Held dc_Held pm_Held an_Held (.ref cda_Held) ct_Held cc_Held), sl_Held⟩)
    (c_Held : PySem.W.codeIn K (.ref cda_Held) "Held.__init__" = true)
    (lf_Held : K.lookup cda_Held = some ⟨ccl_Held, cdd_Held, .fields vs_Held, ccs_Held⟩)
    (v2_Held : vs_Held[2]? = some (.str fl tf_Held))
    (lx_Held : K.lookup cc_Held = some ⟨cl_Held, cld_Held, .cell (some (.ref C_Held)), csl_Held⟩)
    (sb_Held : supB K C_Held = true)
    (a_Full : PySem.W.nsIn K mainGlobals "Full" = some (some (.ref C_Full)))
    (lc_Full : K.lookup C_Full = some (PySem.excClassObj nm_Full q_Full C_Full N_Full bs_Full bm_Full true sn_Full sub_Full ab_Full col_Full dd_Full k0_Full k1_Full k2_Full k3_Full k5_Full "ValueError.__new__"))
    (rv_Full : PySem.HandSPX.refsVE bm_Full = true)
    (eb_Full : errB K C_Full = true)
    (i_Full : PySem.W.findIn K (.ref C_Full) "__init__" = some (some (.ref f_Full)))
    (t_Full : PySem.W.typeIn K (.ref f_Full) = some (.type "function"))
    (n_Full : PySem.W.findIn K (.ref C_Full) "most" = some none)
    (l_Full : K.lookup f_Full = some ⟨oc_Full, od_Full, .func (PySem.W.ksFn "__init__" "Full.__init__" (defArgs s_Full) (defBody s_Full) (defScope s_Full) .none kV_Full dc_Full pm_Full an_Full (.ref cda_Full) ct_Full cc_Full), sl_Full⟩)
    (c_Full : PySem.W.codeIn K (.ref cda_Full) "Full.__init__" = true)
    (lf_Full : K.lookup cda_Full = some ⟨ccl_Full, cdd_Full, .fields vs_Full, ccs_Full⟩)
    (v2_Full : vs_Full[2]? = some (.str fl tf_Full))
    (lx_Full : K.lookup cc_Full = some ⟨cl_Full, cld_Full, .cell (some (.ref C_Full)), csl_Full⟩)
    (sb_Full : supB K C_Full = true)
    (a_NoWay : PySem.W.nsIn K mainGlobals "NoWay" = some (some (.ref C_NoWay)))
    (lc_NoWay : K.lookup C_NoWay = some (PySem.excClassObj nm_NoWay q_NoWay C_NoWay N_NoWay bs_NoWay bm_NoWay true sn_NoWay sub_NoWay ab_NoWay col_NoWay dd_NoWay k0_NoWay k1_NoWay k2_NoWay k3_NoWay k5_NoWay "ValueError.__new__"))
    (rv_NoWay : PySem.HandSPX.refsVE bm_NoWay = true)
    (eb_NoWay : errB K C_NoWay = true)
    (i_NoWay : PySem.W.findIn K (.ref C_NoWay) "__init__" = some (some (.builtin "ValueError.__init__")))
    (a_NoHole : PySem.W.nsIn K mainGlobals "NoHole" = some (some (.ref C_NoHole)))
    (lc_NoHole : K.lookup C_NoHole = some (PySem.excClassObj nm_NoHole q_NoHole C_NoHole N_NoHole bs_NoHole bm_NoHole true sn_NoHole sub_NoHole ab_NoHole col_NoHole dd_NoHole k0_NoHole k1_NoHole k2_NoHole k3_NoHole k5_NoHole "ValueError.__new__"))
    (rv_NoHole : PySem.HandSPX.refsVE bm_NoHole = true)
    (eb_NoHole : errB K C_NoHole = true)
    (i_NoHole : PySem.W.findIn K (.ref C_NoHole) "__init__" = some (some (.builtin "ValueError.__init__")))
    (a_NoNumber : PySem.W.nsIn K mainGlobals "NoNumber" = some (some (.ref C_NoNumber)))
    (lc_NoNumber : K.lookup C_NoNumber = some (PySem.excClassObj nm_NoNumber q_NoNumber C_NoNumber N_NoNumber bs_NoNumber bm_NoNumber true sn_NoNumber sub_NoNumber ab_NoNumber col_NoNumber dd_NoNumber k0_NoNumber k1_NoNumber k2_NoNumber k3_NoNumber k5_NoNumber "ValueError.__new__"))
    (rv_NoNumber : PySem.HandSPX.refsVE bm_NoNumber = true)
    (eb_NoNumber : errB K C_NoNumber = true)
    (i_NoNumber : PySem.W.findIn K (.ref C_NoNumber) "__init__" = some (some (.builtin "ValueError.__init__")))
    (a_NoBook : PySem.W.nsIn K mainGlobals "NoBook" = some (some (.ref C_NoBook)))
    (lc_NoBook : K.lookup C_NoBook = some (PySem.excClassObj nm_NoBook q_NoBook C_NoBook N_NoBook bs_NoBook bm_NoBook true sn_NoBook sub_NoBook ab_NoBook col_NoBook dd_NoBook k0_NoBook k1_NoBook k2_NoBook k3_NoBook k5_NoBook "ValueError.__new__"))
    (rv_NoBook : PySem.HandSPX.refsVE bm_NoBook = true)
    (eb_NoBook : errB K C_NoBook = true)
    (i_NoBook : PySem.W.findIn K (.ref C_NoBook) "__init__" = some (some (.builtin "ValueError.__init__")))
    (a_NoGuide : PySem.W.nsIn K mainGlobals "NoGuide" = some (some (.ref C_NoGuide)))
    (lc_NoGuide : K.lookup C_NoGuide = some (PySem.excClassObj nm_NoGuide q_NoGuide C_NoGuide N_NoGuide bs_NoGuide bm_NoGuide true sn_NoGuide sub_NoGuide ab_NoGuide col_NoGuide dd_NoGuide k0_NoGuide k1_NoGuide k2_NoGuide k3_NoGuide k5_NoGuide "ValueError.__new__"))
    (rv_NoGuide : PySem.HandSPX.refsVE bm_NoGuide = true)
    (eb_NoGuide : errB K C_NoGuide = true)
    (i_NoGuide : PySem.W.findIn K (.ref C_NoGuide) "__init__" = some (some (.builtin "ValueError.__init__")))
    (a_NoReader : PySem.W.nsIn K mainGlobals "NoReader" = some (some (.ref C_NoReader)))
    (lc_NoReader : K.lookup C_NoReader = some (PySem.excClassObj nm_NoReader q_NoReader C_NoReader N_NoReader bs_NoReader bm_NoReader true sn_NoReader sub_NoReader ab_NoReader col_NoReader dd_NoReader k0_NoReader k1_NoReader k2_NoReader k3_NoReader k5_NoReader "ValueError.__new__"))
    (rv_NoReader : PySem.HandSPX.refsVE bm_NoReader = true)
    (eb_NoReader : errB K C_NoReader = true)
    (i_NoReader : PySem.W.findIn K (.ref C_NoReader) "__init__" = some (some (.builtin "ValueError.__init__")))
    (a_NoWeb : PySem.W.nsIn K mainGlobals "NoWeb" = some (some (.ref C_NoWeb)))
    (lc_NoWeb : K.lookup C_NoWeb = some (PySem.excClassObj nm_NoWeb q_NoWeb C_NoWeb N_NoWeb bs_NoWeb bm_NoWeb true sn_NoWeb sub_NoWeb ab_NoWeb col_NoWeb dd_NoWeb k0_NoWeb k1_NoWeb k2_NoWeb k3_NoWeb k5_NoWeb "ValueError.__new__"))
    (rv_NoWeb : PySem.HandSPX.refsVE bm_NoWeb = true)
    (eb_NoWeb : errB K C_NoWeb = true)
    (i_NoWeb : PySem.W.findIn K (.ref C_NoWeb) "__init__" = some (some (.builtin "ValueError.__init__")))
    (a_NoFrame : PySem.W.nsIn K mainGlobals "NoFrame" = some (some (.ref C_NoFrame)))
    (lc_NoFrame : K.lookup C_NoFrame = some (PySem.excClassObj nm_NoFrame q_NoFrame C_NoFrame N_NoFrame bs_NoFrame bm_NoFrame true sn_NoFrame sub_NoFrame ab_NoFrame col_NoFrame dd_NoFrame k0_NoFrame k1_NoFrame k2_NoFrame k3_NoFrame k5_NoFrame "ValueError.__new__"))
    (rv_NoFrame : PySem.HandSPX.refsVE bm_NoFrame = true)
    (eb_NoFrame : errB K C_NoFrame = true)
    (i_NoFrame : PySem.W.findIn K (.ref C_NoFrame) "__init__" = some (some (.builtin "ValueError.__init__")))
    (kinds : kindsB K C_HoleError [C_NoWord, C_NoName, C_Taken, C_Held, C_Full, C_NoWay, C_NoHole, C_NoNumber, C_NoBook, C_NoGuide, C_NoReader, C_NoWeb, C_NoFrame] = true)
    (hP : POk l.prog fl) :
    ∃ fd : FuncData, (∀ (s : Shared) (v : Value), BindsTo s fd ⟨[v], []⟩ [("script", v)]) ∧ ∀ base : Heap, K.In base → base.Ns mainGlobals mg → FnG l.prog w K mg base CX0 11 fa fd ["script"] (sp_law K) := by
  have e := hfa.symm.trans (PySem.W.mg_of X G a_law)
  cases e
  have F_copied := fun_mk (st := s_copied) l_copied c_copied k_copied
  have b_copied := F_copied.binds (ps := ["thing"]) fun _ _ _ _ _ _ us hl => match us, hl with | [_], _ => rfl
  have F__law_open := fun_mk (st := s__law_open) l__law_open c__law_open k__law_open
  have b__law_open := F__law_open.binds (ps := ["script"]) fun _ _ _ _ _ _ us hl => match us, hl with | [_], _ => rfl
  have F__law_spread := fun_mk (st := s__law_spread) l__law_spread c__law_spread k__law_spread
  have b__law_spread := F__law_spread.binds (ps := ["cell", "at"]) fun _ _ _ _ _ _ us hl => match us, hl with | [_, _], _ => rfl
  have F__law_take := fun_mk (st := s__law_take) l__law_take c__law_take k__law_take
  have b__law_take := F__law_take.binds (ps := ["pen", "amount"]) fun _ _ _ _ _ _ us hl => match us, hl with | [_, _], _ => rfl
  have F__law_same := fun_mk (st := s__law_same) l__law_same c__law_same k__law_same
  have b__law_same := F__law_same.binds (ps := ["found", "due"]) fun _ _ _ _ _ _ us hl => match us, hl with | [_, _], _ => rfl
  have F__law_kinds := fun_mk (st := s__law_kinds) l__law_kinds c__law_kinds k__law_kinds
  have b__law_kinds := F__law_kinds.binds (ps := ["one"]) fun _ _ _ _ _ _ us hl => match us, hl with | [_], _ => rfl
  have F_law := fun_mk (st := s_law) l_law c_law k_law
  have b_law := F_law.binds (ps := ["script"]) fun _ _ _ _ _ _ us hl => match us, hl with | [_], _ => rfl
  have E_NoWord : ErrK K C_NoWord := errK_of lc_NoWord rv_NoWord eb_NoWord
  have S_NoWord := supC_of (fl := fl) (qual := "NoWord.__init__") (st := s_NoWord) E_NoWord sb_NoWord ⟨_, _, _, _, _, _, _, _, _, rfl, l_NoWord⟩ c_NoWord ⟨_, _, _, _, _, lf_NoWord, v2_NoWord⟩ ⟨_, _, _, lx_NoWord⟩ rfl
  have b_NoWord := Binds.all (K := K) (fd := PySem.W.ksFn "__init__" "NoWord.__init__" (defArgs s_NoWord) (defBody s_NoWord) (defScope s_NoWord) .none kV_NoWord dc_NoWord pm_NoWord an_NoWord (.ref cda_NoWord) ct_NoWord cc_NoWord) (ps := ["self", "hole"]) fun us hl => match us, hl with | [_, _], _ => rfl
  have E_NoName : ErrK K C_NoName := errK_of lc_NoName rv_NoName eb_NoName
  have S_NoName := supC_of (fl := fl) (qual := "NoName.__init__") (st := s_NoName) E_NoName sb_NoName ⟨_, _, _, _, _, _, _, _, _, rfl, l_NoName⟩ c_NoName ⟨_, _, _, _, _, lf_NoName, v2_NoName⟩ ⟨_, _, _, lx_NoName⟩ rfl
  have b_NoName := Binds.all (K := K) (fd := PySem.W.ksFn "__init__" "NoName.__init__" (defArgs s_NoName) (defBody s_NoName) (defScope s_NoName) .none kV_NoName dc_NoName pm_NoName an_NoName (.ref cda_NoName) ct_NoName cc_NoName) (ps := ["self", "name"]) fun us hl => match us, hl with | [_, _], _ => rfl
  have E_Taken : ErrK K C_Taken := errK_of lc_Taken rv_Taken eb_Taken
  have S_Taken := supC_of (fl := fl) (qual := "Taken.__init__") (st := s_Taken) E_Taken sb_Taken ⟨_, _, _, _, _, _, _, _, _, rfl, l_Taken⟩ c_Taken ⟨_, _, _, _, _, lf_Taken, v2_Taken⟩ ⟨_, _, _, lx_Taken⟩ rfl
  have b_Taken := Binds.all (K := K) (fd := PySem.W.ksFn "__init__" "Taken.__init__" (defArgs s_Taken) (defBody s_Taken) (defScope s_Taken) .none kV_Taken dc_Taken pm_Taken an_Taken (.ref cda_Taken) ct_Taken cc_Taken) (ps := ["self", "name"]) fun us hl => match us, hl with | [_, _], _ => rfl
  have E_Held : ErrK K C_Held := errK_of lc_Held rv_Held eb_Held
  have S_Held := supC_of (fl := fl) (qual := "Held.__init__") (st := s_Held) E_Held sb_Held ⟨_, _, _, _, _, _, _, _, _, rfl, l_Held⟩ c_Held ⟨_, _, _, _, _, lf_Held, v2_Held⟩ ⟨_, _, _, lx_Held⟩ rfl
  have b_Held := Binds.all (K := K) (fd := PySem.W.ksFn "__init__" "Held.__init__" (defArgs s_Held) (defBody s_Held) (defScope s_Held) .none kV_Held dc_Held pm_Held an_Held (.ref cda_Held) ct_Held cc_Held) (ps := ["self", "name"]) fun us hl => match us, hl with | [_, _], _ => rfl
  have E_Full : ErrK K C_Full := errK_of lc_Full rv_Full eb_Full
  have S_Full := supC_of (fl := fl) (qual := "Full.__init__") (st := s_Full) E_Full sb_Full ⟨_, _, _, _, _, _, _, _, _, rfl, l_Full⟩ c_Full ⟨_, _, _, _, _, lf_Full, v2_Full⟩ ⟨_, _, _, lx_Full⟩ rfl
  have b_Full := Binds.all (K := K) (fd := PySem.W.ksFn "__init__" "Full.__init__" (defArgs s_Full) (defBody s_Full) (defScope s_Full) .none kV_Full dc_Full pm_Full an_Full (.ref cda_Full) ct_Full cc_Full) (ps := ["self", "most"]) fun us hl => match us, hl with | [_, _], _ => rfl
  have E_NoWay : ErrK K C_NoWay := errK_of lc_NoWay rv_NoWay eb_NoWay
  have E_NoHole : ErrK K C_NoHole := errK_of lc_NoHole rv_NoHole eb_NoHole
  have E_NoNumber : ErrK K C_NoNumber := errK_of lc_NoNumber rv_NoNumber eb_NoNumber
  have E_NoBook : ErrK K C_NoBook := errK_of lc_NoBook rv_NoBook eb_NoBook
  have E_NoGuide : ErrK K C_NoGuide := errK_of lc_NoGuide rv_NoGuide eb_NoGuide
  have E_NoReader : ErrK K C_NoReader := errK_of lc_NoReader rv_NoReader eb_NoReader
  have E_NoWeb : ErrK K C_NoWeb := errK_of lc_NoWeb rv_NoWeb eb_NoWeb
  have E_NoFrame : ErrK K C_NoFrame := errK_of lc_NoFrame rv_NoFrame eb_NoFrame
  let T : Top K mg := { f_copied := _, fd_copied := _, F_copied := F_copied, b_copied := b_copied, g_copied := PySem.W.mg_of X G a_copied, f__law_open := _, fd__law_open := _, F__law_open := F__law_open, b__law_open := b__law_open, g__law_open := PySem.W.mg_of X G a__law_open, f__law_spread := _, fd__law_spread := _, F__law_spread := F__law_spread, b__law_spread := b__law_spread, g__law_spread := PySem.W.mg_of X G a__law_spread, f__law_take := _, fd__law_take := _, F__law_take := F__law_take, b__law_take := b__law_take, g__law_take := PySem.W.mg_of X G a__law_take, f__law_same := _, fd__law_same := _, F__law_same := F__law_same, b__law_same := b__law_same, g__law_same := PySem.W.mg_of X G a__law_same, f__law_kinds := _, fd__law_kinds := _, F__law_kinds := F__law_kinds, b__law_kinds := b__law_kinds, g__law_kinds := PySem.W.mg_of X G a__law_kinds, f_law := _, fd_law := _, F_law := F_law, b_law := b_law, g_law := PySem.W.mg_of X G a_law, C_HoleError := _, g_HoleError := PySem.W.mg_of X G a_HoleError, C_NoWord := _, g_NoWord := PySem.W.mg_of X G a_NoWord, E_NoWord := E_NoWord, i_NoWord := i_NoWord, f_NoWord := _, fd_NoWord := _, cda_NoWord := _, cc_NoWord := _, S_NoWord := S_NoWord, t_NoWord := t_NoWord, b_NoWord := b_NoWord, n_NoWord := n_NoWord, C_NoName := _, g_NoName := PySem.W.mg_of X G a_NoName, E_NoName := E_NoName, i_NoName := i_NoName, f_NoName := _, fd_NoName := _, cda_NoName := _, cc_NoName := _, S_NoName := S_NoName, t_NoName := t_NoName, b_NoName := b_NoName, n_NoName := n_NoName, C_Taken := _, g_Taken := PySem.W.mg_of X G a_Taken, E_Taken := E_Taken, i_Taken := i_Taken, f_Taken := _, fd_Taken := _, cda_Taken := _, cc_Taken := _, S_Taken := S_Taken, t_Taken := t_Taken, b_Taken := b_Taken, n_Taken := n_Taken, C_Held := _, g_Held := PySem.W.mg_of X G a_Held, E_Held := E_Held, i_Held := i_Held, f_Held := _, fd_Held := _, cda_Held := _, cc_Held := _, S_Held := S_Held, t_Held := t_Held, b_Held := b_Held, n_Held := n_Held, C_Full := _, g_Full := PySem.W.mg_of X G a_Full, E_Full := E_Full, i_Full := i_Full, f_Full := _, fd_Full := _, cda_Full := _, cc_Full := _, S_Full := S_Full, t_Full := t_Full, b_Full := b_Full, n_Full := n_Full, C_NoWay := _, g_NoWay := PySem.W.mg_of X G a_NoWay, E_NoWay := E_NoWay, i_NoWay := i_NoWay, C_NoHole := _, g_NoHole := PySem.W.mg_of X G a_NoHole, E_NoHole := E_NoHole, i_NoHole := i_NoHole, C_NoNumber := _, g_NoNumber := PySem.W.mg_of X G a_NoNumber, E_NoNumber := E_NoNumber, i_NoNumber := i_NoNumber, C_NoBook := _, g_NoBook := PySem.W.mg_of X G a_NoBook, E_NoBook := E_NoBook, i_NoBook := i_NoBook, C_NoGuide := _, g_NoGuide := PySem.W.mg_of X G a_NoGuide, E_NoGuide := E_NoGuide, i_NoGuide := i_NoGuide, C_NoReader := _, g_NoReader := PySem.W.mg_of X G a_NoReader, E_NoReader := E_NoReader, i_NoReader := i_NoReader, C_NoWeb := _, g_NoWeb := PySem.W.mg_of X G a_NoWeb, E_NoWeb := E_NoWeb, i_NoWeb := i_NoWeb, C_NoFrame := _, g_NoFrame := PySem.W.mg_of X G a_NoFrame, E_NoFrame := E_NoFrame, i_NoFrame := i_NoFrame, fl := fl, kinds := kinds, m_ValueError := PySem.W.mg_none_of X G z_ValueError, m_bool := PySem.W.mg_none_of X G z_bool, m_dict := PySem.W.mg_none_of X G z_dict, m_enumerate := PySem.W.mg_none_of X G z_enumerate, m_int := PySem.W.mg_none_of X G z_int, m_isinstance := PySem.W.mg_none_of X G z_isinstance, m_len := PySem.W.mg_none_of X G z_len, m_list := PySem.W.mg_none_of X G z_list, m_range := PySem.W.mg_none_of X G z_range, m_str := PySem.W.mg_none_of X G z_str, m_super := PySem.W.mg_none_of X G z_super, m_tuple := PySem.W.mg_none_of X G z_tuple, m_zip := PySem.W.mg_none_of X G z_zip }
  exact ⟨T.fd_law, fun s v => .of_eq rfl, fun base _ _ => ok_law T hP⟩
end Kx
open PySem PySem.W PyProof.Rows
set_option maxHeartbeats 0 in
theorem PySem.Challenge.cw_foeholes_k14_refusals_made_by_hand_holds : PySem.Challenge.rw_foeholes_k14_refusals_made_by_hand.Holds := by
  w_on; o_law; k_head; (case hw => w_witness2)
  k_fill
  refine Fo.walkG (l := PySem.Challenge.rw_foeholes_k14_refusals_made_by_hand) (n := 63) (k := 11) (x := "script") (sp := Kx.sp_law) rfl (by decide) rfl
    ⟨rfl, by decide, by decide⟩ (fun w h Y => PySem.W.kIn_of Y) ?F (fun K H a ns hl hS => ⟨a, ns, rfl, hS, hl, fun _ => rfl⟩)
  case F =>
    intro w mg fa h KX G hmg
    refine' Kx.all_mk KX G hmg ?a_copied ?l_copied ?c_copied ?k_copied ?a__law_open ?l__law_open ?c__law_open ?k__law_open ?a__law_spread ?l__law_spread ?c__law_spread ?k__law_spread ?a__law_take ?l__law_take ?c__law_take ?k__law_take ?a__law_same ?l__law_same ?c__law_same ?k__law_same ?a__law_kinds ?l__law_kinds ?c__law_kinds ?k__law_kinds ?a_law ?l_law ?c_law ?k_law ?z_ValueError ?z_bool ?z_dict ?z_enumerate ?z_int ?z_isinstance ?z_len ?z_list ?z_range ?z_str ?z_super ?z_tuple ?z_zip ?a_HoleError ?a_NoWord ?lc_NoWord ?rv_NoWord ?eb_NoWord ?i_NoWord ?t_NoWord ?n_NoWord ?l_NoWord ?c_NoWord ?lf_NoWord ?v2_NoWord ?lx_NoWord ?sb_NoWord ?a_NoName ?lc_NoName ?rv_NoName ?eb_NoName ?i_NoName ?t_NoName ?n_NoName ?l_NoName ?c_NoName ?lf_NoName ?v2_NoName ?lx_NoName ?sb_NoName ?a_Taken ?lc_Taken ?rv_Taken ?eb_Taken ?i_Taken ?t_Taken ?n_Taken ?l_Taken ?c_Taken ?lf_Taken ?v2_Taken ?lx_Taken ?sb_Taken ?a_Held ?lc_Held ?rv_Held ?eb_Held ?i_Held ?t_Held ?n_Held ?l_Held ?c_Held ?lf_Held ?v2_Held ?lx_Held ?sb_Held ?a_Full ?lc_Full ?rv_Full ?eb_Full ?i_Full ?t_Full ?n_Full ?l_Full ?c_Full ?lf_Full ?v2_Full ?lx_Full ?sb_Full ?a_NoWay ?lc_NoWay ?rv_NoWay ?eb_NoWay ?i_NoWay ?a_NoHole ?lc_NoHole ?rv_NoHole ?eb_NoHole ?i_NoHole ?a_NoNumber ?lc_NoNumber ?rv_NoNumber ?eb_NoNumber ?i_NoNumber ?a_NoBook ?lc_NoBook ?rv_NoBook ?eb_NoBook ?i_NoBook ?a_NoGuide ?lc_NoGuide ?rv_NoGuide ?eb_NoGuide ?i_NoGuide ?a_NoReader ?lc_NoReader ?rv_NoReader ?eb_NoReader ?i_NoReader ?a_NoWeb ?lc_NoWeb ?rv_NoWeb ?eb_NoWeb ?i_NoWeb ?a_NoFrame ?lc_NoFrame ?rv_NoFrame ?eb_NoFrame ?i_NoFrame ?kinds ?hP
    (case a_copied => k_is)
    (case l_copied => k_is)
    (case c_copied => k_is)
    (case k_copied => k_is)
    (case a__law_open => k_is)
    (case l__law_open => k_is)
    (case c__law_open => k_is)
    (case k__law_open => k_is)
    (case a__law_spread => k_is)
    (case l__law_spread => k_is)
    (case c__law_spread => k_is)
    (case k__law_spread => k_is)
    (case a__law_take => k_is)
    (case l__law_take => k_is)
    (case c__law_take => k_is)
    (case k__law_take => k_is)
    (case a__law_same => k_is)
    (case l__law_same => k_is)
    (case c__law_same => k_is)
    (case k__law_same => k_is)
    (case a__law_kinds => k_is)
    (case l__law_kinds => k_is)
    (case c__law_kinds => k_is)
    (case k__law_kinds => k_is)
    (case a_law => k_is)
    (case l_law => k_is)
    (case c_law => k_is)
    (case k_law => k_is)
    (case z_ValueError => k_is)
    (case z_bool => k_is)
    (case z_dict => k_is)
    (case z_enumerate => k_is)
    (case z_int => k_is)
    (case z_isinstance => k_is)
    (case z_len => k_is)
    (case z_list => k_is)
    (case z_range => k_is)
    (case z_str => k_is)
    (case z_super => k_is)
    (case z_tuple => k_is)
    (case z_zip => k_is)
    (case a_HoleError => k_is)
    (case a_NoWord => k_is)
    (case lc_NoWord => k_is)
    (case rv_NoWord => first | exact rfl | kernel_rfl)
    (case eb_NoWord => first | exact rfl | kernel_rfl)
    (case i_NoWord => k_is)
    (case t_NoWord => k_is)
    (case n_NoWord => k_is)
    (case l_NoWord => k_is)
    (case c_NoWord => k_is)
    (case lf_NoWord => k_is)
    (case v2_NoWord => first | exact rfl | kernel_rfl)
    (case lx_NoWord => k_is)
    (case sb_NoWord => first | exact rfl | kernel_rfl)
    (case a_NoName => k_is)
    (case lc_NoName => k_is)
    (case rv_NoName => first | exact rfl | kernel_rfl)
    (case eb_NoName => first | exact rfl | kernel_rfl)
    (case i_NoName => k_is)
    (case t_NoName => k_is)
    (case n_NoName => k_is)
    (case l_NoName => k_is)
    (case c_NoName => k_is)
    (case lf_NoName => k_is)
    (case v2_NoName => first | exact rfl | kernel_rfl)
    (case lx_NoName => k_is)
    (case sb_NoName => first | exact rfl | kernel_rfl)
    (case a_Taken => k_is)
    (case lc_Taken => k_is)
    (case rv_Taken => first | exact rfl | kernel_rfl)
    (case eb_Taken => first | exact rfl | kernel_rfl)
    (case i_Taken => k_is)
    (case t_Taken => k_is)
    (case n_Taken => k_is)
    (case l_Taken => k_is)
    (case c_Taken => k_is)
    (case lf_Taken => k_is)
    (case v2_Taken => first | exact rfl | kernel_rfl)
    (case lx_Taken => k_is)
    (case sb_Taken => first | exact rfl | kernel_rfl)
    (case a_Held => k_is)
    (case lc_Held => k_is)
    (case rv_Held => first | exact rfl | kernel_rfl)
    (case eb_Held => first | exact rfl | kernel_rfl)
    (case i_Held => k_is)
    (case t_Held => k_is)
    (case n_Held => k_is)
    (case l_Held => k_is)
    (case c_Held => k_is)
    (case lf_Held => k_is)
    (case v2_Held => first | exact rfl | kernel_rfl)
    (case lx_Held => k_is)
    (case sb_Held => first | exact rfl | kernel_rfl)
    (case a_Full => k_is)
    (case lc_Full => k_is)
    (case rv_Full => first | exact rfl | kernel_rfl)
    (case eb_Full => first | exact rfl | kernel_rfl)
    (case i_Full => k_is)
    (case t_Full => k_is)
    (case n_Full => k_is)
    (case l_Full => k_is)
    (case c_Full => k_is)
    (case lf_Full => k_is)
    (case v2_Full => first | exact rfl | kernel_rfl)
    (case lx_Full => k_is)
    (case sb_Full => first | exact rfl | kernel_rfl)
    (case a_NoWay => k_is)
    (case lc_NoWay => k_is)
    (case rv_NoWay => first | exact rfl | kernel_rfl)
    (case eb_NoWay => first | exact rfl | kernel_rfl)
    (case i_NoWay => k_is)
    (case a_NoHole => k_is)
    (case lc_NoHole => k_is)
    (case rv_NoHole => first | exact rfl | kernel_rfl)
    (case eb_NoHole => first | exact rfl | kernel_rfl)
    (case i_NoHole => k_is)
    (case a_NoNumber => k_is)
    (case lc_NoNumber => k_is)
    (case rv_NoNumber => first | exact rfl | kernel_rfl)
    (case eb_NoNumber => first | exact rfl | kernel_rfl)
    (case i_NoNumber => k_is)
    (case a_NoBook => k_is)
    (case lc_NoBook => k_is)
    (case rv_NoBook => first | exact rfl | kernel_rfl)
    (case eb_NoBook => first | exact rfl | kernel_rfl)
    (case i_NoBook => k_is)
    (case a_NoGuide => k_is)
    (case lc_NoGuide => k_is)
    (case rv_NoGuide => first | exact rfl | kernel_rfl)
    (case eb_NoGuide => first | exact rfl | kernel_rfl)
    (case i_NoGuide => k_is)
    (case a_NoReader => k_is)
    (case lc_NoReader => k_is)
    (case rv_NoReader => first | exact rfl | kernel_rfl)
    (case eb_NoReader => first | exact rfl | kernel_rfl)
    (case i_NoReader => k_is)
    (case a_NoWeb => k_is)
    (case lc_NoWeb => k_is)
    (case rv_NoWeb => first | exact rfl | kernel_rfl)
    (case eb_NoWeb => first | exact rfl | kernel_rfl)
    (case i_NoWeb => k_is)
    (case a_NoFrame => k_is)
    (case lc_NoFrame => k_is)
    (case rv_NoFrame => first | exact rfl | kernel_rfl)
    (case eb_NoFrame => first | exact rfl | kernel_rfl)
    (case i_NoFrame => k_is)
    (case kinds => first | exact rfl | kernel_rfl)
    (case hP => exact ⟨rfl, rfl⟩)

