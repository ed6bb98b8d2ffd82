import PyProof.Rows.All
import Wide.All
import OpenK.AllK
import Wide.FinOn
import HandS.ForMost
import HandS.Walk
import HandS.Zip
import HandS.TupAny
import HandS.Defaults
import HandS.IsInst
import HandS.Replace
import HandS.Flow
import HandS.Style
import HandS.Conv
import PyProof.ListStr
import PyProof.StrLawsFirst
import HandS.TupMul
import PyProof.StrWalks
import PyProof.Rows.SetFrom
import PyProof.Rows.SortStr
import HandS.Set
import HandS.SetTxt0
import HandS.Dict
import HandS.Small
import HandS.Deep
import KE.KDictDisplayH
import PySem.Challenge.RW_foeholes_k07_rows_as_one
set_option Elab.async false
set_option linter.all false
set_option maxRecDepth 100000
set_option maxHeartbeats 2000000
namespace Fo
open PySem PySem.Spec PyProof.Rows L2 RZ
/-! ### heaps -/
/-- tuples stay -/
def TS (H H' : Hp) : Prop := ∀ a xs, H a = some (.tup xs) → H' a = some (.tup xs)
theorem TS.refl (H : Hp) : TS H H := fun _ _ h => h
theorem TS.trans {H H1 H2 : Hp} (a : TS H H1) (b : TS H1 H2) : TS H H2 := fun c x h => b c x (a c x h)
theorem same_ts {H H' : Hp} (h : Same H H') : TS H H' := fun a xs e => h a _ e
theorem same_new {H : Hp} {p : Addr} {o : HO} (h : H p = none) : Same H (upd H p o) := fun b u q => by rw [upd_ne (ne_of_none q h)]; exact q
theorem TS.new {H : Hp} {p : Addr} {o : HO} (h : H p = none) : TS H (upd H p o) := same_ts (same_new h)
theorem TS.lst {H : Hp} {p : Addr} {xs : List V} {o : HO} (h : H p = some (.lst xs)) : TS H (upd H p o) := fun b u q => by
  rw [upd_ne (ne_of q h (by intro z; cases z))]; exact q
/-- all but what stands at p stays -/
def But (p : Addr) (H H' : Hp) : Prop := ∀ b o, b ≠ p → H b = some o → H' b = some o
theorem But.refl (p : Addr) (H : Hp) : But p H H := fun _ _ _ h => h
theorem But.trans {p : Addr} {H H1 H2 : Hp} (a : But p H H1) (b : But p H1 H2) : But p H H2 := fun c o n h => b c o n (a c o n h)
theorem same_but {H H' : Hp} (p : Addr) (h : Same H H') : But p H H' := fun b o _ e => h b o e
theorem But.upd {H : Hp} {p : Addr} {o : HO} : But p H (upd H p o) := fun b u n e => by rw [upd_ne n]; exact e
theorem But.ts {p : Addr} {H H' : Hp} {xs : List V} (h : But p H H') (hp : H p = some (.lst xs)) : TS H H' := fun a ys e => h a _ (ne_of e hp (by intro z; cases z)) e
section
variable {X : Cx}
/-! ### one rule an operator, whatever the kind -/
def rAddI : R2 := fun x y H Q => ∃ i j, x = .int i ∧ y = .int j ∧ Q (.int (i + j)) H
def rAddT : R2 := fun x y H Q => ∃ i j, x = .str i ∧ y = .str j ∧ i.length + j.length ≤ sizeLine ∧ Q (.str (i ++ j)) H
/-- what is wanted of a new object: told at any later heap that keeps the old -/
def New (o : HO) (H : Hp) (Q : VK) : Prop := ∀ p H', H p = none → Same H H' → H' p = some o → Q (.ref p) H'
/-- .. of an object that may be an old one -/
def Got (o : HO) (H : Hp) (Q : VK) : Prop := ∀ p H', Same H H' → H' p = some o → Q (.ref p) H'
theorem New.at {o : HO} {H : Hp} {Q : VK} (h : New o H Q) : ∀ p, H p = none → Q (.ref p) (upd H p o) := fun p np => h p _ np (same_new np) upd_same
theorem Got.new {o : HO} {H : Hp} {Q : VK} (h : Got o H Q) : New o H Q := fun p H' _ s e => h p H' s e
theorem OpR_imp {f : Value → Value → Sem Value} {r r' : R2} (h : OpR X f r) (i : ∀ x y H Q, r' x y H Q → r x y H Q) : OpR X f r' :=
  fun pins s σ H x y v u Q I rx ry q => h pins s σ H x y v u Q I rx ry (i _ _ _ _ q)
theorem CallR_imp {f : Value} {r r' : List V → Hp → VK → Prop} (h : CallR X f r) (i : ∀ xs H Q, r' xs H Q → r xs H Q) : CallR X f r' :=
  fun pins s σ H xs us Q I rs q => h pins s σ H xs us Q I rs (i _ _ _ q)
theorem SlR_imp {r r' : V → Option Int → Option Int → Hp → VK → Prop} (h : SlR X r) (i : ∀ x lo hi H Q, r' x lo hi H Q → r x lo hi H Q) : SlR X r' :=
  fun pins s σ H x v vl vu lo hi sl Q I rx hs pl pu q => h pins s σ H x v vl vu lo hi sl Q I rx hs pl pu (i _ _ _ _ _ q)
theorem MtM_imp {id : String} {r r' : V → List V → Hp → VK → Prop} (h : MtR X id r) (i : ∀ x xs H Q, r' x xs H Q → r x xs H Q) : MtR X id r' :=
  fun pins s σ H x xs v us Q I rx rs q => h pins s σ H x xs v us Q I rx rs (i _ _ _ _ q)
theorem PE_imp {e : Expr} {t t' : TE} (h : PE X e t) (i : ∀ σ H Q, t' σ H Q → t σ H Q) : PE X e t' := ⟨fun pins s σ H Q I q => h.run pins s σ H Q I (i _ _ _ q)⟩
def rCatL : R2 := fun x y H Q => ∃ l b xs zs, x = .ref l ∧ y = .ref b ∧ H l = some (.lst xs) ∧ H b = some (.lst zs) ∧ xs.length + zs.length ≤ sizeLine ∧ New (.lst (xs ++ zs)) H Q
def rCatU : R2 := fun x y H Q => ∃ a b xs ys, x = .ref a ∧ y = .ref b ∧ H a = some (.tup xs) ∧ H b = some (.tup ys) ∧ xs.length + ys.length ≤ sizeLine ∧ Got (.tup (xs ++ ys)) H Q
theorem op_catL : OpR X (binaryOp .Add) rCatL := OpR_imp op_cat fun x y H Q h => by
  obtain ⟨l, b, xs, zs, rfl, rfl, h1, h2, h3, q⟩ := h
  exact ⟨l, b, xs, zs, rfl, rfl, h1, h2, h3, q.at⟩
theorem op_catU : OpR X (binaryOp .Add) rCatU := OpR_imp op_catA fun x y H Q h => by
  obtain ⟨a, b, xs, ys, rfl, rfl, h1, h2, h3, q⟩ := h
  refine ⟨a, b, xs, ys, rfl, rfl, SqT.of h1, SqT.of h2, h3, fun e => ?_, fun _ e => ?_, fun _ _ => q.new.at⟩
  · subst e
    exact q b H (Same.refl H) h2
  · subst e
    exact q a H (Same.refl H) (by rw [List.append_nil]; exact h1)
def rAddG : R2 := fun x y H Q => rAddI x y H Q ∨ (rAddT x y H Q ∨ (rCatL x y H Q ∨ rCatU x y H Q))
theorem op_addG : OpR X (binaryOp .Add) rAddG := OpR.or (r := rAddI) op_add (OpR.or (r := rAddT) op_add_str (op_catL.or op_catU))
def rMulG : R2 := fun x y H Q => rI CMul (fun i j => .int (i * j)) x y H Q ∨ rRep x y H Q
theorem op_mulG : OpR X (binaryOp .Mult) rMulG := op_mul.or op_rep
theorem PI_or {tg it : Expr} {w1 w2 : TI} (h1 : PI X tg it w1) (h2 : PI X tg it w2) : PI X tg it (fun σ H R => w1 σ H R ∨ w2 σ H R) := by
  refine ⟨fun pins s σ H R I h => ?_⟩
  rcases h with h | h
  · exact h1.run pins s σ H R I h
  · exact h2.run pins s σ H R I h
def iG (K : PySem.W.Frag) (te : TE) : TI := fun σ H R => iList K te σ H R ∨ (iTup K te σ H R ∨ iStr te σ H R)
theorem pi_G {tg e : Expr} {te : TE} (he : PE X e te) : PI X tg e (iG X.K te) := PI_or (pi_list he) (PI_or (pi_tup he) (pi_str he))
def rSlLN (K : PySem.W.Frag) : V → Option Int → Option Int → Hp → VK → Prop := fun x lo hi H Q => ∃ a xs, x = .ref a ∧ SqL K H a xs ∧ New (.lst (cutV xs lo hi)) H Q
def rSlUN : V → Option Int → Option Int → Hp → VK → Prop := fun x lo hi H Q => ∃ a xs, x = .ref a ∧ H a = some (.tup xs) ∧ Got (.tup (cutV xs lo hi)) H Q
theorem cut_whole {xs : List V} {lo hi : Option Int} (h0 : HT.sIx xs.length 0 lo = 0) (h1 : HT.sIx xs.length xs.length hi = xs.length) : cutV xs lo hi = xs := by
  unfold cutV
  rw [h0, h1, List.drop_zero, Nat.sub_zero, List.take_length]
theorem sl_listN : SlR X (rSlLN X.K) := SlR_imp sl_list fun x lo hi H Q h => by
  obtain ⟨a, xs, rfl, h1, q⟩ := h
  exact ⟨a, xs, rfl, h1, q.at⟩
theorem sl_tupN : SlR X rSlUN := SlR_imp sl_tupA fun x lo hi H Q h => by
  obtain ⟨a, xs, rfl, h1, q⟩ := h
  refine ⟨a, xs, rfl, SqT.of h1, fun e => ?_, fun _ => q.new.at⟩
  exact q a H (Same.refl H) (by rw [cut_whole e.1 e.2]; exact h1)
def rSlG (K : PySem.W.Frag) : V → Option Int → Option Int → Hp → VK → Prop := fun x lo hi H Q => rSlLN K x lo hi H Q ∨ (rSlUN x lo hi H Q ∨ rSlS x lo hi H Q)
theorem sl_G : SlR X (rSlG X.K) := sl_listN.or (sl_tupN.or sl_str)
def tTupN (t : TA) : TE := fun σ H Q => t σ H fun xs H1 => xs.length ≤ sizeLine ∧ New (.tup xs) H1 Q
def tLstN (t : TA) : TE := fun σ H Q => t σ H fun xs H1 => xs.length ≤ sizeLine ∧ New (.lst xs) H1 Q
def upA (t : TA) : TA := fun σ H Q => ∃ Q0 : List V → Hp → Prop, t σ H Q0 ∧ ∀ vs H', Q0 vs H' → Q vs H'
theorem PA_up {es : List Expr} {t : TA} (h : PA X es t) : PA X es (upA t) := ⟨fun pos pins s σ H Q I q => by
  obtain ⟨Q0, q0, k⟩ := q
  refine thn (h.run pos pins s σ H Q0 I q0) fun us s' hh => ?_
  obtain ⟨vs, H', I', r, q'⟩ := hh
  exact ⟨vs, H', I', r, k vs H' q'⟩⟩
theorem pe_tupN {es : List Expr} {t : TA} {k : Nat} {pos : Pos} (h : PA X es t) : PE X (.Tuple es k pos) (tTupN t) :=
  PE_imp (pe_tup (PA_up h)) fun σ H Q q => ⟨_, q, fun vs H' z => ⟨z.1, z.2.at⟩⟩
theorem pe_lstN {es : List Expr} {t : TA} {pos : Pos} (h : PA X es t) : PE X (.List es pos) (tLstN t) :=
  PE_imp (pe_lst (PA_up h)) fun σ H Q q => ⟨_, q, fun vs H' z => ⟨z.1, z.2.at⟩⟩
/-- list(x): of a list, a tuple; of a text its signs -/
def sgs (l : List Nat) : List V := l.map fun c => .str ⟨#[c]⟩
def rListT : List V → Hp → VK → Prop := fun xs H Q => ∃ z : Str, xs = [.str z] ∧ z.cps.size ≤ sizeLine ∧ New (.lst (sgs z.cps.toList)) H Q
theorem call_listT (hc : X.calm = true) : CallR X (.type "list") rListT := by
  intro pins s σ H xs us Q I r h
  obtain ⟨z, rfl, hz, q⟩ := h
  obtain ⟨u, rfl, t, rfl⟩ := vals1 r
  refine call_list_str (I.ok.hd hc) z t (fun h' tk acc' c' hk hS hacc => ?_) hz
  have hv : Vals (sgs z.cps.toList) acc'.toList := by
    refine vals_of_at (by simp [sgs, hacc.1]) (fun j x u hx hu => ?_)
    have e1 : acc'[j]? = some u := by simpa using hu
    obtain ⟨c, k, hw1, rfl⟩ := hacc.2 j u e1
    have e2 : (V.str ⟨#[c]⟩ : V) = x := by
      unfold sgs at hx
      rw [List.getElem?_map, show z.cps.toList[j]? = some c by simpa using hw1] at hx
      exact Option.some.inj hx
    subst e2
    exact ⟨k, rfl⟩
  exact ⟨.ref s.heap.objs.size, _, I.laid (t' := tk) hk (Nat.le_refl _) (show ObjOk X.prog X.w _ h' _ (.lst _) from ⟨by simpa [sgs] using hz, acc'.toList, c', hv, by simpa using hS⟩), rfl, q.at _ (I.hok.fresh (Nat.le_refl _))⟩
def rListS (K : PySem.W.Frag) : List V → Hp → VK → Prop := fun xs H Q => ∃ p ys, xs = [.ref p] ∧ (SqL K H p ys ∨ SqT K H p ys) ∧ New (.lst ys) H Q
def rListG (K : PySem.W.Frag) : List V → Hp → VK → Prop := fun xs H Q => rListS K xs H Q ∨ rListT xs H Q
theorem call_listG (hc : X.calm = true) : CallR X (.type "list") (rListG X.K) := CallR.or (r := rListS X.K) (CallR_imp call_list_of fun xs H Q h => by
    obtain ⟨p, ys, rfl, h1, q⟩ := h
    exact ⟨p, ys, rfl, h1, q.at⟩) (call_listT hc)
def rTupN (K : PySem.W.Frag) : List V → Hp → VK → Prop := fun xs H Q => ∃ p ys, xs = [.ref p] ∧ ((SqL K H p ys ∧ New (.tup ys) H Q) ∨ (SqT K H p ys ∧ Q (.ref p) H))
theorem call_tupleN : CallR X (.type "tuple") (rTupN X.K) := CallR_imp call_tuple_of fun xs H Q h => by
  obtain ⟨p, ys, rfl, h | h⟩ := h
  · exact ⟨p, ys, rfl, .inl ⟨h.1, h.2.at⟩⟩
  · exact ⟨p, ys, rfl, .inr h⟩
def rSortN (K : PySem.W.Frag) : List V → Hp → VK → Prop := fun vs H Q => ∃ (a : Addr) (xs : List Str), vs = [V.ref a] ∧ SqL K H a (xs.map V.str) ∧ xs.length < 64 ∧
  ∀ (ys : List Str), ys.Perm xs → sortedS ys = true → New (.lst (ys.map V.str)) H Q
theorem cr_sortedN : CallR X (.builtin "sorted") (rSortN X.K) := CallR_imp cr_sortedS fun xs H Q h => by
  obtain ⟨a, xs, rfl, h1, h2, q⟩ := h
  exact ⟨a, xs, rfl, h1, h2, fun ys p e1 e2 => (q ys e1 e2).at p⟩
def rLenN (K : PySem.W.Frag) : List V → Hp → VK → Prop := fun xs H Q => ∃ x n, xs = [x] ∧ LenV K x H n ∧ Q (.int (n : Nat)) H
theorem call_lenN : CallR X (.builtin "len") (rLenN X.K) := call_len
/-! ### lists changed -/
/-- what is wanted behind a change of the list at l -/
def Chg (l : Addr) (xs : List V) (H : Hp) (Q : Hp → Prop) : Prop := ∀ H', But l H H' → H' l = some (.lst xs) → Q H'
theorem Chg.at {l : Addr} {xs : List V} {H : Hp} {Q : Hp → Prop} (h : Chg l xs H Q) : Q (upd H l (.lst xs)) := h _ But.upd upd_same
def rAppN : V → List V → Hp → VK → Prop := fun x vs H Q => ∃ l xs y, x = .ref l ∧ vs = [y] ∧ H l = some (.lst xs) ∧ xs.length < sizeLine ∧ Chg l (xs ++ [y]) H (Q .non)
def rPopN : V → List V → Hp → VK → Prop := fun x vs H Q => ∃ l xs i k y, x = .ref l ∧ vs = [.int i] ∧ H l = some (.lst xs) ∧ -(2 ^ 63) ≤ i ∧ i < 2 ^ 63 ∧ seqIndex? i xs.length = some k ∧ xs[k]? = some y ∧ Chg l (xs.eraseIdx k) H (Q y)
def rSetN : V → V → V → Hp → (Hp → Prop) → Prop := fun o i v H Q => ∃ p xs k j, o = .ref p ∧ i = .int k ∧ H p = some (.lst xs) ∧ ixN xs.length k = some j ∧ Chg p (xs.set j v) H Q
theorem mt_appN : MtR X "list.append" rAppN := MtM_imp mt_append fun x xs H Q h => by
  obtain ⟨l, xs, y, rfl, rfl, h1, h2, q⟩ := h
  exact ⟨l, xs, y, rfl, rfl, h1, h2, q.at⟩
theorem mt_popN : MtR X "list.pop" rPopN := MtM_imp mt_popAt fun x xs H Q h => by
  obtain ⟨l, xs, i, k, y, rfl, rfl, h1, h2, h3, h4, h5, q⟩ := h
  exact ⟨l, xs, i, k, y, rfl, rfl, h1, h2, h3, h4, h5, q.at⟩
theorem set_listN : PSet X rSetN := by
  intro pins s σ H o i v ov iv u Q I ro ri rv h
  refine set_list pins s σ H o i v ov iv u Q I ro ri rv ?_
  obtain ⟨p, xs, k, j, rfl, rfl, h1, h2, q⟩ := h
  exact ⟨p, xs, k, j, rfl, rfl, h1, h2, q.at⟩
/-! ### comparisons -/
def rCmpI (p : Int → Int → Bool) : R2 := fun x y H Q => ∃ i j, x = .int i ∧ y = .int j ∧ Q (.bl (p i j)) H
def rCmpS (p : List Nat → List Nat → Bool) : R2 := fun x y H Q => ∃ i j : Str, x = .str i ∧ y = .str j ∧ Q (.bl (p i.cps.toList j.cps.toList)) H
def rLtG : R2 := fun x y H Q => rCmpI (fun i j => decide (i < j)) x y H Q ∨ rCmpS (fun i j => decide (i < j)) x y H Q
theorem op_ltG : OpR X (compareOp .Lt) rLtG := OpR.or (r := rCmpI fun i j => decide (i < j)) (r' := rCmpS fun i j => decide (i < j)) op_lt op_lt_str
def rGtG : R2 := rCmpI fun i j => decide (j < i)
theorem op_gtG : OpR X (compareOp .Gt) rGtG := op_gt
def rGeG : R2 := rCmpI fun i j => decide (j ≤ i)
theorem op_geG : OpR X (compareOp .GtE) rGeG := op_ge
def rInSg : R2 := fun x y H Q => ∃ (c : Nat) (z : Str), x = .str ⟨#[c]⟩ ∧ y = .str z ∧ Q (.bl (decide (c ∈ z.cps.toList))) H
def rNiSg : R2 := fun x y H Q => ∃ (c : Nat) (z : Str), x = .str ⟨#[c]⟩ ∧ y = .str z ∧ Q (.bl (!decide (c ∈ z.cps.toList))) H
def rInG (K : PySem.W.Frag) : R2 := fun x y H Q => rInSg x y H Q ∨ rIn K false x y H Q
theorem op_inG : OpR X (compareOp .In) (rInG X.K) := OpR.or (r := rInSg) op_in_sign op_in_seq
def rNinG (K : PySem.W.Frag) : R2 := fun x y H Q => rNiSg x y H Q ∨ rIn K true x y H Q
theorem op_ninG : OpR X (compareOp .NotIn) (rNinG X.K) := OpR.or (r := rNiSg) op_notIn_sign op_notIn_seq
def rEqG (K : PySem.W.Frag) : R2 := fun x y H Q => rEq x y H Q ∨ rEqD K x y H Q
theorem op_eqG (hu : X.A.units + 64 < cLine) : OpR X (compareOp .Eq) (rEqG X.K) := op_eq.or (op_eqD hu)
def rNeG (K : PySem.W.Frag) : R2 := fun x y H Q => rNe x y H Q ∨ rNeD K x y H Q
theorem op_neG (hu : X.A.units + 64 < cLine) : OpR X (compareOp .NotEq) (rNeG X.K) := op_ne.or (op_neD hu)
def rIsiG (K : PySem.W.Frag) : List V → Hp → VK → Prop := fun xs H Q => rIsi K xs H Q ∨ rIsiT K xs H Q
theorem call_isiG : CallR X (.builtin "isinstance") (rIsiG X.K) := call_isi.or call_isiT
end
/-- the pen at p, its cells at c: n takes are left -/
def Pen (H : Hp) (p c : Addr) (n : Nat) : Prop := ∃ (cs : List Int) (k : Nat) (left : Int), H p = some (.lst [.ref c, .int k, .int left]) ∧ H c = some (.lst (cs.map V.int)) ∧ cs.length ≤ 12 ∧ k + n ≤ 1048576 ∧ c ≠ p
theorem Pen.less {H : Hp} {p c : Addr} {n m : Nat} (h : Pen H p c n) (hm : m ≤ n) : Pen H p c m := by
  obtain ⟨cs, k, l, h1, h2, h3, h4, h5⟩ := h
  exact ⟨cs, k, l, h1, h2, h3, by omega, h5⟩
theorem Pen.same {H H' : Hp} {p c : Addr} {n : Nat} (h : Pen H p c n) (s : Same H H') : Pen H' p c n := by
  obtain ⟨cs, k, l, h1, h2, h3, h4, h5⟩ := h
  exact ⟨cs, k, l, s _ _ h1, s _ _ h2, h3, h4, h5⟩
theorem Pen.at {H : Hp} {p c : Addr} {n : Nat} (h : Pen H p c n) : ∃ xs, H p = some (.lst xs) := by
  obtain ⟨cs, k, l, h1, h2, h3, h4, h5⟩ := h
  exact ⟨_, h1⟩
theorem Pen.atc {H : Hp} {p c : Addr} {n : Nat} (h : Pen H p c n) : ∃ xs, H c = some (.lst xs) := by
  obtain ⟨cs, k, l, h1, h2, h3, h4, h5⟩ := h
  exact ⟨_, h2⟩
theorem Pen.ts {H H' : Hp} {p c : Addr} {n : Nat} (h : Pen H p c n) (b : But p H H') : TS H H' := by
  obtain ⟨xs, e⟩ := h.at
  exact b.ts e
/-- a new address is neither the pen's nor its cells' -/
theorem Pen.ne {H : Hp} {p c D : Addr} {n : Nat} (h : Pen H p c n) (hD : H D = none) : p ≠ D ∧ c ≠ D := by
  obtain ⟨xs, e⟩ := h.at
  obtain ⟨ys, e2⟩ := h.atc
  exact ⟨ne_of_none e hD, ne_of_none e2 hD⟩
theorem Pen.chg {H H' : Hp} {p c D : Addr} {n : Nat} (h : Pen H p c n) (d : p ≠ D ∧ c ≠ D) (b : But D H H') : Pen H' p c n := by
  obtain ⟨cs, k, l, h1, h2, h3, h4, h5⟩ := h
  exact ⟨cs, k, l, b _ _ d.1 h1, b _ _ d.2 h2, h3, h4, h5⟩
/-- what is changed at D, new since H1, changes nothing of H -/
theorem But.chg {H H1 H4 H5 : Hp} {p D : Addr} (b : But p H H4) (b1 : But p H H1) (hD : H1 D = none) (b5 : But D H4 H5) : But p H H5 := fun b' o n e => b5 _ _ (ne_of_none (b1 _ _ n e) hD) (b _ _ n e)
theorem same_chg {H H1 H4 H5 : Hp} {D : Addr} (b : Same H H4) (b1 : Same H H1) (hD : H1 D = none) (b5 : But D H4 H5) : Same H H5 := fun b' o e => b5 _ _ (ne_of_none (b1 _ _ e) hD) (b _ _ e)
/-! ### small lists of ints read at a reckoned place -/
theorem fmod_in {a b : Int} (h : 0 < b) : 0 ≤ a.fmod b ∧ a.fmod b < b := ⟨Int.fmod_nonneg_of_pos a h, Int.fmod_lt_of_pos a h⟩
theorem at_of {α : Type} {xs : List α} {i : Int} (h0 : 0 ≤ i) (h1 : i < (xs.length : Int)) : ∃ v, atI xs i = some v ∧ v ∈ xs := by
  have hk : i.toNat < xs.length := by omega
  have ek : i = ((i.toNat : Nat) : Int) := by omega
  have q : atI xs ((i.toNat : Nat) : Int) = some (xs[i.toNat]'hk) := atI_nat (List.getElem?_eq_getElem hk)
  rw [← ek] at q
  exact ⟨_, q, List.getElem_mem hk⟩
theorem at_int {xs : List Int} {i : Int} (h0 : 0 ≤ i) (h1 : i < (xs.length : Int)) : ∃ v, atI (xs.map V.int) i = some (.int v) ∧ v ∈ xs := by
  obtain ⟨v, e, hv⟩ := at_of (xs := xs.map V.int) h0 (by rw [List.length_map]; exact h1)
  obtain ⟨w, hw, rfl⟩ := List.mem_map.mp hv
  exact ⟨w, e, hw⟩
theorem mul_in {a b A B : Int} (a0 : 0 ≤ a) (a1 : a < A) (b0 : 0 ≤ b) (b1 : b < B) : 0 ≤ a * b ∧ a * b < A * B := by
  refine ⟨Int.mul_nonneg a0 b0, ?_⟩
  have h1 : a * b ≤ A * b := Int.mul_le_mul_of_nonneg_right (by omega) b0
  have h2 : A * b < A * B := Int.mul_lt_mul_of_pos_left b1 (by omega)
  omega
theorem get_map {α : Type} {f : α → V} {xs : List α} {i : Nat} {x : V} (h : (xs.map f)[i]? = some x) : ∃ z, xs[i]? = some z ∧ x = f z := by
  rw [List.getElem?_map] at h
  cases e : xs[i]? with
  | none => rw [e] at h; cases h
  | some z => rw [e] at h; exact ⟨z, rfl, (Option.some.inj h).symm⟩
theorem szS {n : Nat} (h : Nat.ble n 1000 = true := by rfl) : n ≤ sizeLine := Nat.le_of_lt (small1000 (Nat.le_of_ble_eq_true h))
theorem ixN_of {n : Nat} {i : Int} (h0 : 0 ≤ i) (h1 : i < (n : Int)) : ixN n i = some i.toNat := by
  unfold ixN
  rw [if_pos h0, if_pos h1]
theorem cut_hi (xs : List V) (k : Nat) : cutV xs none (some (k : Int)) = xs.take k := by
  unfold cutV
  rw [HT.sIx_none, HT.sIx_nat, List.drop_zero, Nat.sub_zero]
  by_cases h : k ≤ xs.length
  · rw [Nat.min_eq_left h]
  · rw [Nat.min_eq_right (by omega), List.take_of_length_le (Nat.le_refl _), List.take_of_length_le (by omega)]
theorem cut_lohi (xs : List V) (j k : Nat) : cutV xs (some (j : Int)) (some (k : Int)) = (xs.drop j).take (k - j) := by
  unfold cutV
  rw [HT.sIx_nat, HT.sIx_nat]
  by_cases hj : j ≤ xs.length
  · rw [Nat.min_eq_left hj]
    by_cases h : k ≤ xs.length
    · rw [Nat.min_eq_left h]
    · rw [Nat.min_eq_right (by omega), List.take_of_length_le (by rw [List.length_drop]; omega), List.take_of_length_le (by rw [List.length_drop]; omega)]
  · rw [Nat.min_eq_right (by omega : xs.length ≤ j), List.drop_length, List.drop_eq_nil_of_le (by omega)]
    simp
theorem cut_lo (xs : List V) (j : Nat) : cutV xs (some (j : Int)) none = xs.drop j := by
  unfold cutV
  rw [HT.sIx_nat, HT.sIx_none]
  by_cases hj : j ≤ xs.length
  · rw [Nat.min_eq_left hj, List.take_of_length_le (by rw [List.length_drop]; omega)]
  · rw [Nat.min_eq_right (by omega : xs.length ≤ j), List.drop_length, List.drop_eq_nil_of_le (by omega)]
    simp
/-! ### the rules at a written part K by name (within a comprehension's block) -/
section
variable {X : Cx} (K : PySem.W.Frag)
theorem kLen (e : X.K = K) : CallR X (.builtin "len") (rLenN K) := e ▸ call_lenN
theorem kIsi (e : X.K = K) : CallR X (.builtin "isinstance") (rIsiG K) := e ▸ call_isiG
theorem kList (e : X.K = K) (hc : X.calm = true) : CallR X (.type "list") (rListG K) := e ▸ call_listG hc
theorem kTuple (e : X.K = K) : CallR X (.type "tuple") (rTupN K) := e ▸ call_tupleN
theorem kSorted (e : X.K = K) : CallR X (.builtin "sorted") (rSortN K) := e ▸ cr_sortedN
theorem kIx (e : X.K = K) : IxR X (rIx K) := e ▸ ix_seq
theorem kSl (e : X.K = K) : SlR X (rSlG K) := e ▸ sl_G
theorem kIn (e : X.K = K) : OpR X (compareOp .In) (rInG K) := e ▸ op_inG
theorem kNin (e : X.K = K) : OpR X (compareOp .NotIn) (rNinG K) := e ▸ op_ninG
theorem kEq (e : X.K = K) (hu : X.A.units + 64 < cLine) : OpR X (compareOp .Eq) (rEqG K) := e ▸ op_eqG hu
theorem kNe (e : X.K = K) (hu : X.A.units + 64 < cLine) : OpR X (compareOp .NotEq) (rNeG K) := e ▸ op_neG hu
theorem kAll (e : X.K = K) (hc : X.calm = true) : CallR X (.builtin "all") (rAll K) := e ▸ cr_all hc
theorem kAny (e : X.K = K) (hc : X.calm = true) : CallR X (.builtin "any") (rAny K) := e ▸ cr_any hc
theorem kG (e : X.K = K) {tg ex : Expr} {te : TE} (he : PE X ex te) : PI X tg ex (iG K te) := e ▸ pi_G he
theorem kTg (e : X.K = K) {es : List Expr} {k : Nat} {pos : Pos} {t : TGs} {n : Nat} (hc : X.calm = true) (h : PGs X es t)
    (hn : (assignEach es X.env).length = n := by rfl) (hst : (assignEach es X.env).findIdx? (·.1) = none := by rfl) : PG X (.Tuple es k pos) (gTup K n t) := e ▸ pg_tup hc h hn hst
theorem kBm (e : X.K = K) {T : String} {r : V → List V → Hp → VK → Prop} {ex : Expr} {to : TE} {t : TA} (h : PE X ex (tBM X.K T r to t)) : PE X ex (tBM K T r to t) := e ▸ h
theorem kBm0 (e : X.K = K) {T : String} {r : V → List V → Hp → VK → Prop} {ex : Expr} {to : TE} (h : PE X ex (tBM0 X.K T r to)) : PE X ex (tBM0 K T r to) := e ▸ h
def rJoin (K : PySem.W.Frag) : V → List V → Hp → VK → Prop := fun x xs H Q => ∃ a p, ∃ ys : List Str, x = .str a ∧ xs = [.ref p] ∧ (SqL K H p (ys.map V.str) ∨ SqT K H p (ys.map V.str)) ∧ (ys.map (·.length)).sum + ys.length * a.length ≤ 16777216 ∧ Q (.str (Txt.join a ys)) H
theorem kJoin (e : X.K = K) {o ex : Expr} {to te : TE} {apos pos : Pos} (ho : PE X o to) (he : PE X ex te) (hs : starEach [ex] X.env = [(false, eval ex X.env)] := by rfl) (hbase : attributeBase o "join" X.env (eval o X.env) = eval o X.env := by rfl) (hline : (apos.endLine == pos.line) = true := by rfl) :
    PE X (.Call (.Attribute o "join" apos) [ex] [] pos) (tM1 (rJoin K) to te) := by
  subst e
  exact pe_join ho he hs hbase hline
end
/-! ### walks -/
/-- a new pair of the i-th of xs and the i-th of ys, at a later heap -/
def YPairN (xs ys : Nat → Option V) : Nat → Hp → V → Hp → Prop := fun i H v H' => ∃ T x y, v = .ref T ∧ Same H H' ∧ H' T = some (.tup [x, y]) ∧ xs i = some x ∧ ys i = some y
theorem walkPair {J : It} {n : Nat} {G : Hp → Prop} {xs ys : Nat → Option V} (w : Walk J n G (YPair xs ys)) : Walk J n G (YPairN xs ys) := w.mono (fun _ h => h) fun i H x H' _ _ y => by
  obtain ⟨T, a, b, rfl, h1, rfl, h3, h4⟩ := y
  exact ⟨T, a, b, rfl, same_new h1, upd_same, h3, h4⟩
theorem walk_zipT {K : PySem.W.Frag} {a b : Addr} {xs ys : List V} {n : Nat} (hn : n = min xs.length ys.length) : Walk (ItzT K a b) n (fun H => SqT K H a xs ∧ SqT K H b ys) (YPair (fun i => xs[i]?) (fun i => ys[i]?)) := by
  have both : ∀ k, k < n → (∃ u, xs[k]? = some u) ∧ ∃ u, ys[k]? = some u := fun k hk =>
    ⟨⟨_, List.getElem?_eq_getElem (show k < xs.length by omega)⟩, ⟨_, List.getElem?_eq_getElem (show k < ys.length by omega)⟩⟩
  constructor
  · intro k _ hk st
    have ⟨⟨u, hu⟩, ⟨t, ht⟩⟩ := both k hk
    exact ⟨_, _, u, t, st.1, st.2, hu, ht⟩
  · exact fun _ st => ⟨_, _, st.1, st.2, by omega⟩
  · rintro k _ v _ - st ⟨pair, u, t, e1, e2, e3, left, right⟩
    exact ⟨pair, u, t, e1, e2, e3, left _ st.1, right _ st.2⟩
/-- a comprehension's state: Pv by the turn, what the new list at D holds, the heap -/
def LcI (D : Addr) (Pv : Nat → List V → Hp → Prop) (i : Nat) (H : Hp) : Prop := ∃ acc, acc.length ≤ i ∧ Pv i acc H ∧ H D = some (.lst acc)
theorem lcN {J : It} {n : Nat} {G : Hp → Prop} {Y : Nat → Hp → V → Hp → Prop} {g : TG} {tt : TT} {te : TE} {vs : List Nat} {σ : L2.St} {H1 : Hp} {D : Addr} {Qd : Hp → Prop} (w : Walk J n G Y) (hD : H1 D = none) (Pv : Nat → List V → Hp → Prop)
    (h0 : ∀ H', Same H1 H' → H' D = some (.lst []) → Pv 0 [] H') (hG : ∀ i acc H, i ≤ n → Pv i acc H → G H)
    (hs : ∀ i x acc H H', i < n → acc.length ≤ i → Pv i acc H → H D = some (.lst acc) → Y i H x H' → g x (wipe σ vs) H' fun σ2 H2 => wipe σ2 vs = wipe σ vs ∧ tt σ2 H2 fun b H3 =>
      if b = true then te σ2 H3 fun y H4 => ∃ acc, H4 D = some (.lst acc) ∧ acc.length < sizeLine ∧ LcI D Pv (i + 1) (upd H4 D (.lst (acc ++ [y]))) else LcI D Pv (i + 1) H3)
    (hd : ∀ acc H, acc.length ≤ n → Pv n acc H → H D = some (.lst acc) → Qd H) :
    ∃ W : Nat → Nat → Hp → Prop, (∃ m, W 0 m (upd H1 D (.lst []))) ∧ ∀ i m H, W i m H →
      (J.stop i H ∧ Qd H) ∨ (J.go i H ∧ ∃ Nx : Hp → Prop, (∀ H', Nx H' → ∃ m', m' < m ∧ W (i + 1) m' H') ∧ ∀ x H', J.yld i H x H' → g x (wipe σ vs) H' fun σ2 H2 => wipe σ2 vs = wipe σ vs ∧ tt σ2 H2 fun b H3 =>
        if b = true then te σ2 H3 fun y H4 => ∃ acc, H4 D = some (.lst acc) ∧ acc.length < sizeLine ∧ Nx (upd H4 D (.lst (acc ++ [y]))) else Nx H3) :=
  lc_it w (LcI D Pv) ⟨[], Nat.le_refl _, h0 _ (same_new hD) upd_same, upd_same⟩ (fun i H hi p => let ⟨acc, _, p, _⟩ := p; hG i acc H hi p)
    (fun i x H H' hi p y => let ⟨acc, hl, p, e⟩ := p; hs i x acc H H' hi hl p e y) (fun H p => let ⟨acc, hl, p, e⟩ := p; hd acc H hl p e)
/-- .. without an if -/
theorem lcN0 {J : It} {n : Nat} {G : Hp → Prop} {Y : Nat → Hp → V → Hp → Prop} {g : TG} {te : TE} {vs : List Nat} {σ : L2.St} {H1 : Hp} {D : Addr} {Qd : Hp → Prop} (w : Walk J n G Y) (hD : H1 D = none) (Pv : Nat → List V → Hp → Prop)
    (h0 : ∀ H', Same H1 H' → H' D = some (.lst []) → Pv 0 [] H') (hG : ∀ i acc H, i ≤ n → Pv i acc H → G H)
    (hs : ∀ i x acc H H', i < n → acc.length ≤ i → Pv i acc H → H D = some (.lst acc) → Y i H x H' → g x (wipe σ vs) H' fun σ2 H2 => wipe σ2 vs = wipe σ vs ∧ te σ2 H2 fun y H4 => ∃ acc, H4 D = some (.lst acc) ∧ acc.length < sizeLine ∧ LcI D Pv (i + 1) (upd H4 D (.lst (acc ++ [y]))))
    (hd : ∀ acc H, acc.length ≤ n → Pv n acc H → H D = some (.lst acc) → Qd H) :
    ∃ W : Nat → Nat → Hp → Prop, (∃ m, W 0 m (upd H1 D (.lst []))) ∧ ∀ i m H, W i m H →
      (J.stop i H ∧ Qd H) ∨ (J.go i H ∧ ∃ Nx : Hp → Prop, (∀ H', Nx H' → ∃ m', m' < m ∧ W (i + 1) m' H') ∧ ∀ x H', J.yld i H x H' → g x (wipe σ vs) H' fun σ2 H2 => wipe σ2 vs = wipe σ vs ∧ tYes σ2 H2 fun b H3 =>
        if b = true then te σ2 H3 fun y H4 => ∃ acc, H4 D = some (.lst acc) ∧ acc.length < sizeLine ∧ Nx (upd H4 D (.lst (acc ++ [y]))) else Nx H3) :=
  lcN (tt := tYes) w hD Pv h0 hG hs hd
theorem lcNext {D : Addr} {Pv : Nat → List V → Hp → Prop} {i : Nat} {H4 : Hp} {acc : List V} {y : V} (e : H4 D = some (.lst acc)) (hl : acc.length ≤ i) (hi : i < 100000) (k : ∀ H5, But D H4 H5 → H5 D = some (.lst (acc ++ [y])) → Pv (i + 1) (acc ++ [y]) H5) :
    ∃ acc, H4 D = some (.lst acc) ∧ acc.length < sizeLine ∧ LcI D Pv (i + 1) (upd H4 D (.lst (acc ++ [y]))) :=
  ⟨acc, e, by rw [sizeLine_eq]; omega, acc ++ [y], by rw [List.length_append]; exact Nat.succ_le_succ hl, k _ But.upd upd_same, upd_same⟩
/-! ### the reading, step by step -/
theorem modL {x y : V} {H : Hp} {Q : VK} {i j : Int} (hx : x = .int i) (hy : y = .int j) (hj : 0 < j) (h : ∀ r : Int, 0 ≤ r → r < j → Q (.int r) H) : rI (fun _ j => j ≠ 0) (fun i j => .int (i.fmod j)) x y H Q :=
  ⟨i, j, hx, hy, by omega, h _ (fmod_in hj).1 (fmod_in hj).2⟩
theorem mulR {i j : Int} (h : -(2 ^ 64) < j ∧ j < 2 ^ 64) : CMul i j := Or.inr h
theorem mulL {i j : Int} (h : -(2 ^ 64) < i ∧ i < 2 ^ 64) : CMul i j := Or.inl h
end Fo

namespace Fo
open PySem PySem.Spec PyProof.Rows L2 TL
/-! ### texts as lists of codes -/
abbrev Cs := List Nat
def tx (l : Cs) : Str := ⟨l.toArray⟩
theorem tl_tx (l : Cs) : tl (tx l) = l := rfl
theorem tx_tl (x : Str) : tx (tl x) = x := mk_tl x
theorem tx_len (l : Cs) : (tx l).length = l.length := by rw [len_tl, tl_tx]
theorem tx_inj {l m : Cs} (h : tx l = tx m) : l = m := by rw [← tl_tx l, h, tl_tx]
theorem tx_app (l m : Cs) : tx l ++ tx m = tx (l ++ m) := ext_tl (by rw [tl_append, tl_tx, tl_tx, tl_tx])
theorem tx_nil : (("" : String) : Str) = tx [] := by decide +kernel
theorem tx_one (c : Nat) : (⟨#[c]⟩ : Str) = tx [c] := rfl
theorem joinL_nil : ∀ l : List Cs, joinL [] l = l.flatten
  | [] => rfl
  | [a] => by simp [joinL]
  | a :: b :: r => by
    show a ++ ([] ++ joinL [] (b :: r)) = a ++ (b :: r).flatten
    rw [joinL_nil (b :: r), List.nil_append]
theorem join_tx (parts : List Cs) : Txt.join (("" : String) : Str) (parts.map tx) = tx parts.flatten := by
  refine ext_tl ?_
  rw [join_eq, tl_join, tx_nil, tl_tx, List.map_map, tl_tx]
  have e : parts.map (tl ∘ tx) = parts := by
    rw [show (tl ∘ tx) = (id : Cs → Cs) from funext fun l => rfl, List.map_id]
  rw [e, joinL_nil]
theorem flat_len (parts : List Cs) : ((parts.map tx).map (·.length)).sum = parts.flatten.length := by
  rw [List.length_flatten, List.map_map]
  have e : ((fun x : Str => x.length) ∘ tx) = List.length := funext fun l => tx_len l
  rw [e]
theorem flat_ones : ∀ t : Cs, (t.map fun c => [c]).flatten = t
  | [] => rfl
  | a :: r => by
    show [a] ++ (r.map fun c => [c]).flatten = a :: r
    rw [flat_ones r]
    rfl
theorem sgs_ones (t : Cs) : sgs t = ((t.map fun c => [c]).map tx).map V.str := by
  unfold sgs
  rw [List.map_map, List.map_map]
  rfl
theorem sgs_app (t : Cs) (k : Nat) : sgs t ++ [.str ⟨#[k]⟩] = sgs (t ++ [k]) := by
  unfold sgs
  rw [List.map_append]
  rfl
theorem idx_le : ∀ {l : Cs} {i : Nat} {hl : i < l.length} {c : Nat}, l[i] = c → ¬ i < l.idxOf c
  | a :: l, 0, _, c, h => by
    have e : a = c := h
    subst e
    rw [List.idxOf_cons_self]
    omega
  | a :: l, i + 1, hl, c, h => by
    have h2 : l[i]'(by simpa using hl) = c := by simpa using h
    rw [List.idxOf_cons]
    have ih := idx_le h2
    cases (a == c) with
    | true => simp
    | false => simp; omega
theorem occ_sign {l : Cs} {c : Nat} (h : c ∈ l) : ∃ rest, Builtin.Str.occurrences (tx l) ⟨#[c]⟩ 0 (tx l).length 1 = l.idxOf c :: rest := by
  have at_iff : ∀ i, StrLaws.At (tx l) ⟨#[c]⟩ (tx l).length i ↔ l[i]? = some c := fun i => StrLaws.subAt_one (tx l) c i
  have hi : l[l.idxOf c]? = some c := by
    have hlt := List.idxOf_lt_length_iff.mpr h
    rw [List.getElem?_eq_getElem hlt, List.getElem_idxOf hlt]
  rcases StrLaws.occ_head (tx l) ⟨#[c]⟩ 1 (Nat.le_refl 1) with ⟨_, hn⟩ | ⟨i, r, e, ha, hn⟩
  · exact absurd ((at_iff _).mpr hi) (hn _)
  · have h1 := (at_iff i).mp ha
    have h2 : ¬ l.idxOf c < i := fun z => hn _ z ((at_iff _).mpr hi)
    have h3 : ¬ i < l.idxOf c := fun z => by
      obtain ⟨hl, hg⟩ := List.getElem?_eq_some_iff.mp h1
      exact idx_le hg z
    have e2 : i = l.idxOf c := by omega
    exact ⟨r, by rw [e, e2]⟩
/-! ### signs drawn out of a pool -/
theorem erase_perm {α : Type} : ∀ {l : List α} {k : Nat} {y : α}, l[k]? = some y → (y :: l.eraseIdx k).Perm l
  | [], k, y, h => by simp at h
  | a :: l, 0, y, h => by
    have e : a = y := by simpa using h
    subst e
    exact List.Perm.refl _
  | a :: l, k + 1, y, h => by
    have h2 : l[k]? = some y := by simpa using h
    exact (List.Perm.swap a y _).trans (List.Perm.cons a (erase_perm h2))
theorem erase_map {α β : Type} (f : α → β) : ∀ (l : List α) (k : Nat), (l.map f).eraseIdx k = (l.eraseIdx k).map f
  | [], _ => rfl
  | _ :: _, 0 => rfl
  | a :: l, k + 1 => by
    show f a :: (l.map f).eraseIdx k = f a :: (l.eraseIdx k).map f
    rw [erase_map f l k]
def one (c : Nat) : Str := ⟨#[c]⟩
theorem one_of {t : Cs} {ys : List Str} (h : ys.Perm (t.map one)) : ∃ u : Cs, ys = u.map one ∧ u.Perm t := by
  have hb : ∀ l : Cs, (l.map one).map (fun x => (TL.tl x).headD 0) = l := fun l => by
    induction l with
    | nil => rfl
    | cons a r ih =>
      rw [List.map_cons, List.map_cons, ih]
      rfl
  refine ⟨ys.map fun x => (TL.tl x).headD 0, ?_, by have := h.map (fun x => (TL.tl x).headD 0); rw [hb] at this; exact this⟩
  have hm : ∀ x ∈ ys, ∃ c, x = one c := fun x hx => by
    obtain ⟨c, _, e⟩ := List.mem_map.mp (h.mem_iff.mp hx)
    exact ⟨c, e.symm⟩
  clear h
  induction ys with
  | nil => rfl
  | cons a r ih =>
    obtain ⟨c, rfl⟩ := hm a (List.mem_cons_self ..)
    rw [List.map_cons, List.map_cons, ← ih (fun x hx => hm x (List.mem_cons_of_mem _ hx))]
    rfl
theorem rise_of : ∀ (r : Cs) (p : Nat), risingS (one p) (r.map one) = true → (p :: r).Pairwise (· ≤ ·)
  | [], p, _ => List.pairwise_singleton _ _
  | x :: r, p, h => by
    have h' : (!ltCps [x] [p] && risingS (one x) (r.map one)) = true := h
    rw [Bool.and_eq_true] at h'
    have ih := rise_of r x h'.2
    have hx : p ≤ x := by
      have z := h'.1
      simp [ltCps] at z
      omega
    refine List.pairwise_cons.mpr ⟨fun y hy => ?_, ih⟩
    rcases List.mem_cons.mp hy with rfl | hy
    · exact hx
    · exact Nat.le_trans hx ((List.pairwise_cons.mp ih).1 y hy)
theorem sorted_of {u : Cs} (h : sortedS (u.map one) = true) : u.Pairwise (· ≤ ·) := by
  cases u with
  | nil => exact List.Pairwise.nil
  | cons a r => exact rise_of r a h
theorem strict_of {u : Cs} (h : u.Pairwise (· ≤ ·)) (n : u.Nodup) : u.Pairwise (· < ·) := by
  induction u with
  | nil => exact List.Pairwise.nil
  | cons a r ih =>
    obtain ⟨h1, h2⟩ := List.pairwise_cons.mp h
    obtain ⟨n1, n2⟩ := List.nodup_cons.mp n
    refine List.pairwise_cons.mpr ⟨fun y hy => ?_, ih h2 n2⟩
    have := h1 y hy
    have : a ≠ y := fun e => n1 (e ▸ hy)
    omega
def poolL : Cs := ((List.range 94).map (· + 33)).filter (· ≠ 37)
theorem poolL_len : poolL.length = 93 := by decide +kernel
theorem poolL_nodup : poolL.Nodup := by decide +kernel
theorem poolL_in : ∀ c ∈ poolL, 33 ≤ c ∧ c ≤ 126 := by decide +kernel
/-- a text of signs, unlike, sorted -/
structure Sgs (t : Cs) (n : Nat) : Prop where
  len : t.length = n
  up : t.Pairwise (· < ·)
  sub : ∀ c ∈ t, 33 ≤ c ∧ c ≤ 126
theorem sgs_of {t u rest : Cs} {n : Nat} (hp : (t ++ rest).Perm poolL) (hl : t.length = n) (hu : u.Perm t) (hs : sortedS (u.map one) = true) : Sgs u n := by
  have hn : (t ++ rest).Nodup := hp.nodup_iff.mpr poolL_nodup
  have hnu : u.Nodup := hu.nodup_iff.mpr (List.nodup_append.mp hn).1
  refine ⟨hu.length_eq.trans hl, strict_of (sorted_of hs) hnu, fun c hc => ?_⟩
  exact poolL_in c (hp.mem_iff.mp (List.mem_append_left _ (hu.mem_iff.mp hc)))
/-! ### data of tuples -/
mutual
inductive Tv (H : Hp) : V → PyData → Prop
  | non : Tv H .non .none
  | bl (b : Bool) : Tv H (.bl b) (.bool b)
  | int (i : Int) : Tv H (.int i) (.int i)
  | str (x : Str) : Tv H (.str x) (.str x)
  | tup {a : Addr} {xs : List V} {ds : List PyData} : H a = some (.tup xs) → TvA H xs ds → Tv H (.ref a) (.tuple ds)
inductive TvA (H : Hp) : List V → List PyData → Prop
  | nil : TvA H [] []
  | cons {v : V} {vs : List V} {d : PyData} {ds : List PyData} : Tv H v d → TvA H vs ds → TvA H (v :: vs) (d :: ds)
end
mutual
theorem Tv.ts {H H' : Hp} (t : TS H H') : ∀ (d : PyData) (v : V), Tv H v d → Tv H' v d
  | .none, _, h => by cases h; exact .non
  | .bool b, _, h => by cases h; exact .bl b
  | .int i, _, h => by cases h; exact .int i
  | .str x, _, h => by cases h; exact .str x
  | .tuple ds, _, h => by
    cases h with
    | tup h1 h2 => exact .tup (t _ _ h1) (TvA.ts t ds _ h2)
  | .list _, _, h => by cases h
  | .dict _, _, h => by cases h
theorem TvA.ts {H H' : Hp} (t : TS H H') : ∀ (ds : List PyData) (vs : List V), TvA H vs ds → TvA H' vs ds
  | [], _, h => by cases h; exact .nil
  | d :: ds, _, h => by
    cases h with
    | cons h1 h2 => exact .cons (Tv.ts t d _ h1) (TvA.ts t ds _ h2)
end
mutual
theorem Tv.dp {K : PySem.W.Frag} {H : Hp} : ∀ (d : PyData) (v : V), Tv H v d → Dp K H v d
  | .none, _, h => by cases h; exact .non
  | .bool b, _, h => by cases h; exact .bl b
  | .int i, _, h => by cases h; exact .int i
  | .str x, _, h => by cases h; exact .str x
  | .tuple ds, _, h => by
    cases h with
    | tup h1 h2 => exact .tup (SqT.of h1) (TvA.dp ds _ h2)
  | .list _, _, h => by cases h
  | .dict _, _, h => by cases h
theorem TvA.dp {K : PySem.W.Frag} {H : Hp} : ∀ (ds : List PyData) (vs : List V), TvA H vs ds → DpAll K H vs ds
  | [], _, h => by cases h; exact .nil
  | d :: ds, _, h => by
    cases h with
    | cons h1 h2 => exact .cons (Tv.dp d _ h1) (TvA.dp ds _ h2)
end
theorem Tv.mv {H H' : Hp} {d : PyData} {v : V} (h : Tv H v d) (t : TS H H') : Tv H' v d := Tv.ts t d v h
theorem TvA.mv {H H' : Hp} {ds : List PyData} {vs : List V} (h : TvA H vs ds) (t : TS H H') : TvA H' vs ds := TvA.ts t ds vs h
theorem Tv.tupI {H : Hp} {v : V} {ds : List PyData} (h : Tv H v (.tuple ds)) : ∃ a xs, v = .ref a ∧ H a = some (.tup xs) ∧ TvA H xs ds := by
  cases h with
  | tup h1 h2 => exact ⟨_, _, rfl, h1, h2⟩
theorem Tv.intI {H : Hp} {v : V} {i : Int} (h : Tv H v (.int i)) : v = .int i := by cases h; rfl
theorem Tv.strI {H : Hp} {v : V} {x : Str} (h : Tv H v (.str x)) : v = .str x := by cases h; rfl
theorem Tv.nonI {H : Hp} {v : V} (h : Tv H v .none) : v = .non := by cases h; rfl
theorem Tv.blI {H : Hp} {v : V} {b : Bool} (h : Tv H v (.bool b)) : v = .bl b := by cases h; rfl
theorem TvA.len {H : Hp} : ∀ {ds : List PyData} {vs : List V}, TvA H vs ds → vs.length = ds.length
  | [], _, h => by cases h; rfl
  | d :: ds, _, h => by
    cases h with
    | cons h1 h2 => rw [List.length_cons, List.length_cons, TvA.len h2]
theorem TvA.get {H : Hp} : ∀ {ds : List PyData} {vs : List V} {i : Nat} {d : PyData}, TvA H vs ds → ds[i]? = some d → ∃ x, vs[i]? = some x ∧ Tv H x d
  | [], _, i, d, h, e => by simp at e
  | d0 :: ds, _, i, d, h, e => by
    cases h with
    | cons h1 h2 =>
      cases i with
      | zero => simp at e; subst e; exact ⟨_, rfl, h1⟩
      | succ i =>
        obtain ⟨x, e1, e2⟩ := TvA.get (i := i) h2 (by simpa using e)
        exact ⟨x, by simpa using e1, e2⟩
theorem TvA.nilI {H : Hp} {vs : List V} (h : TvA H vs []) : vs = [] := by cases h; rfl
theorem TvA.consI {H : Hp} {vs : List V} {d : PyData} {ds : List PyData} (h : TvA H vs (d :: ds)) : ∃ x r, vs = x :: r ∧ Tv H x d ∧ TvA H r ds := by
  cases h with
  | cons h1 h2 => exact ⟨_, _, rfl, h1, h2⟩
theorem TvA.snoc {H : Hp} : ∀ {ds : List PyData} {vs : List V} {d : PyData} {v : V}, TvA H vs ds → Tv H v d → TvA H (vs ++ [v]) (ds ++ [d])
  | [], _, d, v, h, hv => by cases h; exact .cons hv .nil
  | d0 :: ds, _, d, v, h, hv => by
    cases h with
    | cons h1 h2 => exact .cons h1 (TvA.snoc h2 hv)
theorem TvA.strs {H : Hp} : ∀ (xs : List Str), TvA H (xs.map V.str) (xs.map PyData.str)
  | [] => .nil
  | x :: r => .cons (.str x) (TvA.strs r)
theorem TvA.app {H : Hp} : ∀ {ds es : List PyData} {vs ws : List V}, TvA H vs ds → TvA H ws es → TvA H (vs ++ ws) (ds ++ es)
  | [], _, _, _, h, h' => by cases h; exact h'
  | d0 :: ds, _, _, _, h, h' => by
    cases h with
    | cons h1 h2 => exact .cons h1 (TvA.app h2 h')
theorem TvA.take {H : Hp} : ∀ {ds : List PyData} {vs : List V} (n : Nat), TvA H vs ds → TvA H (vs.take n) (ds.take n)
  | _, _, 0, _ => .nil
  | [], _, n + 1, h => by cases h; exact .nil
  | d0 :: ds, _, n + 1, h => by
    cases h with
    | cons h1 h2 => exact .cons h1 (TvA.take n h2)
theorem TvA.drop {H : Hp} : ∀ {ds : List PyData} {vs : List V} (n : Nat), TvA H vs ds → TvA H (vs.drop n) (ds.drop n)
  | _, _, 0, h => h
  | [], _, n + 1, h => by cases h; exact .nil
  | d0 :: ds, _, n + 1, h => by
    cases h with
    | cons h1 h2 => exact TvA.drop n h2
/-! ### data of tuples and lists -/
mutual
inductive Lv (H : Hp) : V → PyData → Prop
  | non : Lv H .non .none
  | bl (b : Bool) : Lv H (.bl b) (.bool b)
  | int (i : Int) : Lv H (.int i) (.int i)
  | str (x : Str) : Lv H (.str x) (.str x)
  | tup {a : Addr} {xs : List V} {ds : List PyData} : H a = some (.tup xs) → LvA H xs ds → Lv H (.ref a) (.tuple ds)
  | lst {a : Addr} {xs : List V} {ds : List PyData} : H a = some (.lst xs) → LvA H xs ds → Lv H (.ref a) (.list ds)
inductive LvA (H : Hp) : List V → List PyData → Prop
  | nil : LvA H [] []
  | cons {v : V} {vs : List V} {d : PyData} {ds : List PyData} : Lv H v d → LvA H vs ds → LvA H (v :: vs) (d :: ds)
end
mutual
theorem Lv.sm {H H' : Hp} (t : Same H H') : ∀ (d : PyData) (v : V), Lv H v d → Lv H' v d
  | .none, _, h => by cases h; exact .non
  | .bool b, _, h => by cases h; exact .bl b
  | .int i, _, h => by cases h; exact .int i
  | .str x, _, h => by cases h; exact .str x
  | .tuple ds, _, h => by
    cases h with
    | tup h1 h2 => exact .tup (t _ _ h1) (LvA.sm t ds _ h2)
  | .list ds, _, h => by
    cases h with
    | lst h1 h2 => exact .lst (t _ _ h1) (LvA.sm t ds _ h2)
  | .dict _, _, h => by cases h
theorem LvA.sm {H H' : Hp} (t : Same H H') : ∀ (ds : List PyData) (vs : List V), LvA H vs ds → LvA H' vs ds
  | [], _, h => by cases h; exact .nil
  | d :: ds, _, h => by
    cases h with
    | cons h1 h2 => exact .cons (Lv.sm t d _ h1) (LvA.sm t ds _ h2)
end
mutual
theorem Tv.lv {H : Hp} : ∀ (d : PyData) (v : V), Tv H v d → Lv H v d
  | .none, _, h => by cases h; exact .non
  | .bool b, _, h => by cases h; exact .bl b
  | .int i, _, h => by cases h; exact .int i
  | .str x, _, h => by cases h; exact .str x
  | .tuple ds, _, h => by
    cases h with
    | tup h1 h2 => exact .tup h1 (TvA.lv ds _ h2)
  | .list _, _, h => by cases h
  | .dict _, _, h => by cases h
theorem TvA.lv {H : Hp} : ∀ (ds : List PyData) (vs : List V), TvA H vs ds → LvA H vs ds
  | [], _, h => by cases h; exact .nil
  | d :: ds, _, h => by
    cases h with
    | cons h1 h2 => exact .cons (Tv.lv d _ h1) (TvA.lv ds _ h2)
end
theorem LvA.len {H : Hp} : ∀ {ds : List PyData} {vs : List V}, LvA H vs ds → vs.length = ds.length
  | [], _, h => by cases h; rfl
  | d :: ds, _, h => by
    cases h with
    | cons h1 h2 => rw [List.length_cons, List.length_cons, LvA.len h2]
theorem LvA.at {H : Hp} : ∀ {ds : List PyData} {vs : List V} {i : Nat} {x : V}, LvA H vs ds → vs[i]? = some x → ∃ d, ds[i]? = some d ∧ Lv H x d
  | [], _, i, x, h, e => by cases h; simp at e
  | d0 :: ds, _, i, x, h, e => by
    cases h with
    | cons h1 h2 =>
      cases i with
      | zero => simp at e; subst e; exact ⟨_, rfl, h1⟩
      | succ i =>
        obtain ⟨d, e1, e2⟩ := LvA.at (i := i) h2 (by simpa using e)
        exact ⟨d, by simpa using e1, e2⟩
/-- how deep a data value is: within n -/
def SD : Nat → PyData → Prop
  | 0, _ => False
  | _ + 1, .none => True
  | _ + 1, .bool _ => True
  | _ + 1, .int _ => True
  | _ + 1, .str _ => True
  | _ + 1, .dict _ => False
  | n + 1, .tuple ds => ds.length ≤ 50000 ∧ ∀ d ∈ ds, SD n d
  | n + 1, .list ds => ds.length ≤ 50000 ∧ ∀ d ∈ ds, SD n d
/-- isinstance of one class, of two -/
theorem isi1 {K : PySem.W.Frag} {H : Hp} {x : V} {T S : String} {b : Bool} {Q : VK} (ty : TyX K H x (.type T)) (k : kitB T S = some b) (q : Q (.bl b) H) : rIsiG K [x, .ty S] H Q :=
  .inl ⟨x, .ty S, .type T, .type S, b, rfl, .ty S, ty, kit_ty k, q⟩
theorem isi2 {K : PySem.W.Frag} {H : Hp} {x : V} {T S S' : String} {b b' : Bool} {tp : Addr} {Q : VK} (e : H tp = some (.tup [.ty S, .ty S'])) (ty : TyX K H x (.type T)) (k : kitB T S = some b) (k' : kitB T S' = some b') (q : Q (.bl (b || b')) H) : rIsiG K [x, .ref tp] H Q :=
  .inr ⟨x, tp, [.ty S, .ty S'], .type T, [.type S, .type S'], b || b', rfl, e, .cons (.ty S) (.cons (.ty S') .nil), ty,
    kitAny_cons (kit_ty k) (fun h => kitAny_cons (kit_ty k') (fun h' => by rw [h, h']; exact kitAny_nil) (fun h' => by rw [h']; exact Bool.or_true _)) (fun h => by rw [h]; rfl), q⟩
theorem notin_true : ∀ n : Nat, inV (.bl false) (List.replicate n (.bl true)) = false
  | 0 => rfl
  | n + 1 => by
    show (eqV (.bl true) (.bl false) || inV (.bl false) (List.replicate n (.bl true))) = false
    rw [notin_true n]
    rfl
theorem flat_true : ∀ n : Nat, (List.replicate n (V.bl true)).all flatV = true
  | 0 => rfl
  | n + 1 => by
    show (flatV (.bl true) && (List.replicate n (V.bl true)).all flatV) = true
    rw [flat_true n]
    rfl
/-! ### readers -/
structure Sta where
  ways : List (Nat × Cs)
  fin : Option Cs
  deriving DecidableEq
structure Rdr where
  reads : Cs
  tells : Cs
  states : List Sta
  deriving DecidableEq
instance : Inhabited Sta := ⟨⟨[], none⟩⟩
def dO : Option Cs → PyData
  | none => .none
  | some t => .str (tx t)
def dW (w : Nat × Cs) : PyData := .tuple [.int w.1, .str (tx w.2)]
def dS (s : Sta) : PyData := .tuple [.tuple (s.ways.map dW), dO s.fin]
def dR (r : Rdr) : PyData := .tuple [.str (tx r.reads), .str (tx r.tells), .tuple (r.states.map dS)]
/-- what reading it asks, no told text longer than B -/
structure Rdr.Ok (r : Rdr) (B : Nat) : Prop where
  ne : 0 < r.states.length
  ways : ∀ s ∈ r.states, s.ways.length = r.reads.length
  there : ∀ s ∈ r.states, ∀ w ∈ s.ways, w.1 < r.states.length ∧ w.2.length ≤ B
  fins : ∀ s ∈ r.states, ∀ t, s.fin = some t → t.length ≤ B
def Rdr.sta (r : Rdr) (s : Nat) : Sta := r.states.getD s default
def Rdr.go (r : Rdr) (s : Nat) (c : Nat) : Nat × Cs := (r.sta s).ways.getD (r.reads.idxOf c) (0, [])
def Rdr.run (r : Rdr) : Nat → Cs → Nat × Cs
  | s, [] => (s, [])
  | s, c :: cs => ((r.run (r.go s c).1 cs).1, (r.go s c).2 ++ (r.run (r.go s c).1 cs).2)
theorem Rdr.run_app (r : Rdr) : ∀ (l m : Cs) (s : Nat), r.run s (l ++ m) = ((r.run (r.run s l).1 m).1, (r.run s l).2 ++ (r.run (r.run s l).1 m).2)
  | [], m, s => rfl
  | c :: l, m, s => by
    show ((r.run (r.go s c).1 (l ++ m)).1, (r.go s c).2 ++ (r.run (r.go s c).1 (l ++ m)).2) = _
    rw [Rdr.run_app r l m]
    show _ = (_, ((r.go s c).2 ++ (r.run (r.go s c).1 l).2) ++ _)
    rw [List.append_assoc]
    rfl
theorem Rdr.run_one (r : Rdr) (s c : Nat) : r.run s [c] = r.go s c := by
  show ((r.go s c).1, (r.go s c).2 ++ []) = _
  rw [List.append_nil]
theorem Rdr.run_snoc (r : Rdr) (l : Cs) (c s : Nat) : r.run s (l ++ [c]) = ((r.go (r.run s l).1 c).1, (r.run s l).2 ++ (r.go (r.run s l).1 c).2) := by
  rw [Rdr.run_app, Rdr.run_one]
theorem Rdr.sta_at {r : Rdr} {s : Nat} (h : s < r.states.length) : r.states[s]? = some (r.sta s) := by
  unfold Rdr.sta
  rw [List.getD_eq_getElem?_getD, List.getElem?_eq_getElem h]
  rfl
theorem Rdr.sta_mem {r : Rdr} {s : Nat} (h : s < r.states.length) : r.sta s ∈ r.states := List.mem_of_getElem? (Rdr.sta_at h)
theorem Rdr.go_at {r : Rdr} {B s c : Nat} (o : r.Ok B) (h : s < r.states.length) (hc : c ∈ r.reads) : (r.sta s).ways[r.reads.idxOf c]? = some (r.go s c) := by
  have hl := o.ways _ (Rdr.sta_mem h)
  have hi := List.idxOf_lt_length_iff.mpr hc
  unfold Rdr.go
  rw [List.getD_eq_getElem?_getD, List.getElem?_eq_getElem (by omega)]
  rfl
theorem Rdr.go_ok {r : Rdr} {B s c : Nat} (o : r.Ok B) (h : s < r.states.length) (hc : c ∈ r.reads) : (r.go s c).1 < r.states.length ∧ (r.go s c).2.length ≤ B :=
  o.there _ (Rdr.sta_mem h) _ (List.mem_of_getElem? (Rdr.go_at o h hc))
theorem Rdr.run_ok {r : Rdr} {B : Nat} (o : r.Ok B) : ∀ (l : Cs) (s : Nat), s < r.states.length → (∀ c ∈ l, c ∈ r.reads) → (r.run s l).1 < r.states.length ∧ (r.run s l).2.length ≤ l.length * B
  | [], s, h, _ => ⟨h, Nat.zero_le _⟩
  | c :: l, s, h, hl => by
    have g := Rdr.go_ok o h (hl c (List.mem_cons_self ..))
    have q := Rdr.run_ok o l _ g.1 (fun x hx => hl x (List.mem_cons_of_mem _ hx))
    refine ⟨q.1, ?_⟩
    show ((r.go s c).2 ++ (r.run (r.go s c).1 l).2).length ≤ (l.length + 1) * B
    rw [List.length_append, Nat.succ_mul]
    omega
/-- the telling -/
def Rdr.telling (r : Rdr) (l : Cs) : Option Cs := (r.sta (r.run 0 l).1).fin.map ((r.run 0 l).2 ++ ·)
/-- a state as the document has it: R ways, below N, told at most B signs of T, an end of at most E -/
structure StaVal (R N B E : Nat) (T : Cs) (s : Sta) : Prop where
  len : s.ways.length = R
  way : ∀ w ∈ s.ways, w.1 < N ∧ w.2.length ≤ B ∧ ∀ c ∈ w.2, c ∈ T
  fin : ∀ t, s.fin = some t → t.length ≤ E ∧ ∀ c ∈ t, c ∈ T
structure Rdr.Val (r : Rdr) (B E : Nat) : Prop where
  ne : 0 < r.states.length
  sta : ∀ s ∈ r.states, StaVal r.reads.length r.states.length B E r.tells s
theorem Rdr.Val.ok {r : Rdr} {B E M : Nat} (v : r.Val B E) (hB : B ≤ M) (hE : E ≤ M) : r.Ok M :=
  ⟨v.ne, fun s hs => (v.sta s hs).len, fun s hs w hw => let z := (v.sta s hs).way w hw; ⟨z.1, Nat.le_trans z.2.1 hB⟩, fun s hs t ht => Nat.le_trans ((v.sta s hs).fin t ht).1 hE⟩
theorem succ_cost {m k C : Nat} (h : k < m) : (m - k) * C = (m - (k + 1)) * C + C := by
  rw [show m - k = (m - (k + 1)) + 1 by omega, Nat.succ_mul]
theorem end_of {H : Hp} {v : V} {t T : Cs} {E : Nat} (hv : v ∈ [V.str (tx t), V.str (("" : String) : Str), V.str (("" : String) : Str), V.non]) (ht : t.length ≤ E) (hs : ∀ c ∈ t, c ∈ T) :
    ∃ f : Option Cs, Tv H v (dO f) ∧ ∀ u, f = some u → u.length ≤ E ∧ ∀ c ∈ u, c ∈ T := by
  have h0 : ∃ f : Option Cs, Tv H (V.str (("" : String) : Str)) (dO f) ∧ ∀ u, f = some u → u.length ≤ E ∧ ∀ c ∈ u, c ∈ T := by
    refine ⟨some [], ?_, fun u e => ?_⟩
    · rw [tx_nil]
      exact .str _
    · cases e
      exact ⟨Nat.zero_le _, fun _ h => nomatch h⟩
  rcases List.mem_cons.mp hv with rfl | hv
  · exact ⟨some t, .str _, fun u e => by cases e; exact ⟨ht, hs⟩⟩
  rcases List.mem_cons.mp hv with rfl | hv
  · exact h0
  rcases List.mem_cons.mp hv with rfl | hv
  · exact h0
  · rw [List.mem_singleton.mp hv]
    exact ⟨none, .non, fun u e => nomatch e⟩
theorem min_in {r : Int} (h : 0 ≤ r) : 0 ≤ (if r < 3 then r else 3) ∧ (if r < 3 then r else 3) < 4 := by
  by_cases c : r < 3
  · rw [if_pos c]
    omega
  · rw [if_neg c]
    omega
/-- a data value is handed back -/
def Ret (d : PyData) (H : Hp) (Q : VK) : Prop := ∀ x H', Same H H' → Tv H' x d → Q x H'
theorem Tv.dR {H : Hp} {v : V} {r : Rdr} (h : Tv H v (dR r)) : ∃ a ss xs, v = .ref a ∧ H a = some (.tup [.str (tx r.reads), .str (tx r.tells), .ref ss]) ∧ H ss = some (.tup xs) ∧ TvA H xs (r.states.map dS) := by
  obtain ⟨a, xs, rfl, ha, hA⟩ := h.tupI
  obtain ⟨x1, r1, rfl, h1, hA⟩ := hA.consI
  obtain ⟨x2, r2, rfl, h2, hA⟩ := hA.consI
  obtain ⟨x3, r3, rfl, h3, hA⟩ := hA.consI
  cases hA.nilI
  cases h1.strI
  cases h2.strI
  obtain ⟨ss, ys, rfl, hs, hB⟩ := h3.tupI
  exact ⟨a, ss, ys, rfl, ha, hs, hB⟩
theorem Tv.dS {H : Hp} {v : V} {s : Sta} (h : Tv H v (dS s)) : ∃ a ws xs e, v = .ref a ∧ H a = some (.tup [.ref ws, e]) ∧ H ws = some (.tup xs) ∧ TvA H xs (s.ways.map dW) ∧ Tv H e (dO s.fin) := by
  obtain ⟨a, xs, rfl, ha, hA⟩ := h.tupI
  obtain ⟨x1, r1, rfl, h1, hA⟩ := hA.consI
  obtain ⟨x2, r2, rfl, h2, hA⟩ := hA.consI
  cases hA.nilI
  obtain ⟨ws, ys, rfl, hs, hB⟩ := h1.tupI
  exact ⟨a, ws, ys, x2, rfl, ha, hs, hB, h2⟩
theorem Tv.dW {H : Hp} {v : V} {w : Nat × Cs} (h : Tv H v (dW w)) : ∃ a, v = .ref a ∧ H a = some (.tup [.int w.1, .str (tx w.2)]) := by
  obtain ⟨a, xs, rfl, ha, hA⟩ := h.tupI
  obtain ⟨x1, r1, rfl, h1, hA⟩ := hA.consI
  obtain ⟨x2, r2, rfl, h2, hA⟩ := hA.consI
  cases hA.nilI
  cases h1.intI
  cases h2.strI
  exact ⟨a, rfl, ha⟩
theorem Tv.mkW {H : Hp} {a : Addr} {w : Nat × Cs} (h : H a = some (.tup [.int w.1, .str (tx w.2)])) : Tv H (.ref a) (Fo.dW w) := .tup h (.cons (.int _) (.cons (.str _) .nil))
theorem dS_at {H : Hp} {xs : List V} {r : Rdr} {s : Nat} (h : TvA H xs (r.states.map Fo.dS)) (hs : s < r.states.length) : ∃ x, xs[s]? = some x ∧ Tv H x (Fo.dS (r.sta s)) :=
  h.get (by rw [List.getElem?_map, Rdr.sta_at hs]; rfl)
theorem dW_at {H : Hp} {xs : List V} {r : Rdr} {B s c : Nat} (o : r.Ok B) (h : TvA H xs ((r.sta s).ways.map Fo.dW)) (hs : s < r.states.length) (hc : c ∈ r.reads) : ∃ x, xs[r.reads.idxOf c]? = some x ∧ Tv H x (Fo.dW (r.go s c)) :=
  h.get (by rw [List.getElem?_map, Rdr.go_at o hs hc]; rfl)
theorem take_snoc {α : Type} {l : List α} {i : Nat} {x : α} (h : l[i]? = some x) : l.take (i + 1) = l.take i ++ [x] := by
  rw [List.take_add_one, h]
  rfl
theorem tx_at {l : Cs} {i : Nat} {c : Nat} (h : (tx l).cps[i]? = some c) : l[i]? = some c := by
  unfold tx at h
  simpa using h
theorem tx_size (l : Cs) : (tx l).cps.size = l.length := by
  unfold tx
  simp
end Fo

namespace Fo
open PySem PySem.Spec PyProof.Rows L2
/-! ### what can be shown as a text -/
structure RP (d : PyData) (k M : Nat) : Prop where
  lay : d.canLay0 = true
  dep : d.depth ≤ k
  wt : d.weight ≤ M
  short : d.intsShort 13 = true
  show' : d.showable = true
theorem RP.mono {d : PyData} {k M k' M' : Nat} (h : RP d k M) (hk : k ≤ k') (hM : M ≤ M') : RP d k' M' := ⟨h.lay, Nat.le_trans h.dep hk, Nat.le_trans h.wt hM, h.short, h.show'⟩
theorem RP.none {k M : Nat} : RP .none k M := ⟨by simp [PyData.canLay0], by simp [PyData.depth], by simp [PyData.weight], by simp [PyData.intsShort], by simp [PyData.showable]⟩
theorem RP.str {l : Cs} {k M : Nat} (h : ∀ c ∈ l, c < 0x110000) (hl : l.length ≤ M) : RP (.str (tx l)) k M := by
  refine ⟨?_, by simp [PyData.depth], ?_, by simp [PyData.intsShort], by simp [PyData.showable]⟩
  · simp only [PyData.canLay0, PyData.strOk]
    rw [← Array.all_toList]
    exact List.all_eq_true.mpr fun c hc => decide_eq_true (h c hc)
  · show (tx l).cps.size ≤ M
    rw [tx_size]
    exact hl
theorem all_map0 {α : Type} {f : α → PyData} : ∀ {l : List α} {k M : Nat}, (∀ x ∈ l, RP (f x) k M) → PyData.canLayAll0 (l.map f) = true ∧ PyData.depthAll (l.map f) ≤ k ∧ PyData.weightAll (l.map f) ≤ l.length * (M + 1) ∧ PyData.intsShortAll 13 (l.map f) = true ∧ PyData.showableAll (l.map f) = true
  | [], k, M, _ => ⟨by simp [PyData.canLayAll0], by simp [PyData.depthAll], by simp [PyData.weightAll], by simp [PyData.intsShortAll], by simp [PyData.showableAll]⟩
  | x :: r, k, M, h => by
    have hx := h x (List.mem_cons_self ..)
    obtain ⟨a1, a2, a3, a4, a5⟩ := all_map0 (f := f) (l := r) fun y hy => h y (List.mem_cons_of_mem _ hy)
    rw [List.map_cons]
    refine ⟨?_, ?_, ?_, ?_, ?_⟩
    · simp only [PyData.canLayAll0, hx.lay, a1, Bool.and_self]
    · simp only [PyData.depthAll]
      have := hx.dep
      omega
    · simp only [PyData.weightAll, List.length_cons, Nat.succ_mul]
      have := hx.wt
      omega
    · simp only [PyData.intsShortAll, hx.short, a4, Bool.and_self]
    · simp only [PyData.showableAll, hx.show', a5, Bool.and_self]
theorem RP.tupM {α : Type} {f : α → PyData} {l : List α} {k M : Nat} (h : ∀ x ∈ l, RP (f x) k M) : RP (.tuple (l.map f)) (k + 1) (l.length * (M + 1)) := by
  obtain ⟨a1, a2, a3, a4, a5⟩ := all_map0 h
  exact ⟨by simp only [PyData.canLay0]; exact a1, by simp only [PyData.depth]; omega, by simp only [PyData.weight]; exact a3, by simp only [PyData.intsShort]; exact a4, by simp only [PyData.showable]; exact a5⟩
theorem RP.tup {ds : List PyData} {k M : Nat} (h : ∀ x ∈ ds, RP x k M) : RP (.tuple ds) (k + 1) (ds.length * (M + 1)) := by
  have := RP.tupM (f := id) h
  rw [List.map_id] at this
  exact this
theorem RP.nat {n k : Nat} (h : n < 1000) : RP (.int (n : Int)) k 64 := by
  have hl : (TL.tl (Str.ofString (toString ((n : Nat) : Int)))).length ≤ 3 := by
    rw [TL.tl_num]
    exact TL.numL_len (k := 3) (by decide) h
  have h2 : ((n : Int).natAbs).log2 ≤ 10 := by
    have e : (n : Int).natAbs = n := rfl
    rw [e]
    by_cases h0 : n = 0
    · subst h0
      decide
    · exact Nat.le_of_lt_succ ((Nat.log2_lt h0).mpr (by omega))
  refine ⟨by simp [PyData.canLay0], by simp [PyData.depth], ?_, ?_, ?_⟩
  · simp only [PyData.weight]
    split
    · omega
    · omega
  · simp only [PyData.intsShort]
    refine decide_eq_true ?_
    show (Str.ofString (toString ((n : Nat) : Int))).length ≤ 13
    rw [TL.len_tl]
    omega
  · simp only [PyData.showable]
    exact decide_eq_true (by omega)
theorem mem2 {α : Type} {P : α → Prop} {a b : α} (ha : P a) (hb : P b) : ∀ x ∈ [a, b], P x := fun x hx => by
  rcases List.mem_cons.mp hx with rfl | hx
  · exact ha
  · rw [List.mem_singleton.mp hx]
    exact hb
theorem mem3 {α : Type} {P : α → Prop} {a b c : α} (ha : P a) (hb : P b) (hc : P c) : ∀ x ∈ [a, b, c], P x := fun x hx => by
  rcases List.mem_cons.mp hx with rfl | hx
  · exact ha
  · exact mem2 hb hc x hx
theorem RP.dO {f : Option Cs} {k M : Nat} (h : ∀ t, f = some t → t.length ≤ M ∧ ∀ c ∈ t, c < 0x110000) : RP (Fo.dO f) k M := by
  cases f with
  | none => exact .none
  | some t => exact .str (h t rfl).2 (h t rfl).1
theorem RP.dR {r : Rdr} {B E : Nat} (v : r.Val B E) (hB : B ≤ 60) (hE : E ≤ 60) (hr : ∀ c ∈ r.reads, c < 0x110000) (ht : ∀ c ∈ r.tells, c < 0x110000) (lr : r.reads.length ≤ 20) (lt : r.tells.length ≤ 20) (ln : r.states.length ≤ 20) : RP (Fo.dR r) 60 1000000 := by
  have w1 : ∀ s ∈ r.states, RP (.tuple (s.ways.map Fo.dW)) 2 2700 := fun s hs => by
    have vs := v.sta s hs
    refine (RP.tupM (k := 1) (M := 130) (fun w hw => ?_)).mono (Nat.le_refl _) ?_
    · have z := vs.way w hw
      exact (RP.tup (k := 0) (M := 64) (mem2 (RP.nat (by omega)) (.str (fun c hc => ht c (z.2.2 c hc)) (by omega)))).mono (Nat.le_refl _) (by show 2 * (64 + 1) ≤ 130; decide)
    · rw [vs.len]
      omega
  have w2 : ∀ s ∈ r.states, RP (Fo.dS s) 3 5402 := fun s hs => by
    have vs := v.sta s hs
    exact (RP.tup (k := 2) (M := 2700) (mem2 (w1 s hs) (RP.dO fun t h => ⟨Nat.le_trans (vs.fin t h).1 (by omega), fun c hc => ht c ((vs.fin t h).2 c hc)⟩))).mono (Nat.le_refl _) (by show 2 * (2700 + 1) ≤ 5402; decide)
  have w3 := (RP.tupM w2).mono (k' := 4) (M' := 110000) (Nat.le_refl _) (by omega)
  exact (RP.tup (k := 4) (M := 110000) (mem3 (.str hr (by omega)) (.str ht (by omega)) w3)).mono (by decide) (by show 3 * (110000 + 1) ≤ 1000000; decide)
/-! ### repr of data, where nothing is being shown -/
def rRepr (K : PySem.W.Frag) : List V → Hp → VK → Prop := fun xs H Q => ∃ (a : Addr) (d : PyData), xs = [.ref a] ∧ Dp K H (.ref a) d ∧ RP d 60 1000000 ∧ Q (.str d.shown) H
section
variable {X : Cx}
theorem call_reprD (K : PySem.W.Frag) (e : X.K = K) {k : Nat} (hg : X.A.guards = some []) (hr : Room k X.A) : CallR X (.builtin "repr") (rRepr K) := by
  subst e
  intro pins s σ H xs us Q I r h
  obtain ⟨a, d, rfl, hd, rp, q⟩ := h
  rw [Vals.ref1 r]
  obtain ⟨as, rd⟩ := Dp.reads I d _ (.ref a) hd rfl
  have hl : d.layable0 = true := by
    have h1 := rp.lay
    have h2 : decide (d.depth ≤ 64) = true := decide_eq_true (Nat.le_trans rp.dep (by decide))
    have h3 : decide (d.weight ≤ 2 ^ 20) = true := decide_eq_true (Nat.le_trans rp.wt (by decide))
    show (d.canLay0 && decide (d.depth ≤ 64) && decide (d.weight ≤ 2 ^ 20)) = true
    rw [h1, h2, h3]
    rfl
  refine repr_of_reads' rd rp.show' (PyData.noDict_hsm (PyData.hasDict_of_layable hl)) hg (by have := hr.un; have := rp.dep; omega) (fun _ _ z => z) (fun h' u tk hk => ?_) (Nat.le_trans (shown_le13 hl rp.short) (by rw [sizeLine_eq]; decide))
  exact ⟨.str d.shown, H, I.kept hk, ⟨_, rfl⟩, q⟩
end
/-! ### a def that is asked where nothing is being shown -/
structure FnG (P : Program) (w : World) (K : PySem.W.Frag) (mg : Str → Option Value) (base : Heap) (CX : CXT) (k : Nat) (f : Addr) (fd : FuncData) (ps : List Str) (sp : Sp) : Prop where
  len : ∀ vs H Q E, sp vs H Q E → vs.length = ps.length
  run : ∀ (A : Around) (hg : A.guards = some []) (outer : List Env) (s : Shared) (H : Hp) (args : Args) (us : List Value) (vs : List V) (Q : VK) (E : XK), Room k A → Env0 P w K mg base A outer s H →
    BindsTo s fd args (ps.zip us) → Vals vs us → sp vs H Q E → codeAny (model P w) A (.call (.ref f) args) (CR CX outer P w H s Q E) s
section
variable {P : Program} {w : World} {K : PySem.W.Frag} {mg : Str → Option Value} {base : Heap}
/-- by its body -/
theorem fnG {x qual : Str} {st : Stmt} {f : Addr} {fd : FuncData} {N ps : List Str} {k : Nat} {sp : Sp} (F : Fun K x qual st f fd) (S : FnScope N ps (defScope st)) (len : ∀ vs H Q E, sp vs H Q E → vs.length = ps.length)
    (body : ∀ (cdv : Value) (A : Around) (outer : List Env) (s : Shared) (H : Hp) (vs : List V) (Q : VK) (E : XK), A.guards = some [] → Room k (A.deeper (envOfC qual (defScope st) s.heap.objs.size f cdv)) → sp vs H Q E →
      ∃ t, PSs (cxOf CX0 P w K mg base N qual (defScope st) f cdv A outer s H E).nox (defBody st) t ∧ t { nx := fun _ H' => Q .non H', rt := Q } (L2.start N vs) H) : FnG P w K mg base CX0 (k + 1) f fd ps sp := by
  obtain ⟨oc, od, kV, doc, pm, an, cdv, ct, osl, rfl, lk, hcd⟩ := F.ex
  refine ⟨len, fun A hg outer s H args us vs Q E hr en hb r h => ?_⟩
  have old : ∀ b o, base.get? b = some o → s.heap.get? b = some o := fun b o z => (en.bs b o z).1
  have inK := en.mod.kin.keeps old
  have kinds : ∀ y ∈ ps.zip us, (defScope st).names.lookup y.1 = some .local ∨ ((defScope st).names.lookup y.1 = some .cell ∧ ((cellsFrom (s.heap.objs.size + 1) (defScope st).names []).lookup y.1).isSome = true) := by
    rintro ⟨n, v⟩ hy
    rcases S.par n (List.of_mem_zip hy).1 with z | z
    · exact Or.inl z
    · exact Or.inr ⟨z, PySem.W.cellsFrom_some _ _ _ (Or.inl z)⟩
  apply codeAny_call_function hr.depth (inK _ _ lk) rfl S.co S.gen rfl
    (PySem.W.codeRec_of inK hcd)
  apply hb
  refine wpAny_newFunctionEnv_cells S.kind kinds (fun env he s1 x => ?_)
  subst he
  refine ⟨(en.mod.nolimit.keeps old).keeps x.toInCall.keep, ?_⟩
  apply codeAny_func
  obtain ⟨t, ht, hq⟩ := body cdv A outer s H vs Q E hg (hr.deeper _) h
  have J0 := inv_start (CX := CX0) (E := E) S hr.hd en (len _ _ _ _ h) r x
  refine wpAny_mono (ht.nox.run [] s1 _ H _ J0 hq) (fun fl s' z => ?_) (fun e s' z => z)
  have out : ∀ {σ' : L2.St} {H' : Hp} {v : V} {u : Value}, Inv (cxOf CX0 P w K mg base N qual (defScope st) f cdv A outer s H E) [] σ' H' s' → RelV v u → Q v H' → CE outer P w H s Q u s' :=
    fun J rv hv => ⟨_, _, J.os, J.bare, J.base, J.hok, rv, hv⟩
  cases fl with
  | next => exact let ⟨_, _, J, hv⟩ := z; out (v := V.non) (u := Value.none) J rfl hv
  | ret u => exact let ⟨_, _, _, J, rv, hv⟩ := z; out J rv hv
  | brk => exact let ⟨_, _, _, hv⟩ := z; hv.elim
  | cont => exact let ⟨_, _, _, hv⟩ := z; hv.elim
end
/-! ### the law's call, from such a promise -/
section
variable {P : Program} {w : World} {K : PySem.W.Frag} {mg mb : Str → Option Value} {k : Nat} {fa a : Addr} {fd : FuncData} {x : Str} {sp : Sp} {s₁ : Shared} {vs : List Value} {ns : List Int}
/-- what the law's call is to leave -/
def LawEnd (s₁ : Shared) (r : Result) (s' : Shared) : Prop := r = .ok (.ret (.bool true)) ∧ OldK s₁.heap s'.heap ∧ s'.os = s₁.os ∧ AllBare s'.gens
/-- from an abstract heap that tracks the script alone, or nothing -/
theorem lawG_at (inK : K.In s₁.heap) (hm : s₁.heap.Ns mainGlobals mg) (hb : s₁.heap.Ns builtinsNs mb) (hbb : ∀ x : Str, x ≠ "__name__" → mb x = bootBuiltins x) (lim : s₁.heap.NoLimit) (ng : s₁.gens = #[])
    (ha : s₁.heap.get? a = some { cls := .type "list", data := .seq vs.toArray }) (hr : Room k callerA) (F : ∀ base : Heap, K.In base → base.Ns mainGlobals mg → FnG P w K mg base CX0 k fa fd [x] sp)
    (bd : ∀ (s : Shared) (u : Value), BindsTo s fd ⟨[u], []⟩ [(x, u)]) {H : Hp} (only : Only H) (hs : sp [.ref a] H (fun v _ => v = .bl true) fun _ _ _ => False) (hok : HOk P w H s₁.heap) (at' : ∀ b, H b ≠ none → b = a) (out : H a ≠ none → K.lookup a = none) :
    codeAny (model P w) callerA (.call (.ref fa) ⟨[.ref a], []⟩) (LawEnd s₁) s₁ := by
  -- what is not tracked stands in the base
  have keepB : ∀ {b : Addr} {o : Obj}, s₁.heap.get? b = some o → H b = none → (hidT s₁.heap H).get? b = some o := hidT_get
  have untracked : ∀ {b : Addr}, b ≠ a → H b = none := fun {b} n => by
    by_cases z : H b = none
    · exact z
    · exact absurd (at' b z) n
  have spaces : ∀ {b : Addr} {m : Str → Option Value}, s₁.heap.Ns b m → (hidT s₁.heap H).Ns b m := fun {b m} h => by
    obtain ⟨o, es, ep, e, d, r⟩ := h
    refine ⟨o, es, ep, keepB e (untracked fun z => ?_), d, r⟩
    subst z
    cases ha.symm.trans e
    cases d
  have inB : K.In (hidT s₁.heap H) := fun b o e => by
    refine keepB (inK b o e) ?_
    by_cases z : H b = none
    · exact z
    · have eb := at' b z
      subst eb
      rw [out z] at e
      cases e
  have md : Mod K mg (hidT s₁.heap H) := by
    refine ⟨inB, spaces hm, ⟨mb, spaces hb, hbb⟩, ?_⟩
    obtain ⟨mc, h1, h2⟩ := lim
    exact ⟨mc, spaces h1, h2⟩
  have en : Env0 P w K mg (hidT s₁.heap H) callerA [] s₁ H := by
    refine ⟨rfl, md, fun b o e => of_hidT e, Nat.le_of_eq (hidT_size _ _), trivial, fun b z => ?_, hok, .of_eq ng⟩
    exact absurd (show b ∈ ([] : List Addr) from z) List.not_mem_nil
  have run := (F _ inB (spaces hm)).run callerA rfl [] s₁ H ⟨[.ref a], []⟩ [.ref a] [.ref a] _ _ hr en (bd s₁ (.ref a)) (.cons rfl .nil) hs
  refine codeAny_mono run fun r s' z => ?_
  rcases r with e | fl
  · exact False.elim z
  cases fl with
  | ret u =>
    obtain ⟨v, H', eos, bare, un, hok', rv, q⟩ := z
    cases (show v = .bl true from q)
    cases (show u = Value.bool true from rv)
    refine ⟨rfl, OldK.of_keep (fun b o e => ?_), eos, bare⟩
    by_cases zb : H b = none
    · exact un.keep b o e zb (by intro z; exact absurd (show b ∈ ([] : List Addr) from z) List.not_mem_nil) List.not_mem_nil
    · rcases only b with z | ⟨ob, xs, z⟩
      · exact absurd z zb
      · have h1 := (hok b _ z).1
        have h2 := (hok' b _ (un.frzs b ob _ z)).1
        cases e.symm.trans h1
        exact h2
  | next => exact False.elim z
  | brk => exact False.elim z
  | cont => exact False.elim z
theorem lawG (inK : K.In s₁.heap) (hm : s₁.heap.Ns mainGlobals mg) (hb : s₁.heap.Ns builtinsNs mb) (hbb : ∀ x : Str, x ≠ "__name__" → mb x = bootBuiltins x) (lim : s₁.heap.NoLimit) (ng : s₁.gens = #[])
    (ha : s₁.heap.get? a = some { cls := .type "list", data := .seq vs.toArray }) (hi : IntsAre vs ns) (hl : ns.length ≤ sizeLine) (hr : Room k callerA) (F : ∀ base : Heap, K.In base → base.Ns mainGlobals mg → FnG P w K mg base CX0 k fa fd [x] sp)
    (bd : ∀ (s : Shared) (u : Value), BindsTo s fd ⟨[u], []⟩ [(x, u)]) (hs : ∀ H : Hp, Only H → SqL K H a (ns.map V.int) → sp [.ref a] H (fun v _ => v = .bl true) fun _ _ _ => False) :
    codeAny (model P w) callerA (.call (.ref fa) ⟨[.ref a], []⟩) (LawEnd s₁) s₁ := by
  have rv := vals_ints hi
  have hl2 : (ns.map V.int).length ≤ sizeLine := by rw [List.length_map]; exact hl
  cases hk : K.lookup a with
  | some o =>
    have e := inK a o hk
    cases ha.symm.trans e
    have nothing : Only fun _ => none := fun _ => Or.inl rfl
    refine lawG_at inK hm hb hbb lim ng ha hr F bd nothing (hs _ nothing (Or.inr ⟨_, vs.toArray, _, hk, rfl, rfl, rfl, ?_, by simpa using rv⟩)) (fun b u z => nomatch z) (fun b z => absurd rfl z) (fun z => absurd rfl z)
    rw [List.size_toArray, hi.length]
    exact hl
  | none =>
    let o : Obj := { cls := .type "list", data := .seq vs.toArray }
    have here : upd (fun _ => none) a (HO.frz o (.lst (ns.map V.int))) a = some (.frz o (.lst (ns.map V.int))) := upd_same
    have only : Only (upd (fun _ => none) a (HO.frz o (.lst (ns.map V.int)))) := fun b => by
      by_cases hb' : b = a
      · subst hb'
        exact Or.inr ⟨_, _, here⟩
      · exact Or.inl (upd_ne hb')
    have just : ∀ b, upd (fun _ => none) a (HO.frz o (.lst (ns.map V.int))) b ≠ none → b = a := fun b z => by
      by_cases hb' : b = a
      · exact hb'
      · exact absurd (upd_ne hb') z
    refine lawG_at inK hm hb hbb lim ng ha hr F bd only (hs _ only (Or.inl (Or.inr ⟨_, here⟩))) (fun b u z => ?_) just (fun _ => hk)
    have eb := just b (by rw [z]; exact fun q => nomatch q)
    subst eb
    cases here.symm.trans z
    exact ⟨ha, hl2, vs, _, rv, ha⟩
end
theorem walkG {l : PySem.W.OpenLaw} {n k : Nat} {q : Program} {loose : List Str} {XP : (Str → Option Value) → Heap → Prop} {YP : World → Heap → Prop} {d : DefRec} {K : Params → PySem.W.Frag} {sp : PySem.W.Frag → Sp} {x : Str}
    (hn : l.most = some n) (hn2 : n ≤ sizeLine) (hdf : d.params.defaults = []) (hr : Room k callerA) (hY : ∀ (w : World) (h : Heap), YP w h → (K w.params).In h)
    (F : ∀ (w : World) (mg : Str → Option Value) (fa : Addr) (h : Heap), (K w.params).In h → h.Ns mainGlobals mg → mg d.name = some (.ref fa) →
      ∃ fd : FuncData, (∀ (s : Shared) (u : Value), BindsTo s fd ⟨[u], []⟩ [(x, u)]) ∧ ∀ base : Heap, (K w.params).In base → base.Ns mainGlobals mg → FnG l.prog w (K w.params) mg base CX0 k fa fd [x] (sp (K w.params)))
    (hsp : ∀ (K : PySem.W.Frag) (H : Hp) (a : Addr) (ns : List Int), ns.length ≤ n → SqL K H a (ns.map V.int) → sp K [.ref a] H (fun v _ => v = .bl true) fun _ _ _ => False) :
    PySem.W.WalkO q loose XP YP l.row.toRowW d [] (fun f vs => PySem.call f vs) := by
  apply Att.attach_call hn hdf
  intro w s₀ s₁ mg mb fa o pm cd doc a vs ns G Y ho hd hcd hmg hobj hints hlen hg
  have inK := hY w _ Y
  obtain ⟨fd, hb, hF⟩ := F w mg fa _ inK G.T.g hmg
  exact lawG inK G.T.g G.T.b G.T.builtins G.T.nolimit hg hobj hints (Nat.le_trans hlen hn2) hr hF hb (fun H _ hS => hsp _ H a ns hlen hS)
/-- a call that writes every keyword-only parameter -/
theorem kb_of {K : PySem.W.Frag} {x qual : Str} {params : Arguments} {body : List Stmt} {scope : Scope} {kws : List (Str × V)} {f : Addr} {fd : FuncData} {ps ks : List Str} {n : Nat} (F : FunD K x qual params body scope [] kws f fd)
    (h : ∀ (kV doc pm : Value) (an : Option Addr) (cdv ct : Value) (us ws : List Value), us.length = n → ws.length = ks.length → bindArgs (PySem.W.fnOf x qual params body scope .none kV doc pm an cdv ct) ⟨us, ks.zip ws⟩ = pure (ps.zip (us ++ ws))) :
    KBn K fd ps n ks (fun us ws => us ++ ws) (fun vs zs => vs ++ zs) := by
  obtain ⟨oc, od, dV, kV, doc, pm, an, cdv, ct, osl, rfl, lk, hcd, hD, hK⟩ := F.ex
  rcases hD with ⟨_, rfl⟩ | ⟨e, _⟩
  · exact ⟨fun s us ws _ h1 h2 => .of_eq (h kV doc pm an cdv ct us ws h1 h2), fun r1 r2 => r1.append r2⟩
  · exact absurd rfl e
end Fo

namespace Fo
open PySem PySem.Spec PyProof.Rows L2 TL
/-- the texts of a sorted set of signs -/
theorem signs_of {x : Cs} {S : Str → Bool} {ys : List Str} (hS : S = fun y => decide (∃ c ∈ x, y = one c)) (hs : sortedS ys = true) (hn : ys.Nodup) (hm : ∀ k, k ∈ ys ↔ S k = true) :
    ∃ u : Cs, ys = u.map one ∧ u.Pairwise (· < ·) ∧ ∀ c, c ∈ u ↔ c ∈ x := by
  subst hS
  have hm' : ∀ k, k ∈ ys ↔ ∃ c ∈ x, k = one c := fun k => (hm k).trans decide_eq_true_iff
  have inj : ∀ {a b : Nat}, one a = one b → a = b := fun {a b} e => (List.cons.inj (congrArg (fun y : Str => y.cps.toList) e)).1
  have ey : ys = (ys.map fun y => (TL.tl y).headD 0).map one := by
    rw [List.map_map]
    refine (List.map_id ys).symm.trans (List.map_congr_left fun y hy => ?_)
    obtain ⟨c, _, rfl⟩ := (hm' y).mp hy
    rfl
  generalize (ys.map fun y => (TL.tl y).headD 0) = u at ey
  subst ey
  have nu : u.Nodup := by
    refine List.Pairwise.imp (fun {a b} h e => h (congrArg one e)) (List.pairwise_map.mp hn)
  refine ⟨u, rfl, strict_of (sorted_of hs) nu, fun c => ?_⟩
  have z := hm' (one c)
  constructor
  · intro h
    obtain ⟨d, hd, e⟩ := z.mp (List.mem_map.mpr ⟨c, h, rfl⟩)
    rw [inj e]
    exact hd
  · intro h
    obtain ⟨d, hd, e⟩ := List.mem_map.mp (z.mpr ⟨c, h, rfl⟩)
    rw [← inj e]
    exact hd
end Fo

namespace Fo
open PySem PySem.Spec PyProof.Rows L2 TL
/-! ### a tuple times a number, one too -/
/-- times one: the tuple itself -/
theorem tup_once {at_ : Addr} {inside : Array Value} {epoch : Nat} {attrs : Option Addr} {slots : Array (Option Value)} {u : Tok} :
    Meets (Builtin.«tuple.__mul__» ⟨[.ref at_, .int 1 u], []⟩) (fun _ Rs st =>
      st.heap.get? at_ = some ⟨.type "tuple", attrs, .seq inside epoch, slots⟩ ∧ Rs (.ok (.ret (.ref at_))) st) := by
  refine Meets.of_wp fun _ _ _ Rs st both => ?_
  rcases st with ⟨heap, gens, drawn, toks, os⟩
  rcases both with ⟨stands, done⟩
  have index := AutoSeq1.idx_int
  have far : ¬ ((1 : Int) < -(2 ^ 63) ∨ (1 : Int) ≥ 2 ^ 63) := by decide
  wp_walk using wpAny_loadPart' stands
  all_goals exact ⟨_, rfl, done⟩
def rMulT : R2 := fun x y H Q => ∃ l k xs, x = .ref l ∧ y = .int k ∧ H l = some (.tup xs) ∧ xs ≠ [] ∧ 1 ≤ k ∧ k ≤ 1000 ∧ xs.length ≤ 1000 ∧ ∀ p H', Same H H' → H' p = some (.tup (List.replicate k.toNat xs).flatten) → Q (.ref p) H'
section
variable {X : Cx}
theorem op_mulT : OpR X (binaryOp .Mult) rMulT := by
  rintro pins s σ H _ _ v u Q I rx ry ⟨at_, k, xs, rfl, rfl, stands, some_, low, high, few, goal⟩
  rcases Int.lt_or_eq_of_le low with more | once
  · -- two or more: the library's rule
    refine op_repT pins s σ H _ _ v u Q I rx ry ⟨at_, k, xs, rfl, rfl, SqT.of stands, some_, by omega, high, few, fun fresh none_ => ?_⟩
    exact goal fresh _ (same_new none_) upd_same
  · subst once
    have asked : Q (.ref at_) H := goal at_ H (Same.refl H) (by rw [stands]; show _ = some (HO.tup (List.replicate 1 xs).flatten); simp)
    have tuple := (I.tuple (SqT.of (K := X.K) stands)).choose_spec.2.1
    cases rx
    cases ry with | intro tok same =>
    subst same
    rcases tuple with ⟨⟨kind, attrs, data, slots⟩, here, isTuple, epoch, isSeq⟩
    cases (show kind = _ from isTuple)
    cases (show data = _ from isSeq)
    have typed : s.TypeIs (.ref at_) "tuple" := ⟨_, here, rfl⟩
    have number : ∀ s' : Shared, s'.TypeIs (.int 1 tok) "int" := fun s' => typeIs_int s' 1 tok
    have last : wpAny (model X.prog X.w) X.A (call (.builtin "tuple.__mul__") [.ref at_, .int 1 tok]) (EP X pins σ Q) X.xe s :=
      call_meets F.slot_tuple_mul typed F.entry_tuple_mul (F.args_tuple_mul_2 (.ref at_) (.int 1 tok)) tup_once ⟨here, .ref at_, H, I, rfl, asked⟩
    refine wpAny_binaryOp_repeat_ref (by decide) typed number noFill_tuple_mul F.fills_int_mul F.slot_int_rmul repeat_tuple F.slot_int_index.lookup ?_
    exact call_meets F.slot_int_rmul (number s) F.entry_int_rmul (F.args_int_rmul_2 _ _) (int_rmul_tuple 1 tok at_ _ epoch attrs slots) ⟨here, rfl, typed, last⟩
end
end Fo

namespace Fo
open PySem PySem.Spec PyProof.Rows L2 TL
/-! ### rows of readers -/
theorem StaVal.mono {R N B E B' E' : Nat} {T : Cs} {s : Sta} (v : StaVal R N B E T s) (hB : B ≤ B') (hE : E ≤ E') : StaVal R N B' E' T s :=
  ⟨v.len, fun w hw => let z := v.way w hw; ⟨z.1, Nat.le_trans z.2.1 hB, z.2.2⟩, fun t ht => let z := v.fin t ht; ⟨Nat.le_trans z.1 hE, z.2⟩⟩
theorem Rdr.Val.mono {r : Rdr} {B E B' E' : Nat} (v : r.Val B E) (hB : B ≤ B') (hE : E ≤ E') : r.Val B' E' :=
  ⟨v.ne, fun s hs => (v.sta s hs).mono hB hE⟩
/-- what a reader tells by its ways is of the signs told -/
theorem Rdr.Val.told {r : Rdr} {B E : Nat} (v : r.Val B E) : ∀ (l : Cs) (s : Nat), s < r.states.length → (∀ c ∈ l, c ∈ r.reads) → ∀ c ∈ (r.run s l).2, c ∈ r.tells
  | [], s, _, _, c, hc => nomatch hc
  | a :: l, s, h, hl, c, hc => by
    have o := v.ok (M := max B E) (Nat.le_max_left _ _) (Nat.le_max_right _ _)
    have g := Rdr.go_ok o h (hl a (List.mem_cons_self ..))
    rcases List.mem_append.mp (show c ∈ (r.go s a).2 ++ (r.run (r.go s a).1 l).2 from hc) with h1 | h1
    · exact ((v.sta _ (Rdr.sta_mem h)).way _ (List.mem_of_getElem? (Rdr.go_at o h (hl a (List.mem_cons_self ..))))).2.2 c h1
    · exact Rdr.Val.told v l _ g.1 (fun x hx => hl x (List.mem_cons_of_mem _ hx)) c h1
def dRow (rs : List Rdr) : PyData := .tuple (rs.map dR)
def dSeats (ss : List Nat) : PyData := .tuple (ss.map fun s : Nat => PyData.int (s : Int))
/-- a row as the document has it, three readers at most, texts told at most 3 -/
structure Row (rs : List Rdr) : Prop where
  ne : 0 < rs.length
  few : rs.length ≤ 3
  val : ∀ r ∈ rs, r.Val 3 3
  link : ∀ i a b, rs[i]? = some a → rs[i + 1]? = some b → ∀ c ∈ a.tells, c ∈ b.reads
def rowOn : List Rdr → List Nat → Cs → List Nat × Cs
  | r :: rs, s :: ss, l => ((r.run s l).1 :: (rowOn rs ss (r.run s l).2).1, (rowOn rs ss (r.run s l).2).2)
  | _, _, l => ([], l)
def rowEnd : List Rdr → List Nat → Cs → Option Cs
  | r :: rs, s :: ss, l => match (r.sta (r.run s l).1).fin with
    | none => none
    | some t => rowEnd rs ss ((r.run s l).2 ++ t)
  | _, _, l => some l
theorem rowOn_snoc : ∀ (rs : List Rdr) (ss : List Nat) (i : Nat) (l : Cs) (r : Rdr) (s : Nat), rs[i]? = some r → ss[i]? = some s →
    rowOn (rs.take (i + 1)) (ss.take (i + 1)) l = ((rowOn (rs.take i) (ss.take i) l).1 ++ [(r.run s (rowOn (rs.take i) (ss.take i) l).2).1], (r.run s (rowOn (rs.take i) (ss.take i) l).2).2)
  | [], ss, i, l, r, s, h, _ => by simp at h
  | a :: rs, [], i, l, r, s, _, h => by simp at h
  | a :: rs, b :: ss, 0, l, r, s, h1, h2 => by
    have e1 : a = r := by simpa using h1
    have e2 : b = s := by simpa using h2
    subst e1 e2
    rfl
  | a :: rs, b :: ss, i + 1, l, r, s, h1, h2 => by
    have ih := rowOn_snoc rs ss i (a.run b l).2 r s (by simpa using h1) (by simpa using h2)
    show ((a.run b l).1 :: (rowOn (rs.take (i + 1)) (ss.take (i + 1)) (a.run b l).2).1, (rowOn (rs.take (i + 1)) (ss.take (i + 1)) (a.run b l).2).2) = _
    rw [ih]
    rfl
theorem rowOn_len : ∀ (rs : List Rdr) (ss : List Nat) (l : Cs), rs.length = ss.length → (rowOn rs ss l).1.length = rs.length
  | [], ss, l, h => by cases ss <;> rfl
  | a :: rs, [], l, h => by simp at h
  | a :: rs, b :: ss, l, h => by
    show (_ :: (rowOn rs ss (a.run b l).2).1).length = _
    rw [List.length_cons, rowOn_len rs ss _ (by simpa using h), List.length_cons]
theorem rowEnd_step {rs : List Rdr} {ss : List Nat} {i : Nat} {r : Rdr} {s : Nat} (l : Cs) (h1 : rs[i]? = some r) (h2 : ss[i]? = some s) :
    rowEnd (rs.drop i) (ss.drop i) l = match (r.sta (r.run s l).1).fin with
      | none => none
      | some t => rowEnd (rs.drop (i + 1)) (ss.drop (i + 1)) ((r.run s l).2 ++ t) := by
  obtain ⟨l1, e1⟩ := List.getElem?_eq_some_iff.mp h1
  obtain ⟨l2, e2⟩ := List.getElem?_eq_some_iff.mp h2
  rw [List.drop_eq_getElem_cons l1, List.drop_eq_getElem_cons l2, e1, e2]
  rfl
/-- read in two, the ends behind -/
theorem rowEnd_app : ∀ (rs : List Rdr) (ss : List Nat) (l x : Cs), rs.length = ss.length → rowEnd rs ss (l ++ x) = (rowEnd rs (rowOn rs ss l).1 x).map ((rowOn rs ss l).2 ++ ·)
  | [], ss, l, x, h => by cases ss <;> rfl
  | a :: rs, [], l, x, h => by simp at h
  | a :: rs, b :: ss, l, x, h => by
    show (match (a.sta (a.run b (l ++ x)).1).fin with | none => none | some t => rowEnd rs ss ((a.run b (l ++ x)).2 ++ t)) =
      (match (a.sta (a.run (a.run b l).1 x).1).fin with | none => none | some t => rowEnd rs (rowOn rs ss (a.run b l).2).1 ((a.run (a.run b l).1 x).2 ++ t)).map ((rowOn rs ss (a.run b l).2).2 ++ ·)
    rw [Rdr.run_app]
    dsimp only
    cases (a.sta (a.run (a.run b l).1 x).1).fin with
    | none => rfl
    | some t =>
      dsimp only
      rw [List.append_assoc]
      exact rowEnd_app rs ss (a.run b l).2 ((a.run (a.run b l).1 x).2 ++ t) (by simpa using h)
/-- seats of a row -/
structure Seats (rs : List Rdr) (ss : List Nat) : Prop where
  len : ss.length = rs.length
  at_ : ∀ (i : Nat) (r : Rdr) (s : Nat), rs[i]? = some r → ss[i]? = some s → s < r.states.length
/-- the text ahead of the i-th reader -/
structure Tx (rs : List Rdr) (i L : Nat) (t : Cs) : Prop where
  sub : ∀ r, rs[i]? = some r → ∀ c ∈ t, c ∈ r.reads
  len : t.length + 2 ≤ 3 ^ i * (L + 2)
theorem pow3 {i : Nat} (h : i ≤ 3) : 3 ^ i ≤ 27 := by
  have : ∀ i < 4, 3 ^ i ≤ 27 := by decide
  exact this i (by omega)
theorem Tx.next {rs : List Rdr} {i L : Nat} {t u : Cs} {r : Rdr} (R : Row rs) (h : Tx rs i L t) (hr : rs[i]? = some r) (hu : u.length ≤ t.length * 3 + 3) (hs : ∀ c ∈ u, c ∈ r.tells) : Tx rs (i + 1) L u := by
  refine ⟨fun r' hr' c hc => R.link i r r' hr hr' c (hs c hc), ?_⟩
  have := h.len
  rw [Nat.pow_succ, Nat.mul_comm (3 ^ i) 3, Nat.mul_assoc]
  omega
theorem Tx.few {rs : List Rdr} {i L : Nat} {t : Cs} (h : Tx rs i L t) (hi : i ≤ 3) (hL : L ≤ 1000) : t.length ≤ 28000 := by
  have h1 := h.len
  have h2 : 3 ^ i * (L + 2) ≤ 27 * 1002 := Nat.mul_le_mul (pow3 hi) (by omega)
  omega
/-- the text behind the i-th reader, its end or none put behind -/
theorem Tx.on {rs : List Rdr} {i L : Nat} {t : Cs} {r : Rdr} {s : Nat} (R : Row rs) (h : Tx rs i L t) (hr : rs[i]? = some r) (hs : s < r.states.length) : Tx rs (i + 1) L (r.run s t).2 := by
  have v := R.val r (List.mem_of_getElem? hr)
  have z := Rdr.run_ok (v.ok (M := 3) (by decide) (by decide)) t s hs (h.sub r hr)
  exact h.next R hr (by omega) (v.told t s hs (h.sub r hr))
theorem Tx.fin {rs : List Rdr} {i L : Nat} {t u : Cs} {r : Rdr} {s : Nat} (R : Row rs) (h : Tx rs i L t) (hr : rs[i]? = some r) (hs : s < r.states.length) (hu : (r.sta (r.run s t).1).fin = some u) : Tx rs (i + 1) L ((r.run s t).2 ++ u) := by
  have v := R.val r (List.mem_of_getElem? hr)
  have z := Rdr.run_ok (v.ok (M := 3) (by decide) (by decide)) t s hs (h.sub r hr)
  have f := (v.sta _ (Rdr.sta_mem z.1)).fin u hu
  refine h.next R hr (by rw [List.length_append]; omega) (fun c hc => ?_)
  rcases List.mem_append.mp hc with h1 | h1
  · exact v.told t s hs (h.sub r hr) c h1
  · exact f.2 c h1
theorem Tx.nil {rs : List Rdr} {L : Nat} : Tx rs 0 L [] := ⟨(fun _ _ _ h => nomatch h), by show 0 + 2 ≤ 1 * (L + 2); omega⟩
/-- the seats behind a text -/
theorem rowOn_seats {rs : List Rdr} {ss : List Nat} {l : Cs} {L : Nat} (R : Row rs) (S : Seats rs ss) (T : Tx rs 0 L l) : ∀ i, i ≤ rs.length →
    (rowOn (rs.take i) (ss.take i) l).1.length = i ∧ (∀ (j : Nat) (r : Rdr) (s : Nat), j < i → rs[j]? = some r → (rowOn (rs.take i) (ss.take i) l).1[j]? = some s → s < r.states.length) ∧ Tx rs i L (rowOn (rs.take i) (ss.take i) l).2
  | 0, _ => ⟨rfl, (fun _ _ _ h => absurd h (Nat.not_lt_zero _)), T⟩
  | i + 1, hi => by
    obtain ⟨h1, h2, h3⟩ := rowOn_seats R S T i (by omega)
    have er : rs[i]? = some (rs[i]'(by omega)) := List.getElem?_eq_getElem (by omega)
    have es : ss[i]? = some (ss[i]'(by rw [S.len]; omega)) := List.getElem?_eq_getElem (by rw [S.len]; omega)
    have hs := S.at_ i _ _ er es
    rw [rowOn_snoc rs ss i l _ _ er es]
    have v := R.val _ (List.mem_of_getElem? er)
    have z := Rdr.run_ok (v.ok (M := 3) (by decide) (by decide)) _ _ hs (h3.sub _ er)
    refine ⟨by rw [List.length_append, h1]; rfl, fun j r s hj hr hs' => ?_, h3.on R er hs⟩
    by_cases hji : j < i
    · refine h2 j r s hji hr ?_
      rw [← hs']
      exact (List.getElem?_append_left (by omega)).symm
    · have ej : j = i := by omega
      subst ej
      rw [er] at hr
      cases hr
      rw [List.getElem?_append_right (by omega), h1, Nat.sub_self] at hs'
      cases hs'
      exact z.1
theorem Seats.on {rs : List Rdr} {ss : List Nat} {l : Cs} {L : Nat} (R : Row rs) (S : Seats rs ss) (T : Tx rs 0 L l) : Seats rs (rowOn rs ss l).1 ∧ Tx rs rs.length L (rowOn rs ss l).2 := by
  obtain ⟨h1, h2, h3⟩ := rowOn_seats R S T rs.length (Nat.le_refl _)
  have e1 : rs.take rs.length = rs := List.take_length
  have e2 : ss.take rs.length = ss := by rw [← S.len]; exact List.take_length
  rw [e1, e2] at h1 h2 h3
  exact ⟨⟨h1, fun i r s hr hs => h2 i r s (List.getElem?_eq_some_iff.mp hr).1 hr hs⟩, h3⟩
theorem Seats.zero {rs : List Rdr} (R : Row rs) : Seats rs (List.replicate rs.length 0) := by
  refine ⟨List.length_replicate, fun i r s hr hs => ?_⟩
  rw [List.getElem?_replicate] at hs
  split at hs
  · cases hs
    exact (R.val r (List.mem_of_getElem? hr)).ne
  · cases hs
/-- what is told at the end is short -/
theorem rowEnd_drop {rs : List Rdr} {ss : List Nat} (R : Row rs) (S : Seats rs ss) : ∀ (m i : Nat) (t u : Cs) (L : Nat), rs.length - i = m → i ≤ rs.length → Tx rs i L t → L ≤ 1000 → rowEnd (rs.drop i) (ss.drop i) t = some u → u.length ≤ 28000
  | 0, i, t, u, L, hm, hi, T, hL, h => by
    have e : i = rs.length := by omega
    subst e
    rw [List.drop_length, ← S.len, List.drop_length] at h
    cases h
    exact T.few R.few hL
  | m + 1, i, t, u, L, hm, hi, T, hL, h => by
    have hi' : i < rs.length := by omega
    have er : rs[i]? = some (rs[i]'hi') := List.getElem?_eq_getElem hi'
    have es : ss[i]? = some (ss[i]'(by rw [S.len]; exact hi')) := List.getElem?_eq_getElem (by rw [S.len]; exact hi')
    rw [rowEnd_step t er es] at h
    cases hf : ((rs[i]'hi').sta ((rs[i]'hi').run (ss[i]'(by rw [S.len]; exact hi')) t).1).fin with
    | none => rw [hf] at h; cases h
    | some v =>
      rw [hf] at h
      exact rowEnd_drop R S m (i + 1) _ u L (by omega) (by omega) (T.fin R er (S.at_ i _ _ er es) hf) hL h
theorem rowEnd_few {rs : List Rdr} {ss : List Nat} {u : Cs} (R : Row rs) (S : Seats rs ss) (h : rowEnd rs ss [] = some u) : u.length ≤ 28000 :=
  rowEnd_drop R S rs.length 0 [] u 0 (by omega) (Nat.zero_le _) Tx.nil (by decide) h
theorem Tv.dRow {H : Hp} {v : V} {rs : List Rdr} (h : Tv H v (dRow rs)) : ∃ a xs, v = .ref a ∧ H a = some (.tup xs) ∧ TvA H xs (rs.map Fo.dR) := h.tupI
theorem dR_at {H : Hp} {xs : List V} {rs : List Rdr} {i : Nat} {r : Rdr} (h : TvA H xs (rs.map Fo.dR)) (hr : rs[i]? = some r) : ∃ x, xs[i]? = some x ∧ Tv H x (Fo.dR r) :=
  h.get (by rw [List.getElem?_map, hr]; rfl)
theorem seats_ints {H : Hp} : ∀ {ss : List Nat} {ys : List V}, TvA H ys (ss.map fun s : Nat => PyData.int (s : Int)) → ys = ss.map fun s : Nat => V.int (s : Int)
  | [], _, h => h.nilI
  | s :: ss, _, h => by
    obtain ⟨x, r, rfl, h1, h2⟩ := h.consI
    cases h1.intI
    rw [List.map_cons, ← seats_ints h2]
theorem ints_seats {H : Hp} : ∀ (ss : List Nat), TvA H (ss.map fun s : Nat => V.int (s : Int)) (ss.map fun s : Nat => PyData.int (s : Int))
  | [] => .nil
  | s :: ss => .cons (.int _) (ints_seats ss)
theorem Tv.mkSeats {H : Hp} {a : Addr} {ss : List Nat} (h : H a = some (.tup (ss.map fun s : Nat => V.int (s : Int)))) : Tv H (.ref a) (Fo.dSeats ss) := .tup h (ints_seats ss)
/-- (states, told) -/
def dOn (q : List Nat × Cs) : PyData := .tuple [Fo.dSeats q.1, .str (tx q.2)]
end Fo

namespace Fo
open PySem PySem.Spec PyProof.Rows L2 TL PySem.Froz
/-! ### a set of texts whose walk is known -/
/-- the payload D is laid: the texts l, rising places, an order that is followed or led -/
structure Laid (P : Program) (w : World) (D : Froz.SD) (l : List Str) : Prop where
  texts : TxOk P w D l
  rising : Ris D.2.2.place.toList
  known : w.params.followText "set-order" = true ∨ D.2.2.led = true
/-- its texts are the signs of c, each once -/
structure Signs (l : List Str) (c : Cs) : Prop where
  once : l.Nodup
  are : ∀ y, y ∈ l ↔ ∃ z ∈ c, y = one z
  few : l.length ≤ c.length
theorem off_same (t : SetTable) : (if t.plain = true then { t with plain := false } else t).place = t.place ∧ (if t.plain = true then { t with plain := false } else t).led = t.led := by
  cases t.plain <;> exact ⟨rfl, rfl⟩
theorem tail_same (ep : Nat) (es : Array (Int × Value)) (t : SetTable) (d : Bool) (r : Ris t.place.toList) :
    Ris (tailTx ep es t d).2.2.place.toList ∧ (tailTx ep es t d).2.2.led = t.led := by
  rw [tailTx]
  split
  · exact ⟨relayAll_ris .., relayAll_led ..⟩
  · exact ⟨r, rfl⟩
section
variable {P : Program} {w : World} {A : Around} {E : Value → Shared → Prop} {s : Shared}
theorem Laid.more {D : Froz.SD} {l : List Str} {k : Str} (u : Tok) (L : Laid P w D l) : Laid P w (addTx (hashStr w k) (.str k u) D) (k :: l) := by
  have o := off_same (layNew D.2.2 D.1 (hashStr w k) (.str k u)).2.1
  have r := layNew_ris D.2.2 D.1 (hashStr w k) (.str k u) L.rising
  rw [← o.1] at r
  have z := tail_same D.2.1 (layNew D.2.2 D.1 (hashStr w k) (.str k u)).1 _ (layNew D.2.2 D.1 (hashStr w k) (.str k u)).2.2.1 r
  exact ⟨add_ok u L.texts, z.1, L.known.imp_right fun e => z.2.trans (o.2.trans ((layNew_led ..).trans e))⟩
theorem Laid.none_ : Laid P w (#[], 0, .fresh 0 0 (!w.params.followText "set-order")) [] where
  texts := .nil rfl
  rising := List.Pairwise.nil
  known := match e : w.params.followText "set-order" with
    | true => .inl rfl
    | false => .inr rfl
/-- a text that is there already changes nothing -/
theorem put_there {a : Addr} {D : Froz.SD} {l : List Str} {k : Str} {u : Tok} {Q : Bool → Shared → Prop} (there : s.heap.get? a = some (sObj "set" D)) (F : TxOk P w D l) (hk : k ∈ l) (small : l.length < scanBound)
    (goal : Q false s) : wpAny (model P w) A (setAddHashed a (.str k u) (hashStr w k)) Q E s := by
  have size : D.1.size < scanBound := by rw [F.sz]; exact small
  have key := is_str (P := P) (w := w) k u
  unfold setAddHashed setAddHashedIn setAddByScan
  refine wpAny_holding (wpAny_bind (wpAny_setState_of there rfl F.fit ?_))
  simp only [byScan_of (x := Value.str k u) rfl size F.el, ↓reduceIte]
  refine wpAny_bind (wpAny_bind (wpAny_rule (wpAny_bind (wpAny_setScan_of key there rfl F.fit F.el ?_))))
  cases found : List.findIdx? (fun e => (strKind P w).is k e.2) D.1.toList with
  | some j => exact wpAny_pure (wpAny_pure goal)
  | none =>
    obtain ⟨e, he, q⟩ := (F.mem k).mp hk
    exact absurd q (by simpa using List.findIdx?_eq_none_iff.mp found e he)
/-- one sign more -/
theorem put {a : Addr} {D : Froz.SD} {l : List Str} {c : Cs} {z : Nat} {u : Tok} {Q : Bool → Shared → Prop} (there : s.heap.get? a = some (sObj "set" D)) (L : Laid P w D l) (S : Signs l c) (small : c.length + 1 < scanBound)
    (goal : ∀ b D' l' h', h'.get? a = some (sObj "set" D') → (∀ q o, q ≠ a → s.heap.get? q = some o → h'.get? q = some o) → Laid P w D' l' → Signs l' (c ++ [z]) → Q b { s with heap := h' }) :
    wpAny (model P w) A (setAddHashed a (.str (one z) u) (hashStr w (one z))) Q E s := by
  have few := S.few
  by_cases old : one z ∈ l
  · refine put_there there L.texts old (by omega) (goal false D l s.heap there (fun _ _ _ e => e) L ⟨S.once, fun y => ?_, by simp; omega⟩)
    rw [S.are y]
    constructor
    · exact fun ⟨v, old, same⟩ => ⟨v, List.mem_append_left _ old, same⟩
    · rintro ⟨v, hv, e⟩
      rcases List.mem_append.mp hv with hv | hv
      · exact ⟨v, hv, e⟩
      · rw [List.mem_singleton] at hv
        rw [hv] at e
        exact (S.are y).mp (e ▸ old)
  · refine add_x there L.texts old (by omega) (goal true _ (one z :: l) _ (get_upd _ there rfl) (fun q o ne e => Heap.get?_update_of_ne _ (Ne.symm ne) e) (L.more u) ⟨List.nodup_cons.mpr ⟨old, S.once⟩, fun y => ?_, by simp; omega⟩)
    constructor
    · intro hy
      rcases List.mem_cons.mp hy with now | before
      · exact ⟨z, by simp, now⟩
      · obtain ⟨v, hv, e⟩ := (S.are y).mp before
        exact ⟨v, List.mem_append_left _ hv, e⟩
    · rintro ⟨v, hv, e⟩
      rcases List.mem_append.mp hv with hv | hv
      · exact List.mem_cons_of_mem _ ((S.are y).mpr ⟨v, hv, e⟩)
      · rw [List.mem_singleton] at hv
        rw [e, hv]
        exact List.mem_cons_self ..
/-- the loop: all signs that are left -/
theorem fill {a it : Addr} {x : Str} {St : Nat → Heap → Prop} {R : Result → Shared → Prop} (apart : a ≠ it) (W : Walks P w A.in1 it [it] [it] x.cps.size (SignAt x) St) (small : x.cps.size + 1 < scanBound) :
    ∀ (left done : Cs) (D : Froz.SD) (l : List Str) (s : Shared), x.cps.toList = done ++ left → St done.length s.heap → s.heap.get? a = some (sObj "set" D) → Laid P w D l → Signs l done →
      (∀ D' l' h' tk, h'.get? a = some (sObj "set" D') → Laid P w D' l' → Signs l' x.cps.toList → (∀ b o, b ≠ a → b ≠ it → s.heap.get? b = some o → h'.get? b = some o) → R (.ok (.ret .none)) { s with heap := h', toks := tk }) →
      codeAny (model P w) A (.builtin "set.update.loop" ⟨[.ref a, .ref it], []⟩) R s := by
  have notIt : a ∉ [it] := by simpa using apart
  have all : x.cps.toList.length = x.cps.size := Array.length_toList
  intro left
  induction left with
  | nil =>
    intro done D l s e st there L S goal
    rw [List.append_nil] at e
    refine codeAny_builtin PyProof.Rows.F.entry_set_update_loop (Eq.mpr (congrArg (fun B => wpAny _ B _ _ _ _) (Around.under_plainId PyProof.Rows.F.plain_set_update_loop _)) ?_)
    show wpAny _ A.in1 (pyNext (.ref it) >>= fun m => _) _ _ s
    refine wpAny_bind (W.done s _ _ (by rw [← all, e]; exact st) fun h' tk keep => wpAny_pure (goal D l h' tk (keep a _ notIt there) L (e ▸ S) fun b o _ ne he => keep b o (by simpa using ne) he))
  | cons z left ih =>
    intro done D l s e st there L S goal
    have len : done.length + (left.length + 1) = x.cps.size := by rw [← all, e]; simp
    have here : x.cps[done.length]? = some z := by rw [← Array.getElem?_toList, e]; simp
    refine codeAny_builtin PyProof.Rows.F.entry_set_update_loop (Eq.mpr (congrArg (fun B => wpAny _ B _ _ _ _) (Around.under_plainId PyProof.Rows.F.plain_set_update_loop _)) ?_)
    show wpAny _ A.in1 (pyNext (.ref it) >>= fun m => _) _ _ s
    refine wpAny_bind (W.item done.length s _ _ (by omega) st ?_)
    rintro _ h1 tk1 ⟨z', u, hz, rfl⟩ st1 keep1
    obtain rfl : z = z' := Option.some.inj (here.symm.trans hz)
    have there1 := keep1 a _ notIt there
    show wpAny _ A.in1 (holding [Value.str (one z) u] (setAdd a (.str (one z) u)) >>= fun _ => _) _ _ _
    refine wpAny_bind (wpAny_holding (wpAny_holding (wpAny_bind ((strKind P w).pyHash (is_str (one z) u) ?_))))
    refine put (s := { s with heap := h1, toks := tk1 + 1 }) there1 L S (by omega) fun _ D2 l2 h2 there2 keep2 L2' S2 => ?_
    have st2 := W.frame _ h1 h2 st1 fun b hb o he => keep2 b o (fun eq => notIt (eq ▸ hb)) he
    refine wpAny_pure ⟨plainId_quiet PyProof.Rows.F.plain_set_update_loop _, ih (done ++ [z]) D2 l2 _ (by rw [e]; simp) (by simpa using st2) there2 L2' S2 fun D3 l3 h3 tk3 there3 L3 S3 keep3 => ?_⟩
    exact goal D3 l3 h3 tk3 there3 L3 S3 fun b o na ni he => keep3 b o na ni (keep2 b o na (keep1 b o (by simpa using ni) he))
/-- `set.__new__` with one argument: what its table is told of the order -/
theorem made_empty (arg : Value) {Q : Value → Shared → Prop} (goal : Q (.ref s.heap.objs.size) { s with heap := s.heap.push (sObj "set" (#[], 0, .fresh 0 0 (!w.params.followText "set-order"))) }) :
    codeAny (model P w) A (.call (.builtin "set.__new__") ⟨[.type "set", arg], []⟩) (wants Q E) s := by
  have sub := sub_set_self
  rcases s with ⟨heap, gens, drawn, toks, os⟩
  refine codeAny_of_tree (show wpAny _ A.in1 (checkBuiltinCall "set.__new__" ⟨[.type "set", arg], []⟩ >>= fun _ => again _) _ _ _ from ?_)
  refine wpAny_bind (wpAny_of_eq (PySem.F.newCall_set_1 arg) (wpAny_pure ⟨plainId_quiet PySem.F.plain_set_new _, codeAny_builtin PySem.F.entry_set_new ?_⟩))
  rw [Around.under_plainId PySem.F.plain_set_new _, Builtin.«set.__new__», Builtin.Frozenset.newClass]
  wp_walk
  refine wpAny_askSetting (wpAny_pure (?_ : wpAny _ _ (_ >>= _) _ _ _))
  simp only [newObj]
  exact wpAny_bind (wpAny_alloc (wpAny_pure (wpAny_pure goal)))
/-- set(x) of a text -/
theorem set_text {x : Str} {t : Tok} {Q : Value → Shared → Prop} (calm : A.handled = none) (small : x.cps.size + 1 < scanBound)
    (goal : ∀ D l h' tk, h'.get? s.heap.objs.size = some (sObj "set" D) → Laid P w D l → Signs l x.cps.toList → (∀ b o, s.heap.get? b = some o → h'.get? b = some o) → Q (.ref s.heap.objs.size) { s with heap := h', toks := tk }) :
    wpAny (model P w) A (call (.type "set") [.str x t]) Q E s := by
  have T := PySem.F.called_set
  obtain ⟨_, _, order⟩ := T.mro
  have made := T.made
  have below := T.sub
  have other := T.notType
  have free := T.canCreate
  have fine := PySem.F.typeCall_set_1 (.str x t)
  refine wpAny_call (codeAny_of_tree (show wpAny _ _ (callAny (.type "set") _) _ _ _ from wpAny_pure ⟨Code.quiet_builtin _ (by decide +kernel), codeAny_builtin PySem.F.entry_type_call ?_⟩))
  rw [Around.under_plain (weight_type_call_type "set" [.str x t] []) rfl]
  repeat any_goals first | assumption | wp_step
  refine codeAny_mono (made_empty (E := E) (.str x t) (Q := fun v s' => v = .ref s.heap.objs.size ∧ s' = { s with heap := s.heap.push (sObj "set" (#[], 0, .fresh 0 0 (!w.params.followText "set-order"))) }) ⟨rfl, rfl⟩) ?_
  rintro (_ | fl) s' told
  · exact told
  cases fl with
  | ret v =>
    obtain ⟨rfl, rfl⟩ := told
    have there : (s.heap.push (sObj "set" (#[], 0, .fresh 0 0 (!w.params.followText "set-order")))).get? s.heap.objs.size = some (sObj "set" (#[], 0, .fresh 0 0 (!w.params.followText "set-order"))) := Heap.get?_push_size _ rfl
    have isSet : Shared.TypeIs { s with heap := s.heap.push (sObj "set" (#[], 0, .fresh 0 0 (!w.params.followText "set-order"))) } (.ref s.heap.objs.size) "set" := ⟨_, there, rfl⟩
    have looked := T.init.lookup
    have bound := T.init.bind (.ref s.heap.objs.size)
    repeat any_goals first | assumption | wp_step
    refine codeAny_mono (codeAny_call_builtin (R := wants (fun r s' => r = .none ∧ Q (.ref s.heap.objs.size) s') E) T.init.plain PySem.F.entry_set_init (check_set_init_1 isSet ?_)) ?_
    · have noSet : isSubtype (.type "str") (.type "set") = pure false := by rw [isSubtype_type]; kernel_rfl
      have noFrozen : isSubtype (.type "str") (.type "frozenset") = pure false := by rw [isSubtype_type]; kernel_rfl
      have noDict : (Value.type "str" == Value.type "dict") = false := by decide
      rw [Builtin.«set.__init__», noKeywords]
      unfold Builtin.Frozenset.updateFrom
      generalize walked : pyIter = I
      wp_walk
      subst walked
      refine wpAny_pyIter_str fun o St walks begun => wpAny_bind (wpAny_runValue ?_)
      have next : (s.heap.push (sObj "set" (#[], 0, .fresh 0 0 (!w.params.followText "set-order")))).objs.size = s.heap.objs.size + 1 := Heap.size_push ..
      have apart : s.heap.objs.size ≠ (s.heap.push (sObj "set" (#[], 0, .fresh 0 0 (!w.params.followText "set-order")))).objs.size := by
        rw [next]
        exact Nat.ne_of_lt (Nat.lt_succ_self _)
      refine fill apart (walks _ (by simpa using calm)) small x.cps.toList [] _ [] _ rfl begun (Heap.get?_push_of_some _ there) Laid.none_ ⟨List.nodup_nil, fun y => by simp, Nat.le_refl _⟩ fun D l h' tk there' L S keep => ?_
      refine wpAny_pure (wpAny_pure ⟨rfl, goal D l h' tk there' L S fun b u e => keep b u ?_ ?_ (Heap.get?_push_of_some _ (Heap.get?_push_of_some _ e))⟩)
      · exact Nat.ne_of_lt (Heap.lt_size e)
      · rw [next]
        exact Nat.ne_of_lt (Nat.lt_succ_of_lt (Heap.lt_size e))
    · rintro (_ | fl) s' told
      · exact told
      cases fl with
      | ret v =>
        obtain ⟨rfl, q⟩ := told
        repeat any_goals first | assumption | wp_step
      | _ => exact told.elim
  | _ => exact told.elim
theorem perm_of : ∀ (l m : List Str), l.Nodup → (∀ x ∈ l, x ∈ m) → m.length ≤ l.length → m.Perm l
  | [], m, _, _, len => by
    cases m with
    | nil => exact .refl _
    | cons a r => exact absurd len (by simp)
  | x :: l, m, once, sub, len => by
    obtain ⟨new, once⟩ := List.nodup_cons.mp once
    have hx := sub x (List.mem_cons_self ..)
    have len2 := List.length_erase_of_mem hx
    have some_ := List.length_pos_of_mem hx
    refine (List.perm_cons_erase hx).trans (.cons x (perm_of l (m.erase x) once (fun y hy => ?_) (by rw [len2]; simp at len; omega)))
    exact (List.mem_erase_of_ne (show y ≠ x from fun e => new (e ▸ hy))).mpr (sub y (List.mem_cons_of_mem _ hy))
/-- sorted(..) of a set of texts -/
theorem sort_text {a : Addr} {D : Froz.SD} {l : List Str} {Q : Value → Shared → Prop} (calm : A.handled = none) (there : s.heap.get? a = some (sObj "set" D)) (L : Laid P w D l) (once : l.Nodup) (few : l.length < 64)
    (goal : ∀ s' p out e ys, s'.heap.get? p = some (seqObj "list" out e) → StrsAre out.toList ys → ys.Perm l → sortedS ys = true → s.heap.objs.size ≤ p →
      (∀ b o, s.heap.get? b = some o → s'.heap.get? b = some o) → s'.gens = s.gens → s'.os = s.os → Q (.ref p) s') :
    wpAny (model P w) A (call (.builtin "sorted") [.ref a]) Q E s := by
  have size := L.texts.sz
  have room : D.1.size < scanBound := by rw [size]; exact Nat.lt_of_lt_of_le few (by decide)
  refine Calls.call_function_entry kind_sorted plain_sorted entry_sorted (args_sorted1 _) (wpAny_bind (m := checkCount "sorted" 1 1 _) (wpAny_pure (wpAny_bind ?_)))
  refine collect_set (A := A.in1) calm ⟨_, there, rfl, rfl⟩ L.texts.fit room L.rising L.known fun s1 vs kept grown gens os perm => ?_
  have each : ∀ v ∈ vs, ∃ x t, v = Value.str x t := fun v hv => by
    obtain ⟨e, he, rfl⟩ := List.mem_map.mp (perm.mem_iff.mp hv)
    obtain ⟨⟨k, hk, _⟩, _⟩ := L.texts.el e he
    exact ⟨k, Value.isStrOf_shape hk⟩
  have long : vs.length = l.length := by rw [perm.length_eq, List.length_map, Array.length_toList, size]
  have same : (vs.map strOf).Perm l := perm_of l (vs.map strOf) once (fun k hk => by
    obtain ⟨e, he, q⟩ := (L.texts.mem k).mp hk
    obtain ⟨t, ex⟩ := Value.isStrOf_shape q
    exact List.mem_map.mpr ⟨e.2, perm.mem_iff.mpr (List.mem_map.mpr ⟨e, he, rfl⟩), by rw [ex]; rfl⟩) (by rw [List.length_map, long]; exact Nat.le_refl _)
  have S := strsAre_map vs each
  refine wpAny_bind (wpAny_newList ?_ (by rw [long, sizeLine_eq]; omega))
  have list : (s1.heap.push (seqObj "list" vs.toArray 0)).get? s1.heap.objs.size = some (seqObj "list" vs.toArray 0) := Heap.get?_push_size _ rfl
  refine wpAny_bind (wpAny_holding (wpAny_call_entry slot_list_sort ⟨_, list, rfl⟩ entry_list_sort (list_sort_treeK strKind_oneLt list S.keysOf (fun v u rest e => keyKind_strs (e ▸ S)) (by omega) fun st pm hs => ⟨_, rfl, ?_⟩) (args_list_sort _)))
  obtain ⟨ys, are, py, sorted⟩ := sorted_out_str S pm hs
  obtain ⟨e, stands⟩ := sortedHeap_at (vs := vs) (out := (arrOf st).map (·.2)) list
  refine wpAny_pure ⟨_, rfl, goal _ _ _ e ys stands are (py.trans same) sorted grown (fun b o h => ?_) gens os⟩
  have h1 := kept b o h
  have lt := Heap.lt_size h1
  refine (sortedHeap_old (Nat.ne_of_lt lt) ?_).trans (Heap.get?_push_of_some _ h1)
  rw [size_push']
  exact Nat.lt_succ_of_lt lt
end
/-! ### what a set is to the hand layer -/
/-- the set of the n texts S at a -/
def SetT (Pw : Program × World) (a : Addr) (S : Str → Bool) (n : Nat) : HO := .ext fun h => ∃ D l, h.get? a = some (sObj "set" D) ∧ Laid Pw.1 Pw.2 D l ∧ l.Nodup ∧ (∀ y, y ∈ l ↔ S y = true) ∧ l.length = n
def rSetTx (Pw : Program × World) : List V → Hp → VK → Prop := fun vs H Q => ∃ x : Cs, vs = [.str (tx x)] ∧ x.length < 90 ∧
  ∀ p H' n, H p = none → Same H H' → H' p = some (SetT Pw p (fun y => decide (∃ c ∈ x, y = one c)) n) → n ≤ x.length → Q (.ref p) H'
def rSortT (Pw : Program × World) : List V → Hp → VK → Prop := fun vs H Q => ∃ (a : Addr) (S : Str → Bool) (n : Nat), vs = [.ref a] ∧ H a = some (SetT Pw a S n) ∧ n < 64 ∧
  ∀ ys : List Str, sortedS ys = true → ys.Nodup → (∀ y, y ∈ ys ↔ S y = true) → ys.length = n → New (.lst (ys.map V.str)) H Q
section
variable {X : Cx} {Pw : Program × World}
theorem setT_ok {P : Program} {w : World} {H : Hp} {h : Heap} {a : Addr} {S : Str → Bool} {n : Nat} {D : Froz.SD} {l : List Str} (there : h.get? a = some (sObj "set" D)) (L : Laid Pw.1 Pw.2 D l) (once : l.Nodup) (are : ∀ y, y ∈ l ↔ S y = true) (len : l.length = n) :
    ObjOk P w H h a (SetT Pw a S n) :=
  ⟨⟨D, l, there, L, once, are, len⟩, ⟨_, there⟩, fun _ _ ⟨D, l, e, r⟩ k => ⟨D, l, k _ e, r⟩⟩
theorem kSetTx (e : (X.prog, X.w) = Pw) (calm : X.calm = true) : CallR X (.type "set") (rSetTx Pw) := by
  subst e
  rintro pins s σ H _ us Q I r ⟨x, rfl, short, goal⟩
  obtain ⟨v, rfl, t, rfl⟩ := vals1 r
  have size : (tx x).cps.size = x.length := tx_size x
  refine set_text (I.ok.hd calm) (by rw [size]; exact Nat.lt_of_lt_of_le (Nat.succ_lt_succ short) (by decide)) fun D l h' tk there L S keep => ?_
  have new := I.hok.fresh (a := s.heap.objs.size) (Nat.le_refl _)
  have few : l.length ≤ x.length := S.few
  refine ⟨.ref s.heap.objs.size, _, I.laid (t' := tk) keep (Nat.le_refl _) (setT_ok (Pw := (X.prog, X.w)) there L S.once (fun y => (S.are y).trans decide_eq_true_iff.symm) rfl), rfl, goal _ _ _ new (same_new new) upd_same few⟩
theorem kSortT (e : (X.prog, X.w) = Pw) (calm : X.calm = true) : CallR X (.builtin "sorted") (rSortT Pw) := by
  subst e
  rintro pins s σ H _ us Q I r ⟨a, S, n, rfl, ha, few, goal⟩
  obtain ⟨D, l, there, L, once, are, rfl⟩ := (I.hok a _ ha).1
  rw [Vals.ref1 r]
  refine sort_text (I.ok.hd calm) there L once few fun s' p out c ys stands texts perm sorted high keep gens os => ?_
  have new : H p = none := I.hok.fresh high
  have J : Inv X pins σ (upd H p (.lst (ys.map V.str))) s' := I.call' (ch := []) os (Un.laid keep high new) (I.hok.laid keep high ⟨by rw [List.length_map, perm.length_eq, sizeLine_eq]; omega, out.toList, c, vals_of_strs texts, stands⟩) (by rw [gens]; exact I.bare) (fun _ z => nomatch z)
  exact ⟨.ref p, _, J, rfl, (goal ys sorted (perm.nodup_iff.mpr once) (fun y => perm.mem_iff.trans (are y)) perm.length_eq).at p new⟩
end
end Fo

namespace Fo
/-! ### a row as one reader -/
theorem rowOn_none : ∀ (rs : List Rdr) (ss : List Nat), ss.length = rs.length → rowOn rs ss [] = (ss, [])
  | [], [], _ => rfl
  | [], s :: ss, h => by simp at h
  | r :: rs, [], h => by simp at h
  | r :: rs, s :: ss, h => by
    show (s :: (rowOn rs ss []).1, (rowOn rs ss []).2) = _
    rw [rowOn_none rs ss (by simpa using h)]
theorem rowOn_two : ∀ (rs : List Rdr) (ss : List Nat) (l m : Cs), ss.length = rs.length → rowOn rs ss (l ++ m) = ((rowOn rs (rowOn rs ss l).1 m).1, (rowOn rs ss l).2 ++ (rowOn rs (rowOn rs ss l).1 m).2)
  | [], [], l, m, _ => rfl
  | [], s :: ss, l, m, h => by simp at h
  | r :: rs, [], l, m, h => by simp at h
  | r :: rs, s :: ss, l, m, h => by
    have ih := rowOn_two rs ss (r.run s l).2 (r.run (r.run s l).1 m).2 (by simpa using h)
    show ((r.run s (l ++ m)).1 :: (rowOn rs ss (r.run s (l ++ m)).2).1, (rowOn rs ss (r.run s (l ++ m)).2).2) = _
    rw [Rdr.run_app]
    dsimp only
    rw [ih]
    rfl
theorem short_of : ∀ (n : Nat) (l : List Nat), l.Nodup → (∀ x ∈ l, x < n) → l.length ≤ n
  | 0, l, _, h => by
    cases l with
    | nil => exact Nat.le_refl _
    | cons a r => exact absurd (h a (List.mem_cons_self ..)) (Nat.not_lt_zero a)
  | n + 1, l, d, h => by
    have ih := short_of n (l.erase n) (d.erase n) fun x hx => by
      have z := (List.Nodup.mem_erase_iff d).mp hx
      have := h x z.2
      have := z.1
      omega
    by_cases c : n ∈ l
    · have := List.length_erase_of_mem c
      omega
    · rw [List.erase_of_not_mem c] at ih
      omega
/-- seats by one number -/
def seatNo : List Nat → Nat
  | [] => 0
  | s :: ss => s + 3 * seatNo ss
theorem seatNo_lt : ∀ {ss : List Nat}, (∀ s ∈ ss, s < 3) → seatNo ss < 3 ^ ss.length
  | [], _ => by decide
  | s :: ss, h => by
    have h1 := h s (List.mem_cons_self ..)
    have ih := seatNo_lt fun x hx => h x (List.mem_cons_of_mem _ hx)
    rw [List.length_cons, Nat.pow_succ]
    show s + 3 * seatNo ss < _
    omega
theorem seatNo_inj : ∀ {ss ts : List Nat}, ss.length = ts.length → (∀ s ∈ ss, s < 3) → (∀ s ∈ ts, s < 3) → seatNo ss = seatNo ts → ss = ts
  | [], [], _, _, _, _ => rfl
  | [], _ :: _, h, _, _, _ => by simp at h
  | _ :: _, [], h, _, _, _ => by simp at h
  | s :: ss, t :: ts, h, h1, h2, e => by
    have a := h1 s (List.mem_cons_self ..)
    have b := h2 t (List.mem_cons_self ..)
    have e' : s + 3 * seatNo ss = t + 3 * seatNo ts := e
    have ih := seatNo_inj (by simpa using h) (fun x hx => h1 x (List.mem_cons_of_mem _ hx)) (fun x hx => h2 x (List.mem_cons_of_mem _ hx)) (show seatNo ss = seatNo ts by omega)
    rw [ih, show s = t by omega]
theorem seats_short {rs : List Rdr} (R : Row rs) (few : ∀ r ∈ rs, r.states.length ≤ 3) {F : List (List Nat)} (d : F.Nodup) (h : ∀ f ∈ F, Seats rs f) : F.length ≤ 27 := by
  have low : ∀ f ∈ F, ∀ s ∈ f, s < 3 := fun f hf s hs => by
    obtain ⟨i, hi⟩ := List.mem_iff_getElem?.mp hs
    have il : i < rs.length := by rw [← (h f hf).len]; exact (List.getElem?_eq_some_iff.mp hi).1
    have er : rs[i]? = some (rs[i]'il) := List.getElem?_eq_getElem il
    exact Nat.lt_of_lt_of_le ((h f hf).at_ i _ _ er hi) (few _ (List.mem_of_getElem? er))
  have z := short_of 27 (F.map seatNo) ?_ fun x hx => ?_
  · rwa [List.length_map] at z
  · refine List.pairwise_map.mpr (List.Pairwise.imp_of_mem (fun {a b} ha hb ne e => ne ?_) d)
    exact seatNo_inj ((h a ha).len.trans (h b hb).len.symm) (low a ha) (low b hb) e
  · obtain ⟨f, hf, rfl⟩ := List.mem_map.mp hx
    have := seatNo_lt (low f hf)
    rw [(h f hf).len] at this
    exact Nat.lt_of_lt_of_le this (pow3 R.few)
/-- what is known so far: the seats that texts come to, the states that are told -/
structure Won where
  seats : List (List Nat)
  told : List Sta
def meet (F : List (List Nat)) (f : List Nat) : List (List Nat) := if f ∈ F then F else F ++ [f]
def ways (rs : List Rdr) (here : List Nat) : Cs → List (List Nat) → List (Nat × Cs) → List (List Nat) × List (Nat × Cs)
  | [], F, ws => (F, ws)
  | c :: cs, F, ws => ways rs here cs (meet F (rowOn rs here [c]).1) (ws ++ [((meet F (rowOn rs here [c]).1).idxOf (rowOn rs here [c]).1, (rowOn rs here [c]).2)])
theorem ways_snoc (rs : List Rdr) (here : List Nat) (c : Nat) : ∀ (cs : Cs) (F : List (List Nat)) (ws : List (Nat × Cs)), ways rs here (cs ++ [c]) F ws =
    (meet (ways rs here cs F ws).1 (rowOn rs here [c]).1, (ways rs here cs F ws).2 ++ [((meet (ways rs here cs F ws).1 (rowOn rs here [c]).1).idxOf (rowOn rs here [c]).1, (rowOn rs here [c]).2)])
  | [], F, ws => rfl
  | d :: cs, F, ws => ways_snoc rs here c cs _ _
def stepW (rs : List Rdr) (reads : Cs) (st : Won) : Won := match st.seats[st.told.length]? with
  | none => st
  | some here => ⟨(ways rs here reads st.seats []).1, st.told ++ [⟨(ways rs here reads st.seats []).2, rowEnd rs here []⟩]⟩
def won (rs : List Rdr) (reads : Cs) : Nat → Won
  | 0 => ⟨[List.replicate rs.length 0], []⟩
  | n + 1 => stepW rs reads (won rs reads n)
theorem mem_meet {F : List (List Nat)} {f : List Nat} : f ∈ meet F f := by
  unfold meet
  split
  · assumption
  · simp
theorem meet_more (F : List (List Nat)) (f : List Nat) : ∃ G, meet F f = F ++ G := by
  unfold meet
  split
  · exact ⟨[], (List.append_nil F).symm⟩
  · exact ⟨[f], rfl⟩
theorem idx_more {F G : List (List Nat)} {f : List Nat} (h : f ∈ F) : (F ++ G).idxOf f = F.idxOf f := by
  rw [List.idxOf_append, if_pos h]
/-- seats as they have to be -/
structure Known (rs : List Rdr) (F : List (List Nat)) : Prop where
  once : F.Nodup
  seats : ∀ f ∈ F, Seats rs f
theorem Known.meet {rs : List Rdr} {F : List (List Nat)} {f : List Nat} (k : Known rs F) (h : Seats rs f) : Known rs (meet F f) := by
  unfold Fo.meet
  split
  · exact k
  · rename_i new
    refine ⟨List.nodup_append.mpr ⟨k.once, by simp, fun a ha b hb e => new ?_⟩, fun g hg => ?_⟩
    · rw [List.mem_singleton] at hb
      rw [← hb, ← e]
      exact ha
    · rcases List.mem_append.mp hg with hg | hg
      · exact k.seats g hg
      · rw [List.mem_singleton.mp hg]
        exact h
def wayOf (rs : List Rdr) (F : List (List Nat)) (here : List Nat) (c : Nat) : Nat × Cs := (F.idxOf (rowOn rs here [c]).1, (rowOn rs here [c]).2)
theorem ways_are {rs : List Rdr} {here : List Nat} : ∀ (cs : Cs) (F : List (List Nat)), Known rs F → (∀ c ∈ cs, Seats rs (rowOn rs here [c]).1) →
    Known rs (ways rs here cs F []).1 ∧ (∃ G, (ways rs here cs F []).1 = F ++ G) ∧ (ways rs here cs F []).2 = cs.map (wayOf rs (ways rs here cs F []).1 here) ∧ ∀ c ∈ cs, (rowOn rs here [c]).1 ∈ (ways rs here cs F []).1 := by
  intro cs F k
  -- from behind
  have back : ∀ n, n ≤ cs.length → (∀ c ∈ cs, Seats rs (rowOn rs here [c]).1) → Known rs (ways rs here (cs.take n) F []).1 ∧ (∃ G, (ways rs here (cs.take n) F []).1 = F ++ G) ∧
      (ways rs here (cs.take n) F []).2 = (cs.take n).map (wayOf rs (ways rs here (cs.take n) F []).1 here) ∧ ∀ c ∈ cs.take n, (rowOn rs here [c]).1 ∈ (ways rs here (cs.take n) F []).1 := by
    intro n
    induction n with
    | zero => exact fun _ _ => ⟨k, ⟨[], (List.append_nil F).symm⟩, rfl, fun _ h => nomatch h⟩
    | succ n ih =>
      intro hn hs
      obtain ⟨i1, ⟨G, i2⟩, i3, i4⟩ := ih (by omega) hs
      have ec : cs[n]? = some (cs[n]'(by omega)) := List.getElem?_eq_getElem (by omega)
      generalize cs[n]'(by omega) = c at ec
      have hc := hs c (List.mem_of_getElem? ec)
      rw [take_snoc ec, ways_snoc]
      obtain ⟨M, hM⟩ := meet_more (ways rs here (cs.take n) F []).1 (rowOn rs here [c]).1
      refine ⟨i1.meet hc, ⟨G ++ M, by dsimp only; rw [hM, i2, List.append_assoc]⟩, ?_, fun d hd => ?_⟩
      · rw [List.map_append]
        dsimp only
        rw [i3]
        congr 1
        refine List.map_congr_left fun d hd => ?_
        have e := i4 d hd
        unfold wayOf
        rw [hM, idx_more e]
      · rcases List.mem_append.mp hd with hd | hd
        · dsimp only
          rw [hM]
          exact List.mem_append_left _ (i4 d hd)
        · rw [List.mem_singleton.mp hd]
          exact mem_meet
  intro hs
  have z := back cs.length (Nat.le_refl _) hs
  rwa [List.take_length] at z
/-- a state told of a seat -/
def staOf (rs : List Rdr) (reads : Cs) (F : List (List Nat)) (f : List Nat) : Sta := ⟨reads.map (wayOf rs F f), rowEnd rs f []⟩
structure WonOk (rs : List Rdr) (reads : Cs) (w : Won) : Prop where
  known : Known rs w.seats
  first : w.seats[0]? = some (List.replicate rs.length 0)
  few : w.told.length ≤ w.seats.length
  told : ∀ (j : Nat) (f : List Nat), j < w.told.length → w.seats[j]? = some f → w.told[j]? = some (staOf rs reads w.seats f) ∧ ∀ c ∈ reads, (rowOn rs f [c]).1 ∈ w.seats
theorem wayOf_more {rs : List Rdr} {reads : Cs} {F G : List (List Nat)} {f : List Nat} (h : ∀ c ∈ reads, (rowOn rs f [c]).1 ∈ F) : staOf rs reads (F ++ G) f = staOf rs reads F f := by
  unfold staOf
  congr 1
  refine List.map_congr_left fun c hc => ?_
  unfold wayOf
  rw [idx_more (h c hc)]
theorem won_ok {rs : List Rdr} {reads : Cs} (R : Row rs) (hr : ∀ r, rs[0]? = some r → r.reads = reads) : ∀ n, WonOk rs reads (won rs reads n)
  | 0 => ⟨⟨by simp [won], fun f hf => by rw [List.mem_singleton.mp hf]; exact Seats.zero R⟩, rfl, Nat.zero_le _, fun j f hj _ => absurd hj (Nat.not_lt_zero j)⟩
  | n + 1 => by
    have ih := won_ok R hr n
    show WonOk rs reads (stepW rs reads (won rs reads n))
    generalize won rs reads n = w at ih
    unfold stepW
    cases e : w.seats[w.told.length]? with
    | none => exact ih
    | some here =>
      dsimp only
      have hl := (List.getElem?_eq_some_iff.mp e).1
      have S := ih.known.seats here (List.mem_of_getElem? e)
      have one : ∀ c ∈ reads, Tx rs 0 1 [c] := fun c hc => ⟨fun r h x hx => by rw [List.mem_singleton.mp hx, hr r h]; exact hc, by show 1 + 2 ≤ 1 * (1 + 2); decide⟩
      obtain ⟨w1, ⟨G, w2⟩, w3, w4⟩ := ways_are (here := here) reads w.seats ih.known fun c hc => (S.on R (one c hc)).1
      refine ⟨w1, ?_, ?_, fun j f hj hf => ?_⟩
      · dsimp only
        rw [w2, List.getElem?_append_left (by omega)]
        exact ih.first
      · dsimp only
        rw [w2, List.length_append, List.length_append, List.length_singleton]
        omega
      · dsimp only at hj hf ⊢
        rw [List.length_append, List.length_singleton] at hj
        rw [w2] at hf ⊢
        rw [List.getElem?_append_left (by omega)] at hf
        by_cases h : j < w.told.length
        · obtain ⟨t1, t2⟩ := ih.told j f h hf
          rw [List.getElem?_append_left h, t1, wayOf_more t2]
          exact ⟨rfl, fun c hc => List.mem_append_left _ (t2 c hc)⟩
        · have ej : j = w.told.length := by omega
          subst ej
          rw [e] at hf
          cases hf
          rw [List.getElem?_append_right (Nat.le_refl _), Nat.sub_self, w3, w2]
          exact ⟨rfl, fun c hc => by rw [← w2]; exact w4 c hc⟩
theorem won_stays {rs : List Rdr} {reads : Cs} {n : Nat} (h : (won rs reads n).seats.length ≤ (won rs reads n).told.length) : ∀ k, won rs reads (n + k) = won rs reads n
  | 0 => rfl
  | k + 1 => by
    show stepW rs reads (won rs reads (n + k)) = _
    rw [won_stays h k]
    unfold stepW
    rw [List.getElem?_eq_none (by omega)]
/-- all that is told -/
@[irreducible] def wonAll (rs : List Rdr) (reads : Cs) : Won := won rs reads 30
theorem won_end {rs : List Rdr} {reads : Cs} {n : Nat} (hn : n ≤ 30) (h : (won rs reads n).seats.length ≤ (won rs reads n).told.length) : won rs reads n = wonAll rs reads := by
  have e := won_stays h (30 - n)
  rw [show n + (30 - n) = 30 by omega] at e
  unfold wonAll
  exact e.symm
theorem won_grows {rs : List Rdr} {reads : Cs} : ∀ n, (won rs reads n).seats.length ≤ (won rs reads n).told.length ∨ (won rs reads n).told.length = n
  | 0 => .inr rfl
  | n + 1 => by
    rcases won_grows (rs := rs) (reads := reads) n with h | h
    · refine .inl ?_
      rw [won_stays h 1]
      exact h
    · show (stepW rs reads (won rs reads n)).seats.length ≤ (stepW rs reads (won rs reads n)).told.length ∨ (stepW rs reads (won rs reads n)).told.length = n + 1
      unfold stepW
      cases e : (won rs reads n).seats[(won rs reads n).told.length]? with
      | none => exact .inl (List.getElem?_eq_none_iff.mp e)
      | some f => exact .inr (by dsimp only; rw [List.length_append, h]; rfl)
theorem wonAll_ok {rs : List Rdr} {reads : Cs} (R : Row rs) (hr : ∀ r, rs[0]? = some r → r.reads = reads) : WonOk rs reads (wonAll rs reads) := by
  unfold wonAll
  exact won_ok R hr 30
theorem wonAll_done {rs : List Rdr} {reads : Cs} (R : Row rs) (hr : ∀ r, rs[0]? = some r → r.reads = reads) (few : ∀ r ∈ rs, r.states.length ≤ 3) : (wonAll rs reads).told.length = (wonAll rs reads).seats.length := by
  unfold wonAll
  have o := won_ok R hr 30
  have s := seats_short R few o.known.once o.known.seats
  have := o.few
  rcases won_grows (rs := rs) (reads := reads) 30 with h | h
  · exact Nat.le_antisymm o.few h
  · omega
/-- the row as one reader -/
def oneOf (reads tells : Cs) (W : Won) : Rdr := ⟨reads, tells, W.told⟩
section
variable {rs : List Rdr} {reads tells : Cs} {W : Won}
theorem one_sta (O : WonOk rs reads W) (d : W.told.length = W.seats.length) {k : Nat} {f : List Nat} (hf : W.seats[k]? = some f) :
    k < (oneOf reads tells W).states.length ∧ (oneOf reads tells W).sta k = staOf rs reads W.seats f ∧ ∀ c ∈ reads, (rowOn rs f [c]).1 ∈ W.seats := by
  have hk := (List.getElem?_eq_some_iff.mp hf).1
  have kl : k < W.told.length := by omega
  obtain ⟨t1, t2⟩ := O.told k f kl hf
  refine ⟨kl, ?_, t2⟩
  show W.told.getD k default = _
  rw [List.getD_eq_getElem?_getD, t1]
  rfl
theorem one_go {k : Nat} {f : List Nat} {c : Nat} (e : (oneOf reads tells W).sta k = staOf rs reads W.seats f) (hc : c ∈ reads) : (oneOf reads tells W).go k c = wayOf rs W.seats f c := by
  unfold Rdr.go
  rw [e]
  show (reads.map (wayOf rs W.seats f)).getD (reads.idxOf c) (0, []) = _
  have hi := List.idxOf_lt_length_iff.mpr hc
  rw [List.getD_eq_getElem?_getD, List.getElem?_map, List.getElem?_eq_getElem hi, List.getElem_idxOf hi]
  rfl
theorem seat_at {F : List (List Nat)} {f : List Nat} (h : f ∈ F) : F[F.idxOf f]? = some f := by
  have hi := List.idxOf_lt_length_iff.mpr h
  rw [List.getElem?_eq_getElem hi, List.getElem_idxOf hi]
theorem one_run (O : WonOk rs reads W) (d : W.told.length = W.seats.length) : ∀ (l : Cs) (k : Nat) (f : List Nat), (∀ c ∈ l, c ∈ reads) → W.seats[k]? = some f →
    (oneOf reads tells W).run k l = (W.seats.idxOf (rowOn rs f l).1, (rowOn rs f l).2) ∧ (rowOn rs f l).1 ∈ W.seats
  | [], k, f, _, hf => by
    have S := O.known.seats f (List.mem_of_getElem? hf)
    rw [rowOn_none rs f S.len]
    obtain ⟨hk, ek⟩ := List.getElem?_eq_some_iff.mp hf
    refine ⟨?_, List.mem_of_getElem? hf⟩
    show (k, []) = (W.seats.idxOf f, [])
    rw [← ek, O.known.once.idxOf_getElem]
  | c :: l, k, f, hl, hf => by
    have S := O.known.seats f (List.mem_of_getElem? hf)
    obtain ⟨_, e, hin⟩ := one_sta (tells := tells) O d hf
    have hc := hl c (List.mem_cons_self ..)
    have g := one_go e hc
    obtain ⟨i1, i2⟩ := one_run O d l _ _ (fun x hx => hl x (List.mem_cons_of_mem _ hx)) (seat_at (hin c hc))
    have two := rowOn_two rs f [c] l S.len
    rw [List.singleton_append] at two
    rw [two]
    refine ⟨?_, i2⟩
    show (((oneOf reads tells W).run ((oneOf reads tells W).go k c).1 l).1, ((oneOf reads tells W).go k c).2 ++ ((oneOf reads tells W).run ((oneOf reads tells W).go k c).1 l).2) = _
    rw [g]
    show (((oneOf reads tells W).run (W.seats.idxOf (rowOn rs f [c]).1) l).1, (rowOn rs f [c]).2 ++ ((oneOf reads tells W).run (W.seats.idxOf (rowOn rs f [c]).1) l).2) = _
    rw [i1]
theorem one_telling (O : WonOk rs reads W) (d : W.told.length = W.seats.length) {l : Cs} (hl : ∀ c ∈ l, c ∈ reads) :
    (oneOf reads tells W).telling l = (rowEnd rs (rowOn rs (List.replicate rs.length 0) l).1 []).map ((rowOn rs (List.replicate rs.length 0) l).2 ++ ·) := by
  obtain ⟨e, hm⟩ := one_run (tells := tells) O d l 0 _ hl O.first
  obtain ⟨_, e2, _⟩ := one_sta (tells := tells) O d (seat_at hm)
  unfold Rdr.telling
  rw [e]
  dsimp only
  rw [e2]
  rfl
theorem one_ok (R : Row rs) (hr : ∀ r, rs[0]? = some r → r.reads = reads) (O : WonOk rs reads W) (d : W.told.length = W.seats.length) : (oneOf reads tells W).Ok 28000 := by
  have each : ∀ s ∈ W.told, ∃ f, Seats rs f ∧ s = staOf rs reads W.seats f ∧ ∀ c ∈ reads, (rowOn rs f [c]).1 ∈ W.seats := fun s hs => by
    obtain ⟨j, hj⟩ := List.mem_iff_getElem?.mp hs
    have hl : j < W.told.length := (List.getElem?_eq_some_iff.mp hj).1
    have ef : W.seats[j]? = some (W.seats[j]'(by omega)) := List.getElem?_eq_getElem (by omega)
    obtain ⟨t1, t2⟩ := O.told j _ hl ef
    rw [hj] at t1
    exact ⟨_, O.known.seats _ (List.mem_of_getElem? ef), Option.some.inj t1, t2⟩
  have ne : 0 < W.seats.length := (List.getElem?_eq_some_iff.mp O.first).1
  refine ⟨by show 0 < W.told.length; omega, fun s hs => ?_, fun s hs w hw => ?_, fun s hs t ht => ?_⟩
  · obtain ⟨f, _, rfl, _⟩ := each s hs
    exact List.length_map ..
  · obtain ⟨f, S, rfl, hin⟩ := each s hs
    obtain ⟨c, hc, rfl⟩ := List.mem_map.mp (show w ∈ reads.map (wayOf rs W.seats f) from hw)
    have T : Tx rs 0 1 [c] := ⟨fun r h x hx => by rw [List.mem_singleton.mp hx, hr r h]; exact hc, by show 1 + 2 ≤ 1 * (1 + 2); decide⟩
    refine ⟨?_, (S.on R T).2.few R.few (by decide)⟩
    show W.seats.idxOf _ < W.told.length
    rw [d]
    exact List.idxOf_lt_length_iff.mpr (hin c hc)
  · obtain ⟨f, S, rfl, _⟩ := each s hs
    exact rowEnd_few R S ht
end
end Fo

namespace Fo
open PySem PySem.Spec PyProof.Rows L2
theorem lt1 {k : Nat} {A : Around} (r : Room k A) : A.units + 1 < cLine := by have := r.un; omega
theorem lt65 {k : Nat} {A : Around} (r : Room k A) : A.units + 65 < cLine := by have := r.un; omega
/-! ### dicts with tuples for keys -/
/-- {k: v}: one pair, its key a tuple of ints and texts -/
def tD1 (tk tv : TE) : TE := fun σ H Q => ∀ p H1, H p = none → Same H H1 → H1 p = some (.dT []) → tk σ H1 fun x H2 => tv σ H2 fun y H3 => ∃ (b : Addr) (k : List Key), x = .ref b ∧ H3 b = some (.tup (k.map kV)) ∧ H3 p = some (.dT []) ∧
  ∀ H4, But p H3 H4 → H4 p = some (.dT [(k, y)]) → Q (.ref p) H4
theorem pe_disp1 {X : Cx} {pos : Pos} {ke ve : Expr} {tk tv : TE} (room : X.A.units + 1 < cLine) (hk : PE X ke tk) (hv : PE X ve tv) : PE X (.Dict [some ke] [ve] pos) (tD1 tk tv) := by
  refine ⟨fun pins s σ H Q I asked => ?_⟩
  have new := I.hok.fresh (Nat.le_refl s.heap.objs.size)
  have begun := I.laid (o := .dT []) (t' := s.toks) (fun _ _ e => Heap.get?_push_of_some { cls := .type "dict", data := .dict #[] } e) (Nat.le_refl _) (dt_empty s.heap I.big)
  rw [arm_eval_Dict, zip_pairTrees [some ke] [ve] X.env pos rfl rfl, dictDisplay_pairs (pairTrees [some ke] [ve] X.env pos) (List.cons_ne_nil _ _) (show 1 < 17 by decide)]
  refine wpAny_bind (wpAny_standAt (wpAny_bind (wpAny_subDictH (knd := tupleKind (mixKind X.prog X.w)) (show X.A.units < cLine by omega) (show 1 ≤ 15 by decide) ?_)))
  refine pairTrees_cons_walk (thn (hk.run pins _ σ _ _ begun (asked _ _ new (same_new new) upd_same)) fun kv s2 ⟨x, H2, I2, rx, q2⟩ => thn (hv.run pins s2 σ H2 _ I2 q2) fun vv s3 ⟨y, H3, I3, ry, b, k, ex, eb, ep, goal⟩ => pairTrees_nil_walk ?_)
  subst ex
  cases rx
  obtain ⟨_, notMods, xs, rel, dict⟩ := dt_of I3.hok ep
  cases rel
  refine ⟨[(k, b, vv)], ⟨rfl, rfl, key_of I3.hok eb, trivial⟩, dict, fun h' tk' made same => wpAny_pure ⟨.ref s.heap.objs.size, upd H3 s.heap.objs.size (.dT [(k, y)]), ?_, rfl, goal _ But.upd upd_same⟩⟩
  obtain ⟨o, es, n, ho, h2, h3, h4, _, h5⟩ := made
  have kt := KT.put (H := H3) (kvs := []) (xs := []) .nil k eb ry
  refine d_write I3 (by rw [ep]; trivial) same ⟨o, ho⟩ ⟨show 1 ≤ sizeLine from szS, notMods, _, kt.keeps fun c ys e => ?_, o, es, n, ho, h2, h3, h4, h5⟩
  rw [upd_ne (ne_of e ep (fun z => nomatch z))]
  exact e
section
variable {X : Cx} {o i : Expr} {td ty : TE} {pos : Pos}
/-- the keys at hand -/
def kT (k : List Nat) : List Key := k.map fun (n : Nat) => (Sum.inl (n : Int) : Key)
theorem kT_map (k : List Nat) : (kT k).map kV = k.map fun n : Nat => V.int (n : Int) := by
  unfold kT
  rw [List.map_map]
  rfl
theorem kT_inj {j k : List Nat} (h : kT j = kT k) : j = k := by
  have e : ∀ l : List Nat, (kT l).map (fun z : Key => match z with | .inl n => n.toNat | .inr _ => 0) = l := fun l => by
    unfold kT
    rw [List.map_map]
    exact (List.map_congr_left fun n _ => Int.toNat_natCast n).trans (List.map_id l)
  rw [← e j, h, e]
/-- seats and their numbers, as a dict -/
def numsFrom : Nat → List (List Nat) → List (List Key × V)
  | _, [] => []
  | n, f :: F => (kT f, V.int (n : Int)) :: numsFrom (n + 1) F
theorem nums_len : ∀ (F : List (List Nat)) (n : Nat), (numsFrom n F).length = F.length
  | [], _ => rfl
  | f :: F, n => congrArg Nat.succ (nums_len F (n + 1))
theorem nums_at : ∀ (F : List (List Nat)) (n : Nat) {f : List Nat}, f ∈ F → valV (numsFrom n F) (kT f) = some (.int ((n + F.idxOf f : Nat) : Int))
  | g :: F, n, f, h => by
    by_cases e : g = f
    · subst e
      rw [List.idxOf_cons_self]
      exact valV_pos rfl
    · have hf : f ∈ F := by
        rcases List.mem_cons.mp h with h | h
        · exact absurd h.symm e
        · exact h
      have ne : (g == f) = false := beq_eq_false_iff_ne.mpr e
      rw [List.idxOf_cons, ne, cond_false, show n + (F.idxOf f + 1) = n + 1 + F.idxOf f by omega]
      exact (valV_neg fun z => e (kT_inj z)).trans (nums_at F (n + 1) hf)
theorem nums_none : ∀ (F : List (List Nat)) (n : Nat) {f : List Nat}, f ∉ F → valV (numsFrom n F) (kT f) = none
  | [], _, _, _ => rfl
  | g :: F, n, f, h => (valV_neg fun z => h (List.mem_cons.mpr (.inl (kT_inj z).symm))).trans (nums_none F (n + 1) fun z => h (List.mem_cons_of_mem _ z))
theorem nums_snoc : ∀ (F : List (List Nat)) (n : Nat) (f : List Nat), numsFrom n (F ++ [f]) = numsFrom n F ++ [(kT f, .int ((n + F.length : Nat) : Int))]
  | [], n, f => rfl
  | g :: F, n, f => by
    show _ :: numsFrom (n + 1) (F ++ [f]) = _ :: (numsFrom (n + 1) F ++ _)
    rw [nums_snoc F (n + 1) f, List.length_cons, show n + 1 + F.length = n + (F.length + 1) by omega]
theorem nums_put {F : List (List Nat)} {f : List Nat} (h : f ∉ F) : putK (numsFrom 0 F) (kT f) (.int (F.length : Int)) = numsFrom 0 (F ++ [f]) := by
  unfold putK
  rw [valV_any, nums_none F 0 h, nums_snoc, Nat.zero_add]
  rfl
theorem But.tsT {p : Addr} {H H' : Hp} {kvs : List (List Key × V)} (h : But p H H') (hp : H p = some (.dT kvs)) : TS H H' := fun a ys e => h a _ (ne_of e hp (fun z => nomatch z)) e
/-! ### seats in lists -/
theorem seats_eqv : ∀ (f g : List Nat), PyData.eqvAll (f.map fun s : Nat => PyData.int (s : Int)) (g.map fun s : Nat => PyData.int (s : Int)) = decide (f = g)
  | [], [] => rfl
  | [], _ :: _ => rfl
  | _ :: _, [] => rfl
  | a :: f, b :: g => by
    show (((a : Int) == (b : Int)) && PyData.eqvAll _ _) = _
    rw [seats_eqv f g, Bool.eq_iff_iff]
    have z : ((a : Int) = (b : Int)) ↔ a = b := by omega
    simp only [Bool.and_eq_true, beq_iff_eq, decide_eq_true_eq, List.cons.injEq, z]
theorem seats_eq (f g : List Nat) : PyData.eqv (dSeats f) (dSeats g) = decide (f = g) := by
  unfold dSeats
  simp only [PyData.eqv]
  exact seats_eqv f g
theorem seats_any (F : List (List Nat)) (f : List Nat) : ((F.map dSeats).any fun z => PyData.eqv z (dSeats f)) = decide (f ∈ F) := by
  rw [List.any_map, Bool.eq_iff_iff, List.any_eq_true, decide_eq_true_eq]
  constructor
  · rintro ⟨g, hg, e⟩
    have e2 : PyData.eqv (dSeats g) (dSeats f) = true := e
    rw [seats_eq, decide_eq_true_eq] at e2
    exact e2 ▸ hg
  · exact fun h => ⟨f, h, show PyData.eqv (dSeats f) (dSeats f) = true by rw [seats_eq]; exact decide_eq_true rfl⟩
theorem ints_shape : ∀ f : List Nat, PyData.canLayAll0 (f.map fun s : Nat => PyData.int (s : Int)) = true ∧ PyData.depthAll (f.map fun s : Nat => PyData.int (s : Int)) = 0
  | [] => ⟨by simp [PyData.canLayAll0], by simp [PyData.depthAll]⟩
  | s :: f => by
    obtain ⟨a, b⟩ := ints_shape f
    refine ⟨?_, ?_⟩
    · rw [List.map_cons]
      simp only [PyData.canLayAll0, a, PyData.canLay0, Bool.and_self]
    · rw [List.map_cons]
      simp only [PyData.depthAll, b, PyData.depth, Nat.max_self]
theorem seats_shape (f : List Nat) : SeqAt.shaped (dSeats f) = true := by
  obtain ⟨a, b⟩ := ints_shape f
  unfold SeqAt.shaped dSeats
  simp only [PyData.canLay0, PyData.depth, a, b, Bool.true_and]
  decide
theorem seatsAll_shape : ∀ F : List (List Nat), PyData.canLayAll0 (F.map dSeats) = true ∧ PyData.depthAll (F.map dSeats) ≤ 1
  | [] => ⟨by simp [PyData.canLayAll0], by simp [PyData.depthAll]⟩
  | f :: F => by
    obtain ⟨a, b⟩ := seatsAll_shape F
    obtain ⟨c, d⟩ := ints_shape f
    have e : (dSeats f).canLay0 = true := SeqAt.canLay_of_shaped (seats_shape f)
    have g : (dSeats f).depth = 1 := by
      unfold dSeats
      simp only [PyData.depth, d]
    rw [List.map_cons]
    refine ⟨?_, ?_⟩
    · simp only [PyData.canLayAll0, a, e, Bool.and_self]
    · simp only [PyData.depthAll]
      omega
theorem found_shape (F : List (List Nat)) : SeqAt.shaped (.list (F.map dSeats)) = true := by
  obtain ⟨a, b⟩ := seatsAll_shape F
  unfold SeqAt.shaped
  simp only [PyData.canLay0, PyData.depth, a, Bool.true_and]
  exact decide_eq_true (by omega)
theorem found_first (F : List (List Nat)) {f : List Nat} (h : f ∈ F) : (F.map dSeats)[F.idxOf f]? = some (dSeats f) ∧ ∀ (m : Nat) (z : PyData), m < F.idxOf f → (F.map dSeats)[m]? = some z → PyData.eqv z (dSeats f) = false := by
  have hi := List.idxOf_lt_length_iff.mpr h
  refine ⟨by rw [List.getElem?_map, List.getElem?_eq_getElem hi, List.getElem_idxOf hi]; rfl, fun m z hm hz => ?_⟩
  rw [List.getElem?_map, List.getElem?_eq_getElem (by omega)] at hz
  cases hz
  rw [seats_eq]
  exact decide_eq_false (List.not_of_lt_findIdx (p := (· == f)) (xs := F) hm |> fun z e => by simp [e] at z)
end
end Fo

namespace Kx
open PySem PySem.Spec PyProof.Rows L2 Fo
def topS (i : Nat) : Stmt := PySem.Challenge.pw_foeholes_k07_rows_as_one.main.body.getD i (.Pass ⟨0, 0, 0, 0⟩)
abbrev s_read_on : Stmt := topS 1
theorem sc_read_on : FnScope ["reader", "text", "state", "reads", "_", "states", "at", "told", "sign", "part"] ["reader", "text", "state"] (defScope s_read_on) :=
  ⟨rfl, rfl, rfl, by decide +kernel, rfl, by decide +kernel, by decide +kernel⟩
abbrev s_telling : Stmt := topS 2
theorem sc_telling : FnScope ["reader", "text", "state", "told", "end"] ["reader", "text"] (defScope s_telling) :=
  ⟨rfl, rfl, rfl, by decide +kernel, rfl, by decide +kernel, by decide +kernel⟩
abbrev s_row_on : Stmt := topS 4
theorem sc_row_on : FnScope ["row", "text", "states", "froms", "behind", "told", "reader", "state", "after"] ["row", "text", "states"] (defScope s_row_on) :=
  ⟨rfl, rfl, rfl, by decide +kernel, rfl, by decide +kernel, by decide +kernel⟩
abbrev s_row_end : Stmt := topS 5
theorem sc_row_end : FnScope ["row", "states", "told", "reader", "state", "after", "by_ways", "end"] ["row", "states"] (defScope s_row_end) :=
  ⟨rfl, rfl, rfl, by decide +kernel, rfl, by decide +kernel, by decide +kernel⟩
abbrev s_as_one : Stmt := topS 6
theorem sc_as_one : FnScope ["row", "start", "numbers", "come_to", "states", "here", "ways", "sign", "behind", "told"] ["row"] (defScope s_as_one) :=
  ⟨rfl, rfl, rfl, by decide +kernel, rfl, by decide +kernel, by decide +kernel⟩
abbrev s__law_open : Stmt := topS 8
theorem sc__law_open : FnScope ["script", "cells", "k", "cell"] ["script"] (defScope s__law_open) :=
  ⟨rfl, rfl, rfl, by decide +kernel, rfl, by decide +kernel, by decide +kernel⟩
abbrev s__law_spread : Stmt := topS 9
theorem sc__law_spread : FnScope ["cell", "at", "primes", "one", "two", "three"] ["cell", "at"] (defScope s__law_spread) :=
  ⟨rfl, rfl, rfl, by decide +kernel, rfl, by decide +kernel, by decide +kernel⟩
abbrev s__law_take : Stmt := topS 10
theorem sc__law_take : FnScope ["pen", "amount", "at", "cell", "found"] ["pen", "amount"] (defScope s__law_take) :=
  ⟨rfl, rfl, rfl, by decide +kernel, rfl, by decide +kernel, by decide +kernel⟩
abbrev s__law_some_signs : Stmt := topS 11
theorem sc__law_some_signs : FnScope ["pen", "amount", "pool", "left", "k"] ["pen", "amount"] (defScope s__law_some_signs) :=
  ⟨rfl, rfl, rfl, by decide +kernel, rfl, by decide +kernel, by decide +kernel⟩
abbrev s__law_some_text : Stmt := topS 12
theorem sc__law_some_text : FnScope ["pen", "signs", "most", "k"] ["pen", "signs", "most"] (defScope s__law_some_text) :=
  ⟨rfl, rfl, rfl, by decide +kernel, rfl, by decide +kernel, by decide +kernel⟩
abbrev s__law_same : Stmt := topS 13
theorem sc__law_same : FnScope ["found", "due", "one", "other"] ["found", "due"] (defScope s__law_same) :=
  ⟨rfl, rfl, rfl, by decide +kernel, rfl, by decide +kernel, by decide +kernel⟩
abbrev s__law_any_reader : Stmt := topS 14
theorem sc__law_any_reader : FnScope ["pen", "reads", "tells", "size", "most", "amount", "copies", "states", "k", "ways", "sign", "told", "end"] ["pen", "reads", "tells", "size", "most"] (defScope s__law_any_reader) :=
  ⟨rfl, rfl, rfl, by decide +kernel, rfl, by decide +kernel, by decide +kernel⟩
abbrev s__law_more_signs : Stmt := topS 15
theorem sc__law_more_signs : FnScope ["pen", "reads"] ["pen", "reads"] (defScope s__law_more_signs) :=
  ⟨rfl, rfl, rfl, by decide +kernel, rfl, by decide +kernel, by decide +kernel⟩
abbrev s__law_wider : Stmt := topS 16
theorem sc__law_wider : FnScope ["pen", "signs"] ["pen", "signs"] (defScope s__law_wider) :=
  ⟨rfl, rfl, rfl, by decide +kernel, rfl, by decide +kernel, by decide +kernel⟩
abbrev s__law_wide_row : Stmt := topS 17
theorem sc__law_wide_row : FnScope ["pen", "reads", "often", "size", "most", "row", "k", "more"] ["pen", "reads", "often", "size", "most"] (defScope s__law_wide_row) :=
  ⟨rfl, rfl, rfl, by decide +kernel, rfl, by decide +kernel, by decide +kernel⟩
abbrev s__law_read_on : Stmt := topS 18
theorem sc__law_read_on : FnScope ["reader", "seat", "text", "told", "sign", "more"] ["reader", "seat", "text"] (defScope s__law_read_on) :=
  ⟨rfl, rfl, rfl, by decide +kernel, rfl, by decide +kernel, by decide +kernel⟩
abbrev s__law_row_on : Stmt := topS 19
theorem sc__law_row_on : FnScope ["row", "states", "text", "found", "reader", "seat"] ["row", "states", "text"] (defScope s__law_row_on) :=
  ⟨rfl, rfl, rfl, by decide +kernel, rfl, by decide +kernel, by decide +kernel⟩
abbrev s__law_row_end : Stmt := topS 20
theorem sc__law_row_end : FnScope ["row", "states", "text", "reader", "seat", "told"] ["row", "states"] (defScope s__law_row_end) :=
  ⟨rfl, rfl, rfl, by decide +kernel, rfl, by decide +kernel, by decide +kernel⟩
abbrev s__law_one : Stmt := topS 21
theorem sc__law_one : FnScope ["row", "found", "states", "at", "ways", "sign", "there", "told"] ["row"] (defScope s__law_one) :=
  ⟨rfl, rfl, rfl, by decide +kernel, rfl, by decide +kernel, by decide +kernel⟩
abbrev s_law : Stmt := topS 22
theorem sc_law : FnScope ["script", "pen", "turn", "row", "kept", "due", "found", "one", "look", "text", "states", "told", "end", "seat"] ["script"] (defScope s_law) :=
  ⟨rfl, rfl, rfl, by decide +kernel, rfl, by decide +kernel, by decide +kernel⟩
structure Top (K : PySem.W.Frag) (mg : Str → Option Value) where
  f_read_on : Addr
  fd_read_on : FuncData
  F_read_on : FunD K "read_on" "read_on" (defArgs s_read_on) (defBody s_read_on) (defScope s_read_on) [] [("state", .int 0)] f_read_on fd_read_on
  ds_read_on : List Value
  v_read_on : Vals [V.int 0] ds_read_on
  b_read_on : Binds K fd_read_on ["reader", "text", "state"] ds_read_on
  kb_read_on : KBn K fd_read_on ["reader", "text", "state"] 2 ["state"] (fun us ws => us ++ ws) (fun vs zs => vs ++ zs)
  g_read_on : mg "read_on" = some (.ref f_read_on)
  f_telling : Addr
  fd_telling : FuncData
  F_telling : Fun K "telling" "telling" s_telling f_telling fd_telling
  b_telling : Binds K fd_telling ["reader", "text"] []
  g_telling : mg "telling" = some (.ref f_telling)
  f_row_on : Addr
  fd_row_on : FuncData
  F_row_on : FunD K "row_on" "row_on" (defArgs s_row_on) (defBody s_row_on) (defScope s_row_on) [] [("states", .non)] f_row_on fd_row_on
  ds_row_on : List Value
  v_row_on : Vals [V.non] ds_row_on
  b_row_on : Binds K fd_row_on ["row", "text", "states"] ds_row_on
  kb_row_on : KBn K fd_row_on ["row", "text", "states"] 2 ["states"] (fun us ws => us ++ ws) (fun vs zs => vs ++ zs)
  g_row_on : mg "row_on" = some (.ref f_row_on)
  f_row_end : Addr
  fd_row_end : FuncData
  F_row_end : Fun K "row_end" "row_end" s_row_end f_row_end fd_row_end
  b_row_end : Binds K fd_row_end ["row", "states"] []
  g_row_end : mg "row_end" = some (.ref f_row_end)
  f_as_one : Addr
  fd_as_one : FuncData
  F_as_one : Fun K "as_one" "as_one" s_as_one f_as_one fd_as_one
  b_as_one : Binds K fd_as_one ["row"] []
  g_as_one : mg "as_one" = some (.ref f_as_one)
  f__law_open : Addr
  fd__law_open : FuncData
  F__law_open : Fun K "_law_open" "_law_open" s__law_open f__law_open fd__law_open
  b__law_open : Binds K fd__law_open ["script"] []
  g__law_open : mg "_law_open" = some (.ref f__law_open)
  f__law_spread : Addr
  fd__law_spread : FuncData
  F__law_spread : Fun K "_law_spread" "_law_spread" s__law_spread f__law_spread fd__law_spread
  b__law_spread : Binds K fd__law_spread ["cell", "at"] []
  g__law_spread : mg "_law_spread" = some (.ref f__law_spread)
  f__law_take : Addr
  fd__law_take : FuncData
  F__law_take : Fun K "_law_take" "_law_take" s__law_take f__law_take fd__law_take
  b__law_take : Binds K fd__law_take ["pen", "amount"] []
  g__law_take : mg "_law_take" = some (.ref f__law_take)
  f__law_some_signs : Addr
  fd__law_some_signs : FuncData
  F__law_some_signs : Fun K "_law_some_signs" "_law_some_signs" s__law_some_signs f__law_some_signs fd__law_some_signs
  b__law_some_signs : Binds K fd__law_some_signs ["pen", "amount"] []
  g__law_some_signs : mg "_law_some_signs" = some (.ref f__law_some_signs)
  f__law_some_text : Addr
  fd__law_some_text : FuncData
  F__law_some_text : Fun K "_law_some_text" "_law_some_text" s__law_some_text f__law_some_text fd__law_some_text
  b__law_some_text : Binds K fd__law_some_text ["pen", "signs", "most"] []
  g__law_some_text : mg "_law_some_text" = some (.ref f__law_some_text)
  f__law_same : Addr
  fd__law_same : FuncData
  F__law_same : Fun K "_law_same" "_law_same" s__law_same f__law_same fd__law_same
  b__law_same : Binds K fd__law_same ["found", "due"] []
  g__law_same : mg "_law_same" = some (.ref f__law_same)
  f__law_any_reader : Addr
  fd__law_any_reader : FuncData
  F__law_any_reader : Fun K "_law_any_reader" "_law_any_reader" s__law_any_reader f__law_any_reader fd__law_any_reader
  b__law_any_reader : Binds K fd__law_any_reader ["pen", "reads", "tells", "size", "most"] []
  g__law_any_reader : mg "_law_any_reader" = some (.ref f__law_any_reader)
  f__law_more_signs : Addr
  fd__law_more_signs : FuncData
  F__law_more_signs : Fun K "_law_more_signs" "_law_more_signs" s__law_more_signs f__law_more_signs fd__law_more_signs
  b__law_more_signs : Binds K fd__law_more_signs ["pen", "reads"] []
  g__law_more_signs : mg "_law_more_signs" = some (.ref f__law_more_signs)
  f__law_wider : Addr
  fd__law_wider : FuncData
  F__law_wider : Fun K "_law_wider" "_law_wider" s__law_wider f__law_wider fd__law_wider
  b__law_wider : Binds K fd__law_wider ["pen", "signs"] []
  g__law_wider : mg "_law_wider" = some (.ref f__law_wider)
  f__law_wide_row : Addr
  fd__law_wide_row : FuncData
  F__law_wide_row : Fun K "_law_wide_row" "_law_wide_row" s__law_wide_row f__law_wide_row fd__law_wide_row
  b__law_wide_row : Binds K fd__law_wide_row ["pen", "reads", "often", "size", "most"] []
  g__law_wide_row : mg "_law_wide_row" = some (.ref f__law_wide_row)
  f__law_read_on : Addr
  fd__law_read_on : FuncData
  F__law_read_on : Fun K "_law_read_on" "_law_read_on" s__law_read_on f__law_read_on fd__law_read_on
  b__law_read_on : Binds K fd__law_read_on ["reader", "seat", "text"] []
  g__law_read_on : mg "_law_read_on" = some (.ref f__law_read_on)
  f__law_row_on : Addr
  fd__law_row_on : FuncData
  F__law_row_on : Fun K "_law_row_on" "_law_row_on" s__law_row_on f__law_row_on fd__law_row_on
  b__law_row_on : Binds K fd__law_row_on ["row", "states", "text"] []
  g__law_row_on : mg "_law_row_on" = some (.ref f__law_row_on)
  f__law_row_end : Addr
  fd__law_row_end : FuncData
  F__law_row_end : Fun K "_law_row_end" "_law_row_end" s__law_row_end f__law_row_end fd__law_row_end
  b__law_row_end : Binds K fd__law_row_end ["row", "states"] []
  g__law_row_end : mg "_law_row_end" = some (.ref f__law_row_end)
  f__law_one : Addr
  fd__law_one : FuncData
  F__law_one : Fun K "_law_one" "_law_one" s__law_one f__law_one fd__law_one
  b__law_one : Binds K fd__law_one ["row"] []
  g__law_one : mg "_law_one" = some (.ref f__law_one)
  f_law : Addr
  fd_law : FuncData
  F_law : Fun K "law" "law" s_law f_law fd_law
  b_law : Binds K fd_law ["script"] []
  g_law : mg "law" = some (.ref f_law)
  m_bool : mg "bool" = none
  m_enumerate : mg "enumerate" = none
  m_int : mg "int" = none
  m_isinstance : mg "isinstance" = none
  m_len : mg "len" = none
  m_list : mg "list" = none
  m_min : mg "min" = none
  m_range : mg "range" = none
  m_repr : mg "repr" = none
  m_set : mg "set" = none
  m_sorted : mg "sorted" = none
  m_str : mg "str" = none
  m_tuple : mg "tuple" = none
  m_zip : mg "zip" = none
end Kx

namespace Kx
open PySem PySem.Spec PyProof.Rows L2 Fo
section
variable {P : Program} {w : World} {K : PySem.W.Frag} {mg : Str → Option Value} {base : Heap}
def primes : List Int := [2147483629, 2147483587, 2147483579, 2147483563, 2147483549, 2147483543, 2147483497, 2147483489, 2147483477, 2147483423, 2147483399, 2147483353, 2147483323]
theorem primes_in : ∀ p ∈ primes, 0 < p ∧ p < 2147483648 := by decide
theorem prime_at {i : Int} : ∃ v : Int, atI (primes.map V.int) (i.fmod 13) = some (.int v) ∧ 0 < v ∧ v < 2147483648 := by
  have f := fmod_in (a := i) (b := 13) (by decide)
  obtain ⟨v, e, m⟩ := at_int (xs := primes) f.1 f.2
  exact ⟨v, e, primes_in v m⟩
theorem pow17 (k : Nat) : (10 : Int) ^ Int.toNat 17 + (k : Int) ≠ 0 := by
  have : (0 : Int) < 10 ^ Int.toNat 17 := by decide
  omega
def sp_spread (K : PySem.W.Frag) : Sp := fun vs H Q _ => ∃ (cell : Int) (k : Nat), vs = [.int cell, .int k] ∧ k ≤ 1048576 ∧ ∀ H' r, Same H H' → Q (.int r) H'
theorem ok_spread (T : Top K mg) : FnOk P w K mg base CX0 1 T.f__law_spread T.fd__law_spread ["cell", "at"] (sp_spread K) := by
  refine T.F__law_spread.ok sc__law_spread (fun vs H Q E h => ?_) (fun cdv A outer s H vs Q E hr h => ?_)
  · obtain ⟨a, ns, rfl, _⟩ := h
    rfl
  obtain ⟨cell, k, rfl, hk, q⟩ := h
  refine ⟨_, (pss_cons (ps_if (pt_cmpR op_geG (pv 0) (pe_op op_pow pe_int pe_int) (nomark _)) (pss_one (ps_ret (pv 0))) pss_nil)
    (pss_cons (ps_set (i := 2) sc__law_spread.nd rfl (Or.inl rfl) (pe_lstN (pa_cons pe_int (pa_cons pe_int (pa_cons pe_int (pa_cons pe_int (pa_cons pe_int (pa_cons pe_int (pa_cons pe_int (pa_cons pe_int pa_nil))))))))))
    (pss_cons (ps_set (i := 2) sc__law_spread.nd rfl (Or.inl rfl) (pe_op op_addG (pv 2) (pe_lstN (pa_cons pe_int (pa_cons pe_int (pa_cons pe_int (pa_cons pe_int (pa_cons pe_int pa_nil))))))))
    (pss_cons (ps_set (i := 3) sc__law_spread.nd rfl (Or.inl rfl) (pe_op op_addG (pe_op op_addG (pe_op op_mulG (pe_op op_modN (pv 0) pe_int) (pe_op op_addG (pe_op op_mulG pe_int (pv 1)) pe_int)) (pe_op op_mulG (pv 1) pe_int)) pe_int))
    (pss_cons (ps_set (i := 3) sc__law_spread.nd rfl (Or.inl rfl) (pe_op op_modN (pe_op op_pow (pv 3) pe_int) (pe_ix (kIx K rfl) (pv 2) (pe_op op_modN (pv 1) pe_int) (fun _ _ => rfl))))
    (pss_cons (ps_set (i := 4) sc__law_spread.nd rfl (Or.inl rfl) (pe_op op_modN (pe_op op_pow (pe_op op_addG (pe_op op_addG (pe_op op_mulG (pv 3) (pe_op op_addG (pv 1) pe_int)) (pe_op op_modN (pv 0) pe_int)) pe_int) pe_int) (pe_ix (kIx K rfl) (pv 2) (pe_op op_modN (pe_op op_addG (pv 1) pe_int) pe_int) (fun _ _ => rfl))))
    (pss_cons (ps_set (i := 5) sc__law_spread.nd rfl (Or.inl rfl) (pe_op op_modN (pe_op op_pow (pe_op op_addG (pe_op op_addG (pv 4) (pe_op op_modN (pv 3) pe_int)) (pv 1)) pe_int) (pe_ix (kIx K rfl) (pv 2) (pe_op op_modN (pe_op op_addG (pv 1) pe_int) pe_int) (fun _ _ => rfl))))
    (pss_one (ps_ret (pe_op op_addG (pe_op op_mulG (pe_op op_addG (pe_op op_mulG (pv 3) pe_int) (pv 4)) pe_int) (pv 5))))))))))), ?_⟩
  refine ⟨_, rfl, _, _, rfl, rfl, ⟨by decide, by decide, by decide⟩, _, _, rfl, rfl, _, rfl, ite2 (fun _ => ?_) (fun _ => ?_)⟩
  · exact ⟨_, rfl, q _ _ (Same.refl _)⟩
  refine ⟨by decide, fun l H1 nl s1 e1 => ?_⟩
  refine ⟨_, rfl, by decide, fun l2 H2 nl2 s2 e2 => ?_⟩
  refine Or.inr (Or.inr (Or.inl ⟨_, _, _, _, rfl, rfl, s2 _ _ e1, e2, by decide, fun l3 H3 nl3 s3 e3 => ?_⟩))
  have hl : H3 l3 = some (.lst (primes.map V.int)) := e3
  have c1 := fmod_in (a := cell) (b := 1000000007) (by decide)
  have c2 := fmod_in (a := cell) (b := 65537) (by decide)
  obtain ⟨p1, i1, a1, b1⟩ := prime_at (i := k)
  obtain ⟨p2, i2, a2, b2⟩ := prime_at (i := (k : Int) + 5)
  obtain ⟨p3, i3, a3, b3⟩ := prime_at (i := (k : Int) + 7)
  -- one
  refine ⟨_, rfl, ?_⟩; (first | refine ⟨_, _, rfl, rfl, (by omega), ?_⟩ | refine Or.inl ⟨_, _, rfl, rfl, (by omega), ?_⟩); refine ⟨_, rfl, ?_⟩; (first | refine ⟨_, _, rfl, rfl, (mulR (by omega)), ?_⟩ | refine Or.inl ⟨_, _, rfl, rfl, (mulR (by omega)), ?_⟩); (first | refine Or.inl ⟨_, _, rfl, rfl, ?_⟩ | refine ⟨_, _, rfl, rfl, ?_⟩)
  (first | refine ⟨_, _, rfl, rfl, (mulL (by omega)), ?_⟩ | refine Or.inl ⟨_, _, rfl, rfl, (mulL (by omega)), ?_⟩); refine ⟨_, rfl, ?_⟩; (first | refine ⟨_, _, rfl, rfl, (mulR (by decide)), ?_⟩ | refine Or.inl ⟨_, _, rfl, rfl, (mulR (by decide)), ?_⟩); (first | refine Or.inl ⟨_, _, rfl, rfl, ?_⟩ | refine ⟨_, _, rfl, rfl, ?_⟩); (first | refine Or.inl ⟨_, _, rfl, rfl, ?_⟩ | refine ⟨_, _, rfl, rfl, ?_⟩)
  have m1 := mul_in (a := cell.fmod 1000000007) (b := 2 * (k : Int) + 69069) (A := 1000000007) (B := 2200000) c1.1 c1.2 (by omega) (by omega)
  refine ⟨_, rfl, ?_⟩
  refine ⟨_, _, rfl, rfl, ⟨by decide, by decide, (by show Int.natAbs _ < _; omega)⟩, ?_⟩
  refine ⟨_, rfl, ?_⟩; refine ⟨_, rfl, ?_⟩; (first | refine ⟨_, _, rfl, rfl, (by omega), ?_⟩ | refine Or.inl ⟨_, _, rfl, rfl, (by omega), ?_⟩); refine Or.inl ⟨_, _, _, _, rfl, rfl, SqL.of hl, i1, ?_⟩
  refine modL rfl rfl a1 (fun one o0 o1 => ?_)
  -- two
  refine ⟨_, rfl, ?_⟩; refine ⟨_, rfl, ?_⟩; (first | refine Or.inl ⟨_, _, rfl, rfl, ?_⟩ | refine ⟨_, _, rfl, rfl, ?_⟩); (first | refine ⟨_, _, rfl, rfl, (mulL (by omega)), ?_⟩ | refine Or.inl ⟨_, _, rfl, rfl, (mulL (by omega)), ?_⟩); refine ⟨_, rfl, ?_⟩; (first | refine ⟨_, _, rfl, rfl, (by omega), ?_⟩ | refine Or.inl ⟨_, _, rfl, rfl, (by omega), ?_⟩); (first | refine Or.inl ⟨_, _, rfl, rfl, ?_⟩ | refine ⟨_, _, rfl, rfl, ?_⟩); (first | refine Or.inl ⟨_, _, rfl, rfl, ?_⟩ | refine ⟨_, _, rfl, rfl, ?_⟩)
  have m2 := mul_in (a := one) (b := (k : Int) + 3) (A := 2147483648) (B := 1048580) o0 (by omega) (by omega) (by omega)
  refine ⟨_, _, rfl, rfl, ⟨by decide, by decide, (by show Int.natAbs _ < _; omega)⟩, ?_⟩
  refine ⟨_, rfl, ?_⟩; refine ⟨_, rfl, ?_⟩; (first | refine Or.inl ⟨_, _, rfl, rfl, ?_⟩ | refine ⟨_, _, rfl, rfl, ?_⟩); (first | refine ⟨_, _, rfl, rfl, (by omega), ?_⟩ | refine Or.inl ⟨_, _, rfl, rfl, (by omega), ?_⟩); refine Or.inl ⟨_, _, _, _, rfl, rfl, SqL.of hl, i2, ?_⟩
  refine modL rfl rfl a2 (fun two t0 t1 => ?_)
  -- three
  have c3 := fmod_in (a := one) (b := 1009) (by decide)
  refine ⟨_, rfl, ?_⟩; refine ⟨_, rfl, ?_⟩; (first | refine ⟨_, _, rfl, rfl, (by omega), ?_⟩ | refine Or.inl ⟨_, _, rfl, rfl, (by omega), ?_⟩); (first | refine Or.inl ⟨_, _, rfl, rfl, ?_⟩ | refine ⟨_, _, rfl, rfl, ?_⟩); refine ⟨_, rfl, ?_⟩; (first | refine Or.inl ⟨_, _, rfl, rfl, ?_⟩ | refine ⟨_, _, rfl, rfl, ?_⟩)
  refine ⟨_, _, rfl, rfl, ⟨by decide, by decide, (by show Int.natAbs _ < _; omega)⟩, ?_⟩
  refine ⟨_, rfl, ?_⟩; refine ⟨_, rfl, ?_⟩; (first | refine Or.inl ⟨_, _, rfl, rfl, ?_⟩ | refine ⟨_, _, rfl, rfl, ?_⟩); (first | refine ⟨_, _, rfl, rfl, (by omega), ?_⟩ | refine Or.inl ⟨_, _, rfl, rfl, (by omega), ?_⟩); refine Or.inl ⟨_, _, _, _, rfl, rfl, SqL.of hl, i3, ?_⟩; refine modL rfl rfl a3 (fun r r0 r1 => ?_)
  -- the end
  refine ⟨_, rfl, ?_⟩; (first | refine ⟨_, _, rfl, rfl, (mulR (by decide)), ?_⟩ | refine Or.inl ⟨_, _, rfl, rfl, (mulR (by decide)), ?_⟩); refine ⟨_, rfl, ?_⟩; (first | refine Or.inl ⟨_, _, rfl, rfl, ?_⟩ | refine ⟨_, _, rfl, rfl, ?_⟩); (first | refine ⟨_, _, rfl, rfl, (mulR (by decide)), ?_⟩ | refine Or.inl ⟨_, _, rfl, rfl, (mulR (by decide)), ?_⟩); refine ⟨_, rfl, ?_⟩; (first | refine Or.inl ⟨_, _, rfl, rfl, ?_⟩ | refine ⟨_, _, rfl, rfl, ?_⟩)
  exact q _ _ ((s1.trans s2).trans s3)
def sp_take (K : PySem.W.Frag) : Sp := fun vs H Q _ => ∃ (p c : Addr) (n : Nat) (m : Int), vs = [.ref p, .int m] ∧ Pen H p c (n + 1) ∧ 0 < m ∧ m < 1000000 ∧ ∀ H' r, But p H H' → Pen H' p c n → 0 ≤ r → r < m → Q (.int r) H'
theorem ok_take (T : Top K mg) : FnOk P w K mg base CX0 2 T.f__law_take T.fd__law_take ["pen", "amount"] (sp_take K) := by
  have G__law_spread := ok_spread (P := P) (w := w) (base := base) T
  refine T.F__law_take.ok sc__law_take (fun vs H Q E h => ?_) (fun cdv A outer s H vs Q E hr h => ?_)
  · obtain ⟨a, c, ns, m, rfl, _⟩ := h
    rfl
  obtain ⟨p, c, n, m, rfl, hp, hm, hm2, q⟩ := h
  obtain ⟨cs, k, left, h1, h2, h3, h4, h5⟩ := hp
  refine ⟨_, (pss_cons (ps_if (pt_cmpR op_ltG (pe_ix (kIx K rfl) (pv 0) pe_int (fun _ _ => rfl)) (pv 1) (nomark _)) (pss_cons (ps_set (i := 2) sc__law_take.nd rfl (Or.inl rfl) (pe_ix (kIx K rfl) (pv 0) pe_int (fun _ _ => rfl)))
    (pss_cons (ps_set (i := 3) sc__law_take.nd rfl (Or.inl rfl) pe_int)
    (pss_cons (ps_if (pt_cmpR op_ltG (pv 2) (pe_callB (kLen K rfl) (by rfl) T.m_len PySem.boot_len (pa_cons (pe_ix (kIx K rfl) (pv 0) pe_int (fun _ _ => rfl)) pa_nil)) (nomark _)) (pss_one (ps_set (i := 3) sc__law_take.nd rfl (Or.inl rfl) (pe_ix (kIx K rfl) (pe_ix (kIx K rfl) (pv 0) pe_int (fun _ _ => rfl)) (pv 2) (fun _ _ => rfl)))) (pss_one (ps_if (pt_cmpR op_gtG (pe_callB (kLen K rfl) (by rfl) T.m_len PySem.boot_len (pa_cons (pe_ix (kIx K rfl) (pv 0) pe_int (fun _ _ => rfl)) pa_nil)) pe_int (nomark _)) (pss_one (ps_set (i := 3) sc__law_take.nd rfl (Or.inl rfl) (pe_op op_modN (pe_ix (kIx K rfl) (pe_ix (kIx K rfl) (pv 0) pe_int (fun _ _ => rfl)) (pe_op op_modN (pe_op op_addG (pe_op op_mulG (pv 2) pe_int) pe_int) (pe_callB (kLen K rfl) (by rfl) T.m_len PySem.boot_len (pa_cons (pe_ix (kIx K rfl) (pv 0) pe_int (fun _ _ => rfl)) pa_nil))) (fun _ _ => rfl)) (pe_op op_addG (pe_op op_pow pe_int pe_int) (pv 2))))) pss_nil)))
    (pss_cons (ps_asg (pe_op op_addG (pv 2) pe_int) (pg_sub (pv 0) pe_int set_listN))
    (pss_one (ps_asg (pe_call G__law_spread (hr.mono (by first | decide | omega)) (by rfl) T.g__law_spread T.F__law_spread.kp T.b__law_spread .nil pass0 (pa_cons (pv 3) (pa_cons (pv 2) pa_nil))) (pg_sub (pv 0) pe_int set_listN))))))) pss_nil)
    (pss_cons (ps_set (i := 4) sc__law_take.nd rfl (Or.inl rfl) (pe_op op_modN (pe_ix (kIx K rfl) (pv 0) pe_int (fun _ _ => rfl)) (pv 1)))
    (pss_cons (ps_asg (pe_op op_fdivN (pe_ix (kIx K rfl) (pv 0) pe_int (fun _ _ => rfl)) (pv 1)) (pg_sub (pv 0) pe_int set_listN))
    (pss_one (ps_ret (pv 4)))))), ?_⟩
  -- the end, from any state with pen[2] = left2
  have fin : ∀ (H2 : Hp) (k2 : Nat) (left2 : Int) (σ2 σ3 : Option V), But p H H2 → H2 p = some (.lst [.ref c, .int k2, .int left2]) → H2 c = some (.lst (cs.map V.int)) → k2 + n ≤ 1048576 →
      (tSeq (tAsg (tOp (rI (fun _ j => j ≠ 0) fun i j => .int (i.fmod j)) (tOp (rIx K) (tVar 0) (tC (.int 2))) (tVar 1)) (gName 4))
        (tSeq (tAsg (tOp (rI CDivN fun i j => .int (i.fdiv j)) (tOp (rIx K) (tVar 0) (tC (.int 2))) (tVar 1)) (gSub (tVar 0) (tC (.int 2)) rSetN)) (tRet (tVar 4))))
        { nx := fun _ H' => Q .non H', rt := Q } [some (.ref p), some (.int m), σ2, σ3, none] H2 := by
    intro H2 k2 left2 σ2 σ3 b2 e1 e2 hk2
    refine ⟨_, rfl, ?_⟩; refine Or.inl ⟨_, _, _, _, rfl, rfl, SqL.of e1, rfl, ?_⟩; refine ⟨_, rfl, ?_⟩; (first | refine ⟨_, _, rfl, rfl, (by omega), ?_⟩ | refine Or.inl ⟨_, _, rfl, rfl, (by omega), ?_⟩)
    have f := fmod_in (a := left2) hm
    refine ⟨_, rfl, ?_⟩; refine Or.inl ⟨_, _, _, _, rfl, rfl, SqL.of e1, rfl, ?_⟩; refine ⟨_, rfl, ?_⟩; (first | refine ⟨_, _, rfl, rfl, ⟨by omega, by omega⟩, ?_⟩ | refine Or.inl ⟨_, _, rfl, rfl, ⟨by omega, by omega⟩, ?_⟩)
    refine ⟨_, rfl, _, _, _, _, rfl, rfl, e1, rfl, fun H3 b3 e3 => ?_⟩
    refine ⟨_, rfl, ?_⟩
    exact q _ _ (b2.trans b3) ⟨cs, k2, _, e3, b3 _ _ h5 e2, h3, hk2, h5⟩ f.1 f.2
  refine ⟨_, rfl, ?_⟩; refine Or.inl ⟨_, _, _, _, rfl, rfl, SqL.of h1, rfl, ?_⟩; refine ⟨_, rfl, ?_⟩; (first | refine Or.inl ⟨_, _, rfl, rfl, ?_⟩ | refine ⟨_, _, rfl, rfl, ?_⟩); refine ⟨_, rfl, ?_⟩
  refine ite2 (fun _ => ?_) (fun _ => ?_)
  · refine ⟨_, rfl, ?_⟩; refine Or.inl ⟨_, _, _, _, rfl, rfl, SqL.of h1, rfl, ?_⟩; refine ⟨_, rfl, ?_⟩
    -- the cell: any int
    have cell : ∀ (z : Int) (D : Ends), (∀ (H' : Hp) (left2 : Int), But p H H' → H' p = some (.lst [.ref c, .int ((k + 1 : Nat) : Int), .int left2]) → H' c = some (.lst (cs.map V.int)) → D.nx [some (.ref p), some (.int m), some (.int k), some (.int z), none] H') →
      (tSeq (tAsg (tOp rAddG (tVar 2) (tC (.int 1))) (gSub (tVar 0) (tC (.int 1)) rSetN)) (tAsg (tCall (sp_spread K) [] E0 (tCons (tVar 3) (tCons (tVar 2) tNil))) (gSub (tVar 0) (tC (.int 2)) rSetN)))
        D [some (.ref p), some (.int m), some (.int k), some (.int z), none] H := by
      intro z D hD
      refine ⟨_, rfl, ?_⟩; (first | refine Or.inl ⟨_, _, rfl, rfl, ?_⟩ | refine ⟨_, _, rfl, rfl, ?_⟩)
      refine ⟨_, rfl, _, _, _, _, rfl, rfl, h1, rfl, fun H3 b3 e3 => ?_⟩
      refine ⟨_, rfl, ?_⟩; refine ⟨_, rfl, ?_⟩
      refine ⟨_, _, rfl, by omega, fun H4 r s4 => ?_⟩
      refine ⟨_, rfl, _, _, _, _, rfl, rfl, s4 _ _ e3, rfl, fun H5 b5 e5 => ?_⟩
      exact hD _ r ((b3.trans (same_but p s4)).trans b5) (by rw [e5]; rfl) (b5 _ _ h5 (s4 _ _ (b3 _ _ h5 h2)))
    have goon : ∀ (z : Int) (H' : Hp) (left2 : Int), But p H H' → H' p = some (.lst [.ref c, .int ((k + 1 : Nat) : Int), .int left2]) → H' c = some (.lst (cs.map V.int)) → _ := fun z H' l2 b e1 e2 => fin H' (k + 1) l2 (some (.int k)) (some (.int z)) b e1 e2 (by omega)
    refine ⟨_, rfl, ?_⟩; refine Or.inl ⟨_, _, _, _, rfl, rfl, SqL.of h1, rfl, ?_⟩
    refine ⟨_, _, rfl, .inl ⟨_, SqL.of h2, rfl⟩, ?_⟩
    (first | refine Or.inl ⟨_, _, rfl, rfl, ?_⟩ | refine ⟨_, _, rfl, rfl, ?_⟩); refine ⟨_, rfl, ?_⟩
    refine ite2 (fun t1 => ?_) (fun t1 => ?_)
    · have hk : k < cs.length := by
        have := of_decide_eq_true t1
        rw [List.length_map] at this
        omega
      obtain ⟨v, hv, _⟩ := at_int (xs := cs) (i := (k : Int)) (by omega) (by omega)
      refine ⟨_, rfl, ?_⟩; refine Or.inl ⟨_, _, _, _, rfl, rfl, SqL.of h1, rfl, ?_⟩; refine ⟨_, rfl, ?_⟩; refine Or.inl ⟨_, _, _, _, rfl, rfl, SqL.of h2, hv, ?_⟩
      exact cell v _ (goon v)
    · refine ⟨_, rfl, ?_⟩; refine Or.inl ⟨_, _, _, _, rfl, rfl, SqL.of h1, rfl, ?_⟩
      refine ⟨_, _, rfl, .inl ⟨_, SqL.of h2, rfl⟩, ?_⟩
      (first | refine Or.inl ⟨_, _, rfl, rfl, ?_⟩ | refine ⟨_, _, rfl, rfl, ?_⟩); refine ⟨_, rfl, ?_⟩
      refine ite2 (fun t2 => ?_) (fun t2 => ?_)
      · have hn : 0 < ((cs.map V.int).length : Int) := of_decide_eq_true t2
        refine ⟨_, rfl, ?_⟩; refine Or.inl ⟨_, _, _, _, rfl, rfl, SqL.of h1, rfl, ?_⟩; refine ⟨_, rfl, ?_⟩; (first | refine ⟨_, _, rfl, rfl, (mulR (by decide)), ?_⟩ | refine Or.inl ⟨_, _, rfl, rfl, (mulR (by decide)), ?_⟩); (first | refine Or.inl ⟨_, _, rfl, rfl, ?_⟩ | refine ⟨_, _, rfl, rfl, ?_⟩); refine ⟨_, rfl, ?_⟩; refine Or.inl ⟨_, _, _, _, rfl, rfl, SqL.of h1, rfl, ?_⟩
        refine ⟨_, _, rfl, .inl ⟨_, SqL.of h2, rfl⟩, ?_⟩
        refine modL rfl rfl hn (fun r r0 r1 => ?_)
        rw [List.length_map] at r1
        obtain ⟨v, hv, _⟩ := at_int (xs := cs) (i := r) (by omega) (by omega)
        refine Or.inl ⟨_, _, _, _, rfl, rfl, SqL.of h2, hv, ?_⟩
        refine ⟨_, _, rfl, rfl, ⟨by decide, by decide, (by decide)⟩, ?_⟩
        refine ⟨_, rfl, ?_⟩; (first | refine Or.inl ⟨_, _, rfl, rfl, ?_⟩ | refine ⟨_, _, rfl, rfl, ?_⟩)
        (first | refine ⟨_, _, rfl, rfl, (pow17 k), ?_⟩ | refine Or.inl ⟨_, _, rfl, rfl, (pow17 k), ?_⟩)
        exact cell _ _ (goon _)
      · exact cell 0 _ (goon 0)
  · exact fin H k left _ _ (But.refl _ _) h1 h2 (by omega)
def sp_open (K : PySem.W.Frag) : Sp := fun vs H Q _ => ∃ (a : Addr) (ns : List Int), vs = [.ref a] ∧ SqL K H a (ns.map V.int) ∧ ns.length ≤ 63 ∧ ∀ p c H', H p = none → Same H H' → Pen H' p c 1048576 → Q (.ref p) H'
theorem ok_open (T : Top K mg) : FnOk P w K mg base CX0 1 T.f__law_open T.fd__law_open ["script"] (sp_open K) := by
  refine T.F__law_open.ok sc__law_open (fun vs H Q E h => ?_) (fun cdv A outer s H vs Q E hr h => ?_)
  · obtain ⟨a, ns, rfl, _⟩ := h
    rfl
  obtain ⟨a, ns, rfl, hS, hlen, q⟩ := h
  refine ⟨_, (pss_cons (ps_set (i := 1) sc__law_open.nd rfl (Or.inl rfl) (pe_callTy (kList K rfl rfl) (by rfl) T.m_list (by decide +kernel) (pa_cons (pe_slice (kSl K rfl) (pv 0) po_none (po_some pe_int)) pa_nil)))
    (pss_cons (ps_for PassesOwn.never rfl (pi_enum (by rfl) T.m_enumerate (pa_cons (pe_slice (kSl K rfl) (pv 0) (po_some pe_int) (po_some pe_int)) pa_nil)) (kTg K rfl (n := 2) rfl (pgs_cons (pg_name (i := 2) sc__law_open.nd rfl (Or.inl rfl)) (pgs_cons (pg_name (i := 3) sc__law_open.nd rfl (Or.inl rfl)) pgs_nil))) (pss_one (ps_asg (pe_op op_addG (pe_ix (kIx K rfl) (pv 1) (pe_op op_modN (pv 2) pe_int) (fun _ _ => rfl)) (pv 3)) (pg_sub (pv 1) (pe_op op_modN (pv 2) pe_int) set_listN))))
    (pss_one (ps_ret (pe_lstN (pa_cons (pv 1) (pa_cons pe_int (pa_cons pe_int pa_nil)))))))), ?_⟩
  refine ⟨_, rfl, ?_⟩; refine ⟨_, rfl, ?_⟩
  refine Or.inl ⟨_, _, rfl, hS, fun l1 H1 n1 s1 e1 => ?_⟩
  refine Or.inl ⟨_, _, rfl, .inl (SqL.of e1), fun l2 H2 n2 s2 e2 => ?_⟩
  have s02 := s1.trans s2
  rw [show (12 : Int) = ((12 : Nat) : Int) from rfl, cut_hi, ← List.map_take] at e2
  refine ⟨_, rfl, ?_⟩; refine ⟨_, rfl, ?_⟩; refine ⟨_, rfl, ?_⟩
  refine Or.inl ⟨_, _, rfl, s02.seq hS, fun l3 H3 n3 s3 e3 => ?_⟩
  rw [show (12 : Int) = ((12 : Nat) : Int) from rfl, show (63 : Int) = ((63 : Nat) : Int) from rfl, cut_lohi, ← List.map_drop, ← List.map_take] at e3
  have n2' : H l2 = none := s1.free n2
  have n3' : H l3 = none := s02.free n3
  have l23 : l2 ≠ l3 := ne_of_none e2 n3
  generalize hrs : List.take (63 - 12) (List.drop 12 ns) = rs at e3
  have full : 0 < rs.length → (ns.take 12).length = 12 := fun h => by
    have z : rs.length ≤ (ns.drop 12).length := by
      rw [← hrs, List.length_take]
      omega
    rw [List.length_drop] at z
    rw [List.length_take]
    omega
  refine ⟨_, _, rfl, SqL.of e3, for_it (walkPair (walk_enum (xs := rs.map V.int))) (fun i σ H' => ∃ (cs : List Int) (kv cv : Option V), σ = [some (.ref a), some (.ref l2), kv, cv] ∧ Same H H' ∧ H' l3 = some (.lst (rs.map V.int)) ∧ H' l2 = some (.lst (cs.map V.int)) ∧ cs.length = (ns.take 12).length)
    ⟨_, none, none, rfl, s02.trans s3, e3, s3 _ _ e2, rfl⟩ (fun i σ H' _ p => ?_) (fun i x σ H4 H5 hi p y => ?_) (fun σ H' p => ?_)⟩
  · obtain ⟨cs, kv, cv, _, _, e, _, _⟩ := p
    exact SqL.of e
  · obtain ⟨cs, kv, cv, rfl, s4, e4, c4, hc⟩ := p
    obtain ⟨U, x1, x2, rfl, s5, eU, ex1, ex2⟩ := y
    cases ex1
    rw [List.length_map] at hi
    have h12 := full (by omega)
    obtain ⟨z, _, rfl⟩ := get_map (f := V.int) ex2
    have f := fmod_in (a := (i : Int)) (b := 12) (by decide)
    obtain ⟨v, hv, _⟩ := at_int (xs := cs) (i := (i : Int).fmod 12) f.1 (by omega)
    refine ⟨U, _, rfl, SqT.of eU, rfl, _, _, rfl, _, _, rfl, rfl, ?_⟩
    refine ⟨_, rfl, ?_⟩; refine ⟨_, rfl, ?_⟩; (first | refine ⟨_, _, rfl, rfl, (by omega), ?_⟩ | refine Or.inl ⟨_, _, rfl, rfl, (by omega), ?_⟩); refine Or.inl ⟨_, _, _, _, rfl, rfl, SqL.of (s5 _ _ c4), hv, ?_⟩; refine ⟨_, rfl, ?_⟩; (first | refine Or.inl ⟨_, _, rfl, rfl, ?_⟩ | refine ⟨_, _, rfl, rfl, ?_⟩)
    refine ⟨_, rfl, ?_⟩; refine ⟨_, rfl, ?_⟩; (first | refine ⟨_, _, rfl, rfl, (by omega), ?_⟩ | refine Or.inl ⟨_, _, rfl, rfl, (by omega), ?_⟩)
    refine ⟨_, _, _, _, rfl, rfl, s5 _ _ c4, ixN_of f.1 (by rw [List.length_map]; omega), fun H6 b6 e6 => ?_⟩
    refine ⟨_, _, _, rfl, fun b o e => ?_, b6 _ _ (Ne.symm l23) (s5 _ _ e4), by rw [e6, ← List.map_set], by rw [List.length_set]; exact hc⟩
    exact b6 _ _ (ne_of_none e n2') (s5 _ _ (s4 _ _ e))
  · obtain ⟨cs, kv, cv, rfl, s4, e4, c4, hc⟩ := p
    refine ⟨_, rfl, ?_⟩
    refine ⟨szS, fun p H5 n5 s5 e5 => ?_⟩
    refine q p l2 H5 (s4.free n5) (s4.trans s5) ⟨cs, 0, 0, e5, s5 _ _ c4, by rw [hc, List.length_take]; omega, by omega, ne_of_none c4 n5⟩
end
end Kx

namespace Kx
open PySem PySem.Spec PyProof.Rows L2 Fo
section
variable {P : Program} {w : World} {K : PySem.W.Frag} {mg : Str → Option Value} {base : Heap}
structure Read (r : Rdr) (B : Nat) (l : Cs) (s : Nat) : Prop where
  ok : r.Ok B
  st : s < r.states.length
  sub : ∀ c ∈ l, c ∈ r.reads
  len : l.length ≤ 100000
  tot : l.length * B ≤ 1000000
  big : B ≤ 1000000
def sp_read_on : Sp := fun vs H Q _ => ∃ (v : V) (r : Rdr) (B : Nat) (l : Cs) (s : Nat), vs = [v, .str (tx l), .int s] ∧ Tv H v (dR r) ∧ Read r B l s ∧ Ret (dW (r.run s l)) H Q
theorem ok_read_on (T : Top K mg) : FnOk P w K mg base CX0 1 T.f_read_on T.fd_read_on ["reader", "text", "state"] sp_read_on := by
  refine T.F_read_on.ok sc_read_on (fun vs H Q E h => ?_) (fun cdv A outer s H vs Q E hr h => ?_)
  · obtain ⟨v, r, B, l, s, rfl, _⟩ := h
    rfl
  obtain ⟨v, r, B, l, s, rfl, hv, R, q⟩ := h
  obtain ⟨a, ss, xs, rfl, ha, hs, hX⟩ := hv.dR
  refine ⟨_, PSs.nox (pss_cons (ps_asg (pv 0) (kTg K rfl (n := 3) rfl (pgs_cons (pg_name (i := 3) sc_read_on.nd rfl (Or.inl rfl)) (pgs_cons (pg_name (i := 4) sc_read_on.nd rfl (Or.inl rfl)) (pgs_cons (pg_name (i := 5) sc_read_on.nd rfl (Or.inl rfl)) pgs_nil)))))
    (pss_cons (ps_set (i := 6) sc_read_on.nd rfl (Or.inl rfl) (pv 2))
    (pss_cons (ps_set (i := 7) sc_read_on.nd rfl (Or.inl rfl) (pe_lstN pa_nil))
    (pss_cons (ps_for PassesOwn.never rfl (kG K rfl (pv 1)) (pg_name (i := 8) sc_read_on.nd rfl (Or.inl rfl)) (pss_cons (ps_asg (pe_ix (kIx K rfl) (pe_ix (kIx K rfl) (pe_ix (kIx K rfl) (pv 5) (pv 6) (fun _ _ => rfl)) pe_int (fun _ _ => rfl)) (pe_m1 PySem.F.slot_str_index PySem.F.type_str_index mt_sindex (pv 3) (pv 8)) (fun _ _ => rfl)) (kTg K rfl (n := 2) rfl (pgs_cons (pg_name (i := 6) sc_read_on.nd rfl (Or.inl rfl)) (pgs_cons (pg_name (i := 9) sc_read_on.nd rfl (Or.inl rfl)) pgs_nil))))
    (pss_one (ps_expr (kBm K rfl (pe_bm PySem.F.plainAttrs_list PySem.F.slot_list_append PySem.F.type_list_append mt_appN (pv 7) (pa_cons (pv 9) pa_nil)))))))
    (pss_one (ps_ret (pe_tupN (pa_cons (pv 6) (pa_cons (kJoin K rfl pe_str (pv 7)) pa_nil))))))))), ?_⟩
  refine ⟨_, rfl, a, _, rfl, SqT.of ha, rfl, _, _, rfl, _, _, rfl, _, _, rfl, rfl, ?_⟩
  refine ⟨_, rfl, ?_⟩; refine ⟨szS, fun t H1 n1 s1 e1 => ?_⟩
  refine Or.inr (Or.inr ⟨_, rfl, _, rfl, ?_⟩)
  refine for_it (walk_str (z := tx l)) (fun i σ H' => ∃ (ps : List Cs) (y1 y2 : Option V), σ = [some (.ref a), some (.str (tx l)), some (.int s), some (.str (tx r.reads)), some (.str (tx r.tells)), some (.ref ss), some (.int ((r.run s (l.take i)).1 : Nat)), some (.ref t), y1, y2] ∧
      Same H H' ∧ H' t = some (.lst ((ps.map tx).map V.str)) ∧ ps.flatten = (r.run s (l.take i)).2 ∧ ps.length = i) ⟨[], none, none, rfl, s1, e1, rfl, rfl⟩ (fun _ _ _ _ _ => trivial) (fun i x σ H2 H3 hi p y => ?_) (fun σ H2 p => ?_)
  · obtain ⟨ps, y1, y2, rfl, s2, et, ef, el⟩ := p
    obtain ⟨rfl, c, hc, rfl⟩ := y
    have hc' := tx_at hc
    rw [tx_size] at hi
    have hm : c ∈ r.reads := R.sub c (List.mem_of_getElem? hc')
    have ro := Rdr.run_ok R.ok (l.take i) s R.st (fun x hx => R.sub x (List.mem_of_mem_take hx))
    obtain ⟨x1, hx1, tx1⟩ := dS_at (hX.mv (same_ts s2)) ro.1
    obtain ⟨b1, ws, ys, e, rfl, hb1, hws, hW, _⟩ := tx1.dS
    obtain ⟨x2, hx2, tx2⟩ := dW_at R.ok hW ro.1 hm
    obtain ⟨b2, rfl, hb2⟩ := tx2.dW
    obtain ⟨rest, ho⟩ := occ_sign hm
    refine ⟨_, rfl, ?_⟩; refine ⟨_, rfl, ?_⟩; refine Or.inr (Or.inl ⟨_, _, _, _, rfl, rfl, SqT.of (s2 _ _ hs), (atI_nat hx1), ?_⟩); refine Or.inr (Or.inl ⟨_, _, _, _, rfl, rfl, SqT.of hb1, rfl, ?_⟩)
    refine ⟨_, rfl, ?_⟩; refine ⟨⟨_, rfl⟩, _, rfl, _, _, _, _, rfl, rfl, ho, ?_⟩
    refine Or.inr (Or.inl ⟨_, _, _, _, rfl, rfl, SqT.of hws, (atI_nat hx2), ?_⟩)
    refine ⟨b2, _, rfl, SqT.of hb2, rfl, _, _, rfl, _, _, rfl, rfl, ?_⟩
    refine ⟨_, rfl, .inl ⟨rfl, _, SqL.of et⟩, _, rfl, _, _, _, rfl, rfl, et, ?_, fun H4 b4 e4 => ?_⟩
    · rw [List.length_map, List.length_map, el, sizeLine_eq]
      have := R.len
      omega
    refine ⟨ps ++ [(r.go (r.run s (l.take i)).1 c).2], some (.str ⟨#[c]⟩), some (.str (tx (r.go (r.run s (l.take i)).1 c).2)), ?_, ?_, ?_, ?_, ?_⟩
    · rw [take_snoc hc', Rdr.run_snoc]
      rfl
    · exact fun b o e => b4 _ _ (ne_of_none e n1) (s2 _ _ e)
    · rw [e4, List.map_append, List.map_append]
      rfl
    · rw [take_snoc hc', Rdr.run_snoc, List.flatten_append, ef]
      simp
    · rw [List.length_append, el]
      rfl
  · obtain ⟨ps, y1, y2, rfl, s2, et, ef, el⟩ := p
    rw [tx_size, List.take_length] at ef
    rw [tx_size] at el
    have ro := Rdr.run_ok R.ok l s R.st R.sub
    have := R.tot
    refine ⟨_, rfl, ?_⟩
    refine ⟨⟨_, rfl⟩, _, rfl, _, _, ps.map tx, rfl, rfl, .inl (SqL.of et), ?_, szS, fun p H3 n3 s3 e3 => ?_⟩
    · rw [flat_len, ef]
      show _ + _ * 0 ≤ _
      omega
    · refine q _ _ (s2.trans s3) (Tv.mkW ?_)
      rw [e3, join_tx, ef, tx_size, List.take_length]
end
end Kx

namespace Kx
open PySem PySem.Spec PyProof.Rows L2 Fo
section
variable {P : Program} {w : World} {K : PySem.W.Frag} {mg : Str → Option Value} {base : Heap}
def sp_telling : Sp := fun vs H Q _ => ∃ (v : V) (r : Rdr) (B : Nat) (l : Cs), vs = [v, .str (tx l)] ∧ Tv H v (dR r) ∧ Read r B l 0 ∧ Ret (dO (r.telling l)) H Q
theorem ok_telling (T : Top K mg) : FnOk P w K mg base CX0 2 T.f_telling T.fd_telling ["reader", "text"] sp_telling := by
  have G_read_on := ok_read_on (P := P) (w := w) (base := base) T
  refine T.F_telling.ok sc_telling (fun vs H Q E h => ?_) (fun cdv A outer s H vs Q E hr h => ?_)
  · obtain ⟨v, r, B, l, rfl, _⟩ := h
    rfl
  obtain ⟨v, r, B, l, rfl, hv, R, q⟩ := h
  have hv0 := hv
  obtain ⟨a, ss, xs, rfl, ha, hs, hX⟩ := hv.dR
  refine ⟨_, (pss_cons (ps_asg (pe_call G_read_on (hr.mono (by decide)) (by rfl) T.g_read_on T.F_read_on.kp T.b_read_on T.v_read_on pass0 (pa_cons (pv 0) (pa_cons (pv 1) pa_nil))) (kTg K rfl (n := 2) rfl (pgs_cons (pg_name (i := 2) sc_telling.nd rfl (Or.inl rfl)) (pgs_cons (pg_name (i := 3) sc_telling.nd rfl (Or.inl rfl)) pgs_nil))))
    (pss_cons (ps_set (i := 4) sc_telling.nd rfl (Or.inl rfl) (pe_ix (kIx K rfl) (pe_ix (kIx K rfl) (pe_ix (kIx K rfl) (pv 0) pe_int (fun _ _ => rfl)) (pv 2) (fun _ _ => rfl)) pe_int (fun _ _ => rfl)))
    (pss_cons (ps_if (pt_cmpR op_isN (pv 4) pe_non (nomark _)) (pss_one (ps_ret pe_non)) pss_nil)
    (pss_one (ps_ret (pe_op op_addG (pv 3) (pv 4))))))), ?_⟩
  refine ⟨_, rfl, ?_⟩; refine ⟨_, rfl, ?_⟩
  refine ⟨.ref a, r, B, l, 0, rfl, hv0, R, fun x H1 s1 t1 => ?_⟩
  obtain ⟨b, rfl, hb⟩ := t1.dW
  have ro := Rdr.run_ok R.ok l 0 R.st R.sub
  obtain ⟨x1, hx1, tx1⟩ := dS_at (hX.mv (same_ts s1)) ro.1
  obtain ⟨b1, ws, ys, e, rfl, hb1, hws, hW, he⟩ := tx1.dS
  refine ⟨b, _, rfl, SqT.of hb, rfl, _, _, rfl, _, _, rfl, rfl, ?_⟩
  refine ⟨_, rfl, ?_⟩; refine Or.inr (Or.inl ⟨_, _, _, _, rfl, rfl, SqT.of (s1 _ _ ha), rfl, ?_⟩); refine ⟨_, rfl, ?_⟩; refine Or.inr (Or.inl ⟨_, _, _, _, rfl, rfl, SqT.of (s1 _ _ hs), (atI_nat hx1), ?_⟩); refine Or.inr (Or.inl ⟨_, _, _, _, rfl, rfl, SqT.of hb1, rfl, ?_⟩)
  refine ⟨_, rfl, ?_⟩; refine ⟨rfl, _, rfl, ?_⟩
  cases hf : (r.sta (r.run 0 l).1).fin with
  | none =>
    rw [hf] at he
    cases he.nonI
    refine iteT ?_
    refine q _ _ s1 ?_
    show Tv H1 .non (dO (r.telling l))
    unfold Rdr.telling
    rw [hf]
    exact .non
  | some t =>
    rw [hf] at he
    cases he.strI
    refine iteF ?_
    have := R.tot
    have := R.big
    have := R.ok.fins _ (Rdr.sta_mem ro.1) t hf
    refine ⟨_, rfl, ?_⟩; refine ⟨_, rfl, ?_⟩
    refine Or.inr (Or.inl ⟨_, _, rfl, rfl, ?_, ?_⟩)
    · rw [tx_len, tx_len, sizeLine_eq]
      omega
    · refine q _ _ s1 ?_
      unfold Rdr.telling
      rw [hf, tx_app]
      exact .str _
def sp_lread : Sp := fun vs H Q _ => ∃ (v : V) (r : Rdr) (B : Nat) (l : Cs) (s : Nat), vs = [v, .int s, .str (tx l)] ∧ Tv H v (dR r) ∧ Read r B l s ∧ Ret (dW (r.run s l)) H Q
theorem ok_lread (T : Top K mg) : FnOk P w K mg base CX0 1 T.f__law_read_on T.fd__law_read_on ["reader", "seat", "text"] sp_lread := by
  refine T.F__law_read_on.ok sc__law_read_on (fun vs H Q E h => ?_) (fun cdv A outer s H vs Q E hr h => ?_)
  · obtain ⟨v, r, B, l, s, rfl, _⟩ := h
    rfl
  obtain ⟨v, r, B, l, s, rfl, hv, R, q⟩ := h
  obtain ⟨a, ss, xs, rfl, ha, hs, hX⟩ := hv.dR
  refine ⟨_, (pss_cons (ps_set (i := 3) sc__law_read_on.nd rfl (Or.inl rfl) pe_str)
    (pss_cons (ps_for PassesOwn.never rfl (kG K rfl (pv 2)) (pg_name (i := 4) sc__law_read_on.nd rfl (Or.inl rfl)) (pss_cons (ps_asg (pe_ix (kIx K rfl) (pe_ix (kIx K rfl) (pe_ix (kIx K rfl) (pe_ix (kIx K rfl) (pv 0) pe_int (fun _ _ => rfl)) (pv 1) (fun _ _ => rfl)) pe_int (fun _ _ => rfl)) (pe_m1 PySem.F.slot_str_index PySem.F.type_str_index mt_sindex (pe_ix (kIx K rfl) (pv 0) pe_int (fun _ _ => rfl)) (pv 4)) (fun _ _ => rfl)) (kTg K rfl (n := 2) rfl (pgs_cons (pg_name (i := 1) sc__law_read_on.nd rfl (Or.inl rfl)) (pgs_cons (pg_name (i := 5) sc__law_read_on.nd rfl (Or.inl rfl)) pgs_nil))))
    (pss_one (ps_set (i := 3) sc__law_read_on.nd rfl (Or.inl rfl) (pe_op op_addG (pv 3) (pv 5))))))
    (pss_one (ps_ret (pe_tupN (pa_cons (pv 1) (pa_cons (pv 3) pa_nil))))))), ?_⟩
  refine Or.inr (Or.inr ⟨_, rfl, _, rfl, ?_⟩)
  refine for_it (walk_str (z := tx l)) (fun i σ H' => ∃ (y1 y2 : Option V), σ = [some (.ref a), some (.int ((r.run s (l.take i)).1 : Nat)), some (.str (tx l)), some (.str (tx (r.run s (l.take i)).2)), y1, y2] ∧ Same H H')
    ⟨none, none, rfl, Same.refl _⟩ (fun _ _ _ _ _ => trivial) (fun i x σ H2 H3 hi p y => ?_) (fun σ H2 p => ?_)
  · obtain ⟨y1, y2, rfl, s2⟩ := p
    obtain ⟨rfl, c, hc, rfl⟩ := y
    have hc' := tx_at hc
    rw [tx_size] at hi
    have hm : c ∈ r.reads := R.sub c (List.mem_of_getElem? hc')
    have ro := Rdr.run_ok R.ok (l.take i) s R.st (fun x hx => R.sub x (List.mem_of_mem_take hx))
    have ro2 := Rdr.run_ok R.ok (l.take (i + 1)) s R.st (fun x hx => R.sub x (List.mem_of_mem_take hx))
    obtain ⟨x1, hx1, tx1⟩ := dS_at (hX.mv (same_ts s2)) ro.1
    obtain ⟨b1, ws, ys, e, rfl, hb1, hws, hW, _⟩ := tx1.dS
    obtain ⟨x2, hx2, tx2⟩ := dW_at R.ok hW ro.1 hm
    obtain ⟨b2, rfl, hb2⟩ := tx2.dW
    obtain ⟨rest, ho⟩ := occ_sign hm
    refine ⟨_, rfl, ?_⟩; refine Or.inr (Or.inl ⟨_, _, _, _, rfl, rfl, SqT.of (s2 _ _ ha), rfl, ?_⟩); refine ⟨_, rfl, ?_⟩; refine Or.inr (Or.inl ⟨_, _, _, _, rfl, rfl, SqT.of (s2 _ _ hs), (atI_nat hx1), ?_⟩); refine Or.inr (Or.inl ⟨_, _, _, _, rfl, rfl, SqT.of hb1, rfl, ?_⟩)
    refine ⟨_, rfl, ?_⟩; refine Or.inr (Or.inl ⟨_, _, _, _, rfl, rfl, SqT.of (s2 _ _ ha), rfl, ?_⟩)
    refine ⟨⟨_, rfl⟩, _, rfl, _, _, _, _, rfl, rfl, ho, ?_⟩
    refine Or.inr (Or.inl ⟨_, _, _, _, rfl, rfl, SqT.of hws, (atI_nat hx2), ?_⟩)
    refine ⟨b2, _, rfl, SqT.of hb2, rfl, _, _, rfl, _, _, rfl, rfl, ?_⟩
    refine ⟨_, rfl, ?_⟩; refine ⟨_, rfl, ?_⟩
    have en : (r.run s (l.take i)).2 ++ (r.go (r.run s (l.take i)).1 c).2 = (r.run s (l.take (i + 1))).2 := by rw [take_snoc hc', Rdr.run_snoc]
    refine Or.inr (Or.inl ⟨_, _, rfl, rfl, ?_, ?_⟩)
    · have z := ro2.2
      have z2 : (l.take (i + 1)).length * B ≤ l.length * B := Nat.mul_le_mul_right _ (by rw [List.length_take]; omega)
      have := R.tot
      have z3 := congrArg List.length en
      rw [List.length_append] at z3
      rw [tx_len, tx_len, sizeLine_eq]
      omega
    · refine ⟨some (.str ⟨#[c]⟩), some (.str (tx (r.go (r.run s (l.take i)).1 c).2)), ?_, s2⟩
      rw [tx_app, en, take_snoc hc', Rdr.run_snoc]
      rfl
  · obtain ⟨y1, y2, rfl, s2⟩ := p
    rw [tx_size, List.take_length]
    refine ⟨_, rfl, ?_⟩; refine ⟨_, rfl, ?_⟩
    exact ⟨szS, fun p H3 n3 s3 e3 => q _ _ (s2.trans s3) (Tv.mkW e3)⟩
def sp_text (K : PySem.W.Frag) : Sp := fun vs H Q _ => ∃ (p c : Addr) (n : Nat) (g : Cs) (most : Nat), vs = [.ref p, .str (tx g), .int most] ∧ Pen H p c (n + most + 1) ∧ g ≠ [] ∧ g.length ≤ 1000 ∧ most ≤ 1000 ∧
  ∀ H' t, But p H H' → Pen H' p c n → t.length ≤ most → (∀ c ∈ t, c ∈ g) → Q (.str (tx t)) H'
theorem ok_text (T : Top K mg) : FnOk P w K mg base CX0 3 T.f__law_some_text T.fd__law_some_text ["pen", "signs", "most"] (sp_text K) := by
  have G__law_take := ok_take (P := P) (w := w) (base := base) T
  refine T.F__law_some_text.ok sc__law_some_text (fun vs H Q E h => ?_) (fun cdv A outer s H vs Q E hr h => ?_)
  · obtain ⟨p, c, n, g, m, rfl, _⟩ := h
    rfl
  obtain ⟨p, c, n, g, most, rfl, hp, g0, gl, hm, q⟩ := h
  refine ⟨_, (pss_one (ps_ret (kJoin K rfl pe_str (pe_lc (own := [("k", 3)]) (tt := tYes) rfl sc__law_some_text.nd (pi_range1 rfl T.m_range (pa_cons (pe_call G__law_take (hr.mono (by first | decide | omega)) (by rfl) T.g__law_take T.F__law_take.kp T.b__law_take .nil pass0 (pa_cons (pv 0) (pa_cons (pe_op op_addG (pv 2) pe_int) pa_nil))) pa_nil)) (blkOk_by (N := ["pen", "signs", "most", "k"]) (sc := defScope s__law_some_text) (by decide +kernel)) (fun _ _ _ _ _ => (pg_name (i := 3) sc__law_some_text.nd rfl (Or.inl rfl))) (fun _ _ _ _ _ => pts_nil) (fun _ _ _ _ _ => (pe_ix (kIx K rfl) (pv 1) (pe_call G__law_take (hr.mono (by first | decide | omega)) (by rfl) T.g__law_take T.F__law_take.kp T.b__law_take .nil pass0 (pa_cons (pv 0) (pa_cons (pe_callB (kLen K rfl) (by rfl) T.m_len PySem.boot_len (pa_cons (pv 1) pa_nil)) pa_nil))) (fun _ _ => rfl))))))), ?_⟩
  refine ⟨⟨_, rfl⟩, ?_⟩
  refine ⟨_, rfl, ?_⟩; refine ⟨_, rfl, ?_⟩; (first | refine Or.inl ⟨_, _, rfl, rfl, ?_⟩ | refine ⟨_, _, rfl, rfl, ?_⟩)
  refine ⟨p, c, n + most, (most : Int) + 1, rfl, hp, by omega, by omega, fun H1 m b1 p1 m0 m1 => ?_⟩
  refine ⟨m, rfl, by omega, by omega, fun D hD => ?_⟩
  have dn := p1.ne hD
  refine lcN0 walk_range hD (fun i acc H' => But p H H' ∧ Pen H' p c (n + most - i) ∧ ∃ t : Cs, t.length = i ∧ (∀ c ∈ t, c ∈ g) ∧ acc = sgs t) (fun H2 s2 e2 => ⟨b1.trans (same_but p s2), p1.same s2, [], rfl, (fun _ h => nomatch h), rfl⟩) (fun _ _ _ _ _ => trivial) (fun i x acc H2 H3 hi hl pv eD y => ?_) (fun acc H2 hl pv eD => ?_)
  · obtain ⟨b2, p2, t, tl, ts, rfl⟩ := pv
    obtain ⟨rfl, rfl⟩ := y
    refine ⟨rfl, ?_⟩
    refine ⟨_, rfl, ?_⟩; refine ⟨_, rfl, ?_⟩; refine ⟨_, rfl, ?_⟩
    refine ⟨_, _, rfl, ⟨by rw [tx_len, sizeLine_eq]; omega, rfl⟩, ?_⟩
    refine ⟨p, c, n + most - i - 1, ((tx g).length : Int), rfl, by rw [show n + most - i - 1 + 1 = n + most - i by omega]; exact p2, ?_, ?_, fun H4 r b4 p4 r0 r1 => ?_⟩
    · rw [tx_len]
      have := List.length_pos_iff.mpr g0
      omega
    · rw [tx_len]
      omega
    rw [tx_len] at r1
    obtain ⟨k, hk, mk⟩ := at_of (xs := (tx g).cps.toList) (i := r) r0 (by show r < ((TL.tl (tx g)).length : Int); exact r1)
    refine Or.inr (Or.inr ⟨_, _, _, rfl, rfl, (by rw [tx_len, sizeLine_eq]; omega), hk, ?_⟩)
    refine lcNext (b4 _ _ (Ne.symm dn.1) eD) hl (by omega) (fun H5 b5 e5 => ⟨(b2.trans b4).chg b1 hD b5, p4.chg dn b5 |>.less (by omega), t ++ [k], by rw [List.length_append, tl]; rfl, fun x hx => ?_, sgs_app t k⟩)
    rcases List.mem_append.mp hx with h | h
    · exact ts x h
    · rw [List.mem_singleton.mp h]
      exact mk
  · obtain ⟨b2, p2, t, tl, ts, rfl⟩ := pv
    rw [sgs_ones] at eD
    have ef := flat_ones t
    refine ⟨_, _, _, rfl, rfl, .inl (SqL.of eD), ?_, ?_⟩
    · rw [flat_len, ef, tl]
      show _ + _ * 0 ≤ _
      omega
    · rw [join_tx, ef]
      exact q _ _ b2 (p2.less (by omega)) (by omega) ts
end
end Kx

namespace Kx
open PySem PySem.Spec PyProof.Rows L2 Fo
section
variable {P : Program} {w : World} {K : PySem.W.Frag} {mg : Str → Option Value} {base : Heap}
def sp_signs (K : PySem.W.Frag) : Sp := fun vs H Q _ => ∃ (p c : Addr) (n m : Nat), vs = [.ref p, .int m] ∧ Pen H p c (n + m) ∧ m ≤ 60 ∧
  ∀ H' t, But p H H' → Pen H' p c n → Sgs t m → Q (.str (tx t)) H'
theorem ok_signs (T : Top K mg) : FnOk P w K mg base CX0 3 T.f__law_some_signs T.fd__law_some_signs ["pen", "amount"] (sp_signs K) := by
  have G__law_take := ok_take (P := P) (w := w) (base := base) T
  refine T.F__law_some_signs.ok sc__law_some_signs (fun vs H Q E h => ?_) (fun cdv A outer s H vs Q E hr h => ?_)
  · obtain ⟨p, c, n, m, rfl, _⟩ := h
    rfl
  obtain ⟨p, c, n, m, rfl, hp, hm, q⟩ := h
  refine ⟨_, (pss_cons (ps_set (i := 2) sc__law_some_signs.nd rfl (Or.inl rfl) pe_str)
    (pss_cons (ps_set (i := 3) sc__law_some_signs.nd rfl (Or.inr rfl) (pe_callTy (kList K rfl rfl) (by rfl) T.m_list (by decide +kernel) (pa_cons (pv 2) pa_nil)))
    (pss_one (ps_ret (kJoin K rfl pe_str (pe_callB (kSorted K rfl) (by rfl) T.m_sorted (by decide +kernel) (pa_cons (pe_lc (own := [("k", 4)]) (tt := tYes) rfl sc__law_some_signs.nd (pi_range1 rfl T.m_range (pa_cons (pv 1) pa_nil)) (blkOk_by (N := ["pen", "amount", "pool", "left", "k"]) (sc := defScope s__law_some_signs) (by decide +kernel)) (fun _ _ _ _ _ => (pg_name (i := 4) sc__law_some_signs.nd rfl (Or.inl rfl))) (fun _ _ _ _ _ => pts_nil) (fun _ _ _ _ _ => (kBm K rfl (pe_bm PySem.F.plainAttrs_list PySem.F.slot_list_pop PySem.F.type_list_pop mt_popN (pv 3) (pa_cons (pe_call G__law_take (hr.mono (by first | decide | omega)) (by rfl) T.g__law_take T.F__law_take.kp T.b__law_take .nil pass0 (pa_cons (pv 0) (pa_cons (pe_callB (kLen K rfl) (by rfl) T.m_len PySem.boot_len (pa_cons (pv 3) pa_nil)) pa_nil))) pa_nil))))) pa_nil))))))), ?_⟩
  refine ⟨_, rfl, ?_⟩
  refine Or.inr ⟨_, rfl, szS, fun l H1 n1 s1 e1 => ?_⟩
  have e1' : H1 l = some (.lst (sgs poolL)) := e1.trans (congrArg (fun l : Cs => some (HO.lst (sgs l))) (show _ = poolL by decide +kernel))
  have p1 := hp.same s1
  refine ⟨⟨_, rfl⟩, ?_⟩
  refine ⟨_, rfl, ?_⟩
  refine ⟨m, rfl, by omega, by omega, fun D hD => ?_⟩
  have dn := p1.ne hD
  have dl := hp.ne n1
  have lD : l ≠ D := ne_of_none e1 hD
  rw [show (m : Int).toNat = m by omega]
  refine lcN0 walk_range hD (fun i acc H' => But p H H' ∧ Pen H' p c (n + m - i) ∧ ∃ t rest : Cs, t.length = i ∧ (t ++ rest).Perm poolL ∧ acc = sgs t ∧ H' l = some (.lst (sgs rest)))
    (fun H2 s2 e2 => ⟨same_but p (s1.trans s2), p1.same s2, [], poolL, rfl, List.Perm.refl _, rfl, s2 _ _ e1'⟩) (fun _ _ _ _ _ => trivial) (fun i x acc H2 H3 hi hl pv eD y => ?_) (fun acc H2 hl pv eD => ?_)
  · obtain ⟨b2, p2, t, rest, tl, hperm, rfl, el⟩ := pv
    obtain ⟨rfl, rfl⟩ := y
    have hlen := hperm.length_eq
    rw [List.length_append, poolL_len] at hlen
    refine ⟨rfl, ?_⟩
    refine ⟨_, rfl, ?_⟩
    refine ⟨.inl ⟨rfl, _, SqL.of el⟩, ?_⟩
    refine ⟨_, rfl, ?_⟩; refine ⟨_, rfl, ?_⟩
    refine ⟨_, _, rfl, .inl ⟨_, SqL.of el, rfl⟩, ?_⟩
    have hsl : (sgs rest).length = rest.length := by unfold sgs; rw [List.length_map]
    refine ⟨p, c, n + m - i - 1, ((sgs rest).length : Int), rfl, by rw [show n + m - i - 1 + 1 = n + m - i by omega]; exact p2, by omega, by omega, fun H4 r b4 p4 r0 r1 => ?_⟩
    rw [hsl] at r1
    have e4l := b4 _ _ (Ne.symm dl.1) el
    have e4D := b4 _ _ (Ne.symm dn.1) eD
    have hk : r.toNat < rest.length := by omega
    have hg : rest[r.toNat]? = some (rest[r.toNat]'hk) := List.getElem?_eq_getElem hk
    generalize rest[r.toNat]'hk = k at hg
    refine ⟨l, _, r, r.toNat, .str ⟨#[k]⟩, rfl, rfl, e4l, by omega, by omega, (ixN_seq (ixN_of r0 (by omega))).1, by unfold sgs; rw [List.getElem?_map, hg]; rfl, fun H5 b5 e5 => ?_⟩
    refine lcNext (b5 _ _ (Ne.symm lD) e4D) hl (by omega) (fun H6 b6 e6 => ⟨?_, ?_, t ++ [k], rest.eraseIdx r.toNat, by rw [List.length_append, tl]; rfl, ?_, sgs_app t k, ?_⟩)
    · exact But.chg (But.chg (b2.trans b4) (But.refl p H) n1 b5) (same_but p s1) hD b6
    · exact ((p4.chg dl b5).chg dn b6).less (by omega)
    · rw [List.append_assoc]
      exact (List.Perm.append_left t (erase_perm hg)).trans hperm
    · rw [b6 _ _ lD e5]
      unfold sgs
      rw [erase_map]
  · obtain ⟨b2, p2, t, rest, tl, hperm, rfl, el⟩ := pv
    have hsg : sgs t = (t.map one).map V.str := by
      unfold sgs
      rw [List.map_map]
      rfl
    rw [hsg] at eD
    refine ⟨_, t.map one, rfl, SqL.of eD, by rw [List.length_map]; omega, fun ys hy hs q2 H3 n3 s3 e3 => ?_⟩
    obtain ⟨u, rfl, hu⟩ := one_of hy
    have S := sgs_of hperm tl hu hs
    have eu : u.map one = (u.map fun c => [c]).map tx := by
      rw [List.map_map]
      rfl
    rw [eu] at e3
    refine ⟨_, _, _, rfl, rfl, .inl (SqL.of e3), ?_, ?_⟩
    · rw [flat_len, flat_ones, S.len]
      show _ + _ * 0 ≤ _
      omega
    · rw [join_tx, flat_ones]
      exact q _ _ (b2.trans (same_but p s3)) ((p2.same s3).less (by omega)) S
end
end Kx

namespace Kx
open PySem PySem.Spec PyProof.Rows L2 Fo
section
variable {P : Program} {w : World} {K : PySem.W.Frag} {mg : Str → Option Value} {base : Heap}
def costR (R size most : Nat) : Nat := 2 + size * (R * (most + 3) + 3)
def sp_any (K : PySem.W.Frag) : Sp := fun vs H Q _ => ∃ (p c : Addr) (n : Nat) (reads tells : Cs) (size most : Nat), vs = [.ref p, .str (tx reads), .str (tx tells), .int size, .int most] ∧ Pen H p c (n + costR reads.length size most) ∧ tells ≠ [] ∧ tells.length ≤ 1000 ∧ reads.length ≤ 1000 ∧ 1 ≤ size ∧ size ≤ 1000 ∧ 1 ≤ most ∧ most ≤ 1000 ∧
  ∀ x H' (r : Rdr), But p H H' → Pen H' p c n → Tv H' x (dR r) → r.reads = reads → r.tells = tells → r.states.length ≤ size → r.Val most 1 → Q x H'
theorem ok_any (T : Top K mg) : FnOk P w K mg base CX0 4 T.f__law_any_reader T.fd__law_any_reader ["pen", "reads", "tells", "size", "most"] (sp_any K) := by
  have G__law_take := ok_take (P := P) (w := w) (base := base) T
  have G__law_some_text := ok_text (P := P) (w := w) (base := base) T
  refine T.F__law_any_reader.ok sc__law_any_reader (fun vs H Q E h => ?_) (fun cdv A outer s H vs Q E hr h => ?_)
  · obtain ⟨p, c, n, reads, tells, size, most, rfl, _⟩ := h
    rfl
  obtain ⟨p, c, n, reads, tells, size, most, rfl, hp, t0, tl, rl, sz0, sz, mo0, mo, q⟩ := h
  unfold costR at hp
  generalize hC : reads.length * (most + 3) + 3 = C at hp
  refine ⟨_, (pss_cons (ps_par (i := 5) (j := 6) rfl sc__law_any_reader.nd rfl rfl (by decide) rfl rfl (pa_cons (pe_op op_addG pe_int (pe_call G__law_take (hr.mono (by first | decide | omega)) (by rfl) T.g__law_take T.F__law_take.kp T.b__law_take .nil pass0 (pa_cons (pv 0) (pa_cons (pv 3) pa_nil)))) (pa_cons (pe_cmpR (kEq K rfl hr.units) (pe_call G__law_take (hr.mono (by first | decide | omega)) (by rfl) T.g__law_take T.F__law_take.kp T.b__law_take .nil pass0 (pa_cons (pv 0) (pa_cons pe_int pa_nil))) pe_int (nomark _)) pa_nil)) rfl)
    (pss_cons (ps_set (i := 7) sc__law_any_reader.nd rfl (Or.inl rfl) (pe_lstN pa_nil))
    (pss_cons (ps_for PassesOwn.never rfl (pi_range1 rfl T.m_range (pa_cons (pv 5) pa_nil)) (pg_name (i := 8) sc__law_any_reader.nd rfl (Or.inl rfl)) (pss_cons (ps_set (i := 9) sc__law_any_reader.nd rfl (Or.inl rfl) (pe_lstN pa_nil))
    (pss_cons (ps_for PassesOwn.never rfl (kG K rfl (pv 1)) (pg_name (i := 10) sc__law_any_reader.nd rfl (Or.inl rfl)) (pss_cons (ps_set (i := 11) sc__law_any_reader.nd rfl (Or.inl rfl) (pe_call G__law_some_text (hr.mono (by first | decide | omega)) (by rfl) T.g__law_some_text T.F__law_some_text.kp T.b__law_some_text .nil pass0 (pa_cons (pv 0) (pa_cons (pv 2) (pa_cons (pv 4) pa_nil)))))
    (pss_cons (ps_if (PW.pt (pw_and (pt_val (pv 6)) (pw_and (pt_cmpR (kIn K rfl) (pv 10) (pv 2) rfl) (pw_and1 (pt_cmpR op_gtG (pe_call G__law_take (hr.mono (by first | decide | omega)) (by rfl) T.g__law_take T.F__law_take.kp T.b__law_take .nil pass0 (pa_cons (pv 0) (pa_cons pe_int pa_nil))) pe_int (nomark _)))))) (pss_one (ps_set (i := 11) sc__law_any_reader.nd rfl (Or.inl rfl) (pv 10))) pss_nil)
    (pss_one (ps_expr (kBm K rfl (pe_bm PySem.F.plainAttrs_list PySem.F.slot_list_append PySem.F.type_list_append mt_appN (pv 9) (pa_cons (pe_tupN (pa_cons (pe_call G__law_take (hr.mono (by first | decide | omega)) (by rfl) T.g__law_take T.F__law_take.kp T.b__law_take .nil pass0 (pa_cons (pv 0) (pa_cons (pv 5) pa_nil))) (pa_cons (pv 11) pa_nil))) pa_nil))))))))
    (pss_cons (ps_set (i := 12) sc__law_any_reader.nd rfl (Or.inl rfl) (pe_ix (kIx K rfl) (pe_lstN (pa_cons (pe_call G__law_some_text (hr.mono (by first | decide | omega)) (by rfl) T.g__law_some_text T.F__law_some_text.kp T.b__law_some_text .nil pass0 (pa_cons (pv 0) (pa_cons (pv 2) (pa_cons pe_int pa_nil)))) (pa_cons pe_str (pa_cons pe_str (pa_cons pe_non pa_nil))))) (pe_callB (call_min2 rfl) (by rfl) T.m_min (by decide +kernel) (pa_cons pe_int (pa_cons (pe_call G__law_take (hr.mono (by first | decide | omega)) (by rfl) T.g__law_take T.F__law_take.kp T.b__law_take .nil pass0 (pa_cons (pv 0) (pa_cons pe_int pa_nil))) pa_nil))) (fun _ _ => rfl)))
    (pss_one (ps_expr (kBm K rfl (pe_bm PySem.F.plainAttrs_list PySem.F.slot_list_append PySem.F.type_list_append mt_appN (pv 7) (pa_cons (pe_tupN (pa_cons (pe_callTy (kTuple K rfl) (by rfl) T.m_tuple (by decide +kernel) (pa_cons (pv 9) pa_nil)) (pa_cons (pv 12) pa_nil))) pa_nil)))))))))
    (pss_one (ps_ret (pe_tupN (pa_cons (pv 1) (pa_cons (pv 2) (pa_cons (pe_callTy (kTuple K rfl) (by rfl) T.m_tuple (by decide +kernel) (pa_cons (pv 7) pa_nil)) pa_nil))))))))), ?_⟩
  refine ⟨_, rfl, ?_⟩; refine ⟨_, rfl, ?_⟩
  refine ⟨p, c, n + 1 + size * C, size, rfl, by rw [show n + 1 + size * C + 1 = n + (2 + size * C) by omega]; exact hp, by omega, by omega, fun H1 m b1 p1 m0 m1 => ?_⟩
  (first | refine Or.inl ⟨_, _, rfl, rfl, ?_⟩ | refine ⟨_, _, rfl, rfl, ?_⟩)
  refine ⟨_, rfl, ?_⟩
  refine ⟨p, c, n + size * C, 2, rfl, by rw [show n + size * C + 1 = n + 1 + size * C by omega]; exact p1, by omega, by omega, fun H2 cp b2 p2 _ _ => ?_⟩
  refine Or.inl ⟨rfl, _, _, rfl, ?_⟩
  generalize decide (V.int cp = V.int 0) = copies
  have b02 := b1.trans b2
  obtain ⟨N, rfl⟩ : ∃ N : Nat, m = (N : Int) := ⟨m.toNat, by omega⟩
  have hNs : N + 1 ≤ size := by omega
  have p2' : Pen H2 p c (n + (N + 1) * C) := p2.less (Nat.add_le_add_left (Nat.mul_le_mul_right _ hNs) _)
  refine ⟨szS, fun l H3 n3 s3 e3 => ?_⟩
  have b03 := b02.trans (same_but p s3)
  have dl := p2.ne n3
  refine ⟨_, rfl, ?_⟩
  refine ⟨1 + (N : Int), rfl, by omega, by omega, ?_⟩
  rw [show (1 + (N : Int)).toNat = N + 1 by omega]
  refine for_it walk_range (fun k σ H' => ∃ (S : List Sta) (vs : List V) (y8 y9 y10 y11 y12 : Option V), σ = [some (.ref p), some (.str (tx reads)), some (.str (tx tells)), some (.int size), some (.int most), some (.int (1 + (N : Int))), some (.bl copies), some (.ref l), y8, y9, y10, y11, y12] ∧
    But p H H' ∧ Pen H' p c (n + (N + 1 - k) * C) ∧ H' l = some (.lst vs) ∧ TvA H' vs (S.map dS) ∧ S.length = k ∧ ∀ s ∈ S, StaVal reads.length (N + 1) most 1 tells s)
    ⟨[], [], none, none, none, none, none, rfl, b03, p2'.same s3, e3, .nil, rfl, (fun _ h => nomatch h)⟩ (fun _ _ _ _ _ => trivial) (fun k x σ H4 H5 hk pv y => ?_) (fun σ H4 pv => ?_)
  · obtain ⟨S, vs, y8, y9, y10, y11, y12, rfl, b4, p4, e4, t4, hS, vS⟩ := pv
    obtain ⟨rfl, rfl⟩ := y
    rw [succ_cost hk] at p4
    generalize hrest : n + (N + 1 - (k + 1)) * C = rest at p4
    rw [show n + ((N + 1 - (k + 1)) * C + C) = rest + C by omega] at p4
    refine ⟨szS, fun l2 H6 n6 s6 e6 => ?_⟩
    have dl2 := p4.ne n6
    have l12 : l ≠ l2 := ne_of_none e4 n6
    refine Or.inr (Or.inr ⟨_, rfl, _, rfl, ?_⟩)
    refine for_it (walk_str (z := tx reads)) (fun j σ H' => ∃ (W : List (Nat × Cs)) (ws : List V) (y10 y11 y12 : Option V), σ = [some (.ref p), some (.str (tx reads)), some (.str (tx tells)), some (.int size), some (.int most), some (.int (1 + (N : Int))), some (.bl copies), some (.ref l), some (.int (0 + (k : Int))), some (.ref l2), y10, y11, y12] ∧
      But p H H' ∧ Pen H' p c (rest + 3 + (reads.length - j) * (most + 3)) ∧ H' l = some (.lst vs) ∧ TvA H' vs (S.map dS) ∧ H' l2 = some (.lst ws) ∧ TvA H' ws (W.map dW) ∧ W.length = j ∧ ∀ w ∈ W, w.1 < N + 1 ∧ w.2.length ≤ most ∧ ∀ c ∈ w.2, c ∈ tells)
      ⟨[], [], y10, y11, y12, rfl, b4.trans (same_but p s6), by rw [show rest + 3 + (reads.length - 0) * (most + 3) = rest + C by rw [Nat.sub_zero]; omega]; exact p4.same s6, s6 _ _ e4, t4.mv (same_ts s6), e6, .nil, rfl, (fun _ h => nomatch h)⟩ (fun _ _ _ _ _ => trivial) (fun j x σ H7 H8 hj pv y => ?_) (fun σ H7 pv => ?_)
    · obtain ⟨W, ws, y10, y11, y12, rfl, b7, p7, e7, t7, f7, u7, hW, vW⟩ := pv
      obtain ⟨rfl, ch, hch, rfl⟩ := y
      rw [tx_size] at hj
      rw [succ_cost hj] at p7
      generalize hr2 : rest + 3 + (reads.length - (j + 1)) * (most + 3) = rest2 at p7
      rw [show rest + 3 + ((reads.length - (j + 1)) * (most + 3) + (most + 3)) = rest2 + 2 + most + 1 by omega] at p7
      refine ⟨_, rfl, ?_⟩; refine ⟨_, rfl, ?_⟩; refine ⟨_, rfl, ?_⟩
      refine ⟨p, c, rest2 + 2, tells, most, rfl, p7, t0, tl, mo, fun H9 t b9 p9 tlen tsub => ?_⟩
      have t9 := p7.ts b9
      -- the end of a turn
      have fin : ∀ (H' : Hp) (u : Cs) (D : Ends), But p H H' → Pen H' p c (rest2 + 1) → H' l = some (.lst vs) → TvA H' vs (S.map dS) → H' l2 = some (.lst ws) → TvA H' ws (W.map dW) → u.length ≤ most → (∀ c ∈ u, c ∈ tells) →
          (∀ σ' H'', (∃ (W : List (Nat × Cs)) (ws : List V) (y10 y11 y12 : Option V), σ' = [some (.ref p), some (.str (tx reads)), some (.str (tx tells)), some (.int size), some (.int most), some (.int (1 + (N : Int))), some (.bl copies), some (.ref l), some (.int (0 + (k : Int))), some (.ref l2), y10, y11, y12] ∧
            But p H H'' ∧ Pen H'' p c rest2 ∧ H'' l = some (.lst vs) ∧ TvA H'' vs (S.map dS) ∧ H'' l2 = some (.lst ws) ∧ TvA H'' ws (W.map dW) ∧ W.length = j + 1 ∧ ∀ w ∈ W, w.1 < N + 1 ∧ w.2.length ≤ most ∧ ∀ c ∈ w.2, c ∈ tells) → D.nx σ' H'') →
          tDrop (tBM K "list" rAppN (tVar 9) (tCons (tTupN (tCons (tCall (sp_take K) [] E0 (tCons (tVar 0) (tCons (tVar 5) tNil))) (tCons (tVar 11) tNil))) tNil)) D
            [some (.ref p), some (.str (tx reads)), some (.str (tx tells)), some (.int size), some (.int most), some (.int (1 + (N : Int))), some (.bl copies), some (.ref l), some (.int (0 + (k : Int))), some (.ref l2), some (.str ⟨#[ch]⟩), some (.str (tx u)), y12] H' := by
        intro Ha u D ba pa ea ta fa ua hu1 hu2 hD
        refine ⟨_, rfl, .inl ⟨rfl, _, SqL.of fa⟩, ?_⟩
        refine ⟨_, rfl, ?_⟩; refine ⟨_, rfl, ?_⟩
        refine ⟨p, c, rest2, 1 + (N : Int), rfl, pa, by omega, by omega, fun Hb r bb pb r0 r1 => ?_⟩
        refine ⟨_, rfl, ?_⟩
        refine ⟨szS, fun a Hc nc sc ec => ?_⟩
        have tb := (pa.ts bb).trans (same_ts sc)
        have eb := sc _ _ (bb _ _ (Ne.symm dl2.1) fa)
        have hwl := ua.len
        rw [List.length_map, hW] at hwl
        refine ⟨l2, _, _, rfl, rfl, eb, by rw [sizeLine_eq]; omega, fun Hd bd ed => ?_⟩
        have td : TS Hc Hd := bd.ts eb
        obtain ⟨rn, rfl⟩ : ∃ rn : Nat, r = (rn : Int) := ⟨r.toNat, by omega⟩
        refine hD _ _ ⟨W ++ [(rn, u)], _, _, _, _, rfl, ?_, ?_, bd _ _ l12 (sc _ _ (bb _ _ (Ne.symm dl.1) ea)), ta.mv (tb.trans td), ed, ?_, by rw [List.length_append, hW]; rfl, fun w hw => ?_⟩
        · exact ((ba.trans bb).trans (same_but p sc)).chg b4 n6 bd
        · exact (pb.same sc).chg dl2 bd
        · rw [List.map_append]
          exact (ua.mv (tb.trans td)).snoc (Tv.mkW (td _ _ ec))
        · rcases List.mem_append.mp hw with h | h
          · exact vW w h
          · rw [List.mem_singleton.mp h]
            exact ⟨by show rn < N + 1; omega, hu1, hu2⟩
      have b09 := b7.trans b9
      have el9 := b9 _ _ (Ne.symm dl.1) e7
      have fl9 := b9 _ _ (Ne.symm dl2.1) f7
      have ta9 := t7.mv t9
      have ua9 := u7.mv t9
      have plain := fun D => fin H9 t D b09 (p9.less (by omega)) el9 ta9 fl9 ua9 tlen tsub
      refine ⟨_, rfl, ?_⟩; refine ⟨_, rfl, ?_⟩
      refine ite2 (fun _ => ?_) (fun _ => ?_)
      · refine ⟨_, rfl, ?_⟩; refine ⟨_, rfl, ?_⟩
        refine Or.inl ⟨ch, _, rfl, rfl, ?_⟩
        refine ⟨_, rfl, ?_⟩
        refine ite2 (fun hin => ?_) (fun _ => ?_)
        · refine ⟨_, rfl, ?_⟩
          refine ⟨p, c, rest2 + 1, 3, rfl, p9, by omega, by omega, fun Ha r ba pa r0 r1 => ?_⟩
          have ta := p9.ts ba
          (first | refine Or.inl ⟨_, _, rfl, rfl, ?_⟩ | refine ⟨_, _, rfl, rfl, ?_⟩); refine ⟨_, rfl, ?_⟩
          refine ite2 (fun _ => ?_) (fun _ => ?_)
          · refine ⟨_, rfl, ?_⟩
            exact fin Ha [ch] _ (b09.trans ba) pa (ba _ _ (Ne.symm dl.1) el9) (ta9.mv ta) (ba _ _ (Ne.symm dl2.1) fl9) (ua9.mv ta) mo0 (fun x hx => by rw [List.mem_singleton.mp hx]; exact of_decide_eq_true hin) (fun _ _ h => h)
          · exact fin Ha t _ (b09.trans ba) pa (ba _ _ (Ne.symm dl.1) el9) (ta9.mv ta) (ba _ _ (Ne.symm dl2.1) fl9) (ua9.mv ta) tlen tsub (fun _ _ h => h)
        · exact iteF (plain _ (fun _ _ h => h))
      · exact iteF (plain _ (fun _ _ h => h))
    · obtain ⟨W, ws, y10, y11, y12, rfl, b7, p7, e7, t7, f7, u7, hW, vW⟩ := pv
      rw [tx_size] at p7 hW
      rw [Nat.sub_self, Nat.zero_mul, Nat.add_zero] at p7
      refine ⟨_, rfl, ?_⟩; refine ⟨_, rfl, ?_⟩
      refine ⟨p, c, rest + 1, tells, 1, rfl, p7, t0, tl, by omega, fun H9 t b9 p9 tlen tsub => ?_⟩
      have t9 := p7.ts b9
      refine ⟨szS, fun l3 Ha na sa ea => ?_⟩
      have dl3 := p9.ne na
      refine ⟨_, rfl, ?_⟩
      refine ⟨p, c, rest, 5, rfl, p9.same sa, by omega, by omega, fun Hb r bb pb r0 r1 => ?_⟩
      have tb := (t9.trans (same_ts sa)).trans ((p9.same sa).ts bb)
      have b0b := ((b7.trans b9).trans (same_but p sa)).trans bb
      refine ⟨_, _, rfl, ?_⟩
      obtain ⟨v, hv, mv⟩ := at_of (xs := [V.str (tx t), V.str (("" : String) : Str), V.str (("" : String) : Str), V.non]) (min_in r0).1 (min_in r0).2
      refine Or.inl ⟨_, _, _, _, rfl, rfl, SqL.of (bb _ _ (Ne.symm dl3.1) ea), hv, ?_⟩
      obtain ⟨f, hf, vf⟩ := end_of (H := Hb) mv tlen tsub
      refine ⟨_, rfl, .inl ⟨rfl, _, SqL.of (bb _ _ (Ne.symm dl.1) (sa _ _ (b9 _ _ (Ne.symm dl.1) e7)))⟩, ?_⟩
      refine ⟨_, rfl, ?_⟩
      refine ⟨_, _, rfl, .inl ⟨SqL.of (bb _ _ (Ne.symm dl2.1) (sa _ _ (b9 _ _ (Ne.symm dl2.1) f7))), fun a Hc nc sc ec => ?_⟩⟩
      refine ⟨_, rfl, ?_⟩
      refine ⟨szS, fun b Hd nd sd ed => ?_⟩
      have scd := sc.trans sd
      have hvl := t7.len
      rw [List.length_map, hS] at hvl
      have eld := scd _ _ (bb _ _ (Ne.symm dl.1) (sa _ _ (b9 _ _ (Ne.symm dl.1) e7)))
      refine ⟨l, _, _, rfl, rfl, eld, by rw [sizeLine_eq]; omega, fun He be ee => ?_⟩
      have te : TS Hd He := be.ts eld
      have tall := (tb.trans (same_ts scd)).trans te
      refine ⟨S ++ [⟨W, f⟩], _, _, _, _, _, _, rfl, (b0b.trans (same_but p scd)).chg (b02.trans (But.refl p _)) n3 be, (pb.same scd).chg dl be, ee, ?_, by rw [List.length_append, hS]; rfl, fun s hs => ?_⟩
      · rw [List.map_append]
        refine (t7.mv tall).snoc (.tup (te _ _ ed) (.cons (.tup (te _ _ (sd _ _ ec)) (u7.mv tall)) (.cons ((hf.mv (same_ts scd)).mv te) .nil)))
      · rcases List.mem_append.mp hs with h | h
        · exact vS s h
        · rw [List.mem_singleton.mp h]
          exact ⟨hW, vW, vf⟩
  · obtain ⟨S, vs, y8, y9, y10, y11, y12, rfl, b4, p4, e4, t4, hS, vS⟩ := pv
    refine ⟨_, rfl, ?_⟩; refine ⟨_, rfl, ?_⟩; refine ⟨_, rfl, ?_⟩
    refine ⟨_, _, rfl, .inl ⟨SqL.of e4, fun a H5 n5 s5 e5 => ?_⟩⟩
    refine ⟨szS, fun b H6 n6 s6 e6 => ?_⟩
    have s56 := s5.trans s6
    refine q _ _ ⟨reads, tells, S⟩ (b4.trans (same_but p s56)) ((p4.same s56).less (by omega)) ?_ rfl rfl (by show S.length ≤ size; omega) ⟨by show 0 < S.length; omega, fun s hs => ?_⟩
    · exact .tup e6 (.cons (.str _) (.cons (.str _) (.cons (.tup (s6 _ _ e5) (t4.mv (same_ts s56))) .nil)))
    · have := vS s hs
      rw [← hS] at this
      exact this
end
end Kx

namespace Kx
open PySem PySem.Spec PyProof.Rows L2 Fo
section
variable {P : Program} {w : World} {K : PySem.W.Frag} {mg : Str → Option Value} {base : Heap}
def sp_same (n : Nat) : Sp := fun vs H Q _ => ∃ (x y : V) (d : PyData), vs = [x, y] ∧ Lv H x d ∧ Lv H y d ∧ SD n d ∧ ∀ H', Same H H' → Q (.bl true) H'
theorem ok_same_s {n : Nat} (T : Top K mg) (G__law_same : FnOk P w K mg base CX0 n T.f__law_same T.fd__law_same ["found", "due"] (sp_same n)) : FnOk P w K mg base CX0 (n + 1) T.f__law_same T.fd__law_same ["found", "due"] (sp_same (n + 1)) := by
  refine T.F__law_same.ok sc__law_same (fun vs H Q E h => ?_) (fun cdv A outer s H vs Q E hr h => ?_)
  · obtain ⟨x, y, d, rfl, _⟩ := h
    rfl
  obtain ⟨x, y, d, rfl, hx, hy, hd, q⟩ := h
  refine ⟨_, (pss_cons (ps_if (PW.pt (pw_or (pt_cmpR op_isN (pv 1) pe_non (nomark _)) (pw_or1 (pt_cmpR op_isN (pv 0) pe_non (nomark _))))) (pss_one (ps_ret (pe_and (pe_cmpR op_isN (pv 1) pe_non (nomark _)) (pe_one (pe_cmpR op_isN (pv 0) pe_non (nomark _)))))) pss_nil)
    (pss_cons (ps_if (PW.pt (pw_or (pt_val (pe_callB (kIsi K rfl) (by rfl) T.m_isinstance (by decide +kernel) (pa_cons (pv 1) (pa_cons (pe_bltn (v := .ty "bool") (by rfl) T.m_bool (by decide +kernel) rfl) pa_nil)))) (pw_or1 (pt_val (pe_callB (kIsi K rfl) (by rfl) T.m_isinstance (by decide +kernel) (pa_cons (pv 0) (pa_cons (pe_bltn (v := .ty "bool") (by rfl) T.m_bool (by decide +kernel) rfl) pa_nil))))))) (pss_one (ps_ret (pe_and (pe_callB (kIsi K rfl) (by rfl) T.m_isinstance (by decide +kernel) (pa_cons (pv 1) (pa_cons (pe_bltn (v := .ty "bool") (by rfl) T.m_bool (by decide +kernel) rfl) pa_nil))) (pe_and (pe_callB (kIsi K rfl) (by rfl) T.m_isinstance (by decide +kernel) (pa_cons (pv 0) (pa_cons (pe_bltn (v := .ty "bool") (by rfl) T.m_bool (by decide +kernel) rfl) pa_nil))) (pe_one (pe_cmpR (kEq K rfl hr.units) (pv 0) (pv 1) (nomark _))))))) pss_nil)
    (pss_cons (ps_if (pt_val (pe_callB (kIsi K rfl) (by rfl) T.m_isinstance (by decide +kernel) (pa_cons (pv 1) (pa_cons (pe_tupN (pa_cons (pe_bltn (v := .ty "int") (by rfl) T.m_int (by decide +kernel) rfl) (pa_cons (pe_bltn (v := .ty "str") (by rfl) T.m_str (by decide +kernel) rfl) pa_nil))) pa_nil)))) (pss_cons (ps_if (pt_cmpR (kNe K rfl hr.units) (pe_callB (kIsi K rfl) (by rfl) T.m_isinstance (by decide +kernel) (pa_cons (pv 0) (pa_cons (pe_bltn (v := .ty "int") (by rfl) T.m_int (by decide +kernel) rfl) pa_nil))) (pe_callB (kIsi K rfl) (by rfl) T.m_isinstance (by decide +kernel) (pa_cons (pv 1) (pa_cons (pe_bltn (v := .ty "int") (by rfl) T.m_int (by decide +kernel) rfl) pa_nil))) (nomark _)) (pss_one (ps_ret pe_bl)) pss_nil)
    (pss_one (ps_ret (pe_and (pe_callB (kIsi K rfl) (by rfl) T.m_isinstance (by decide +kernel) (pa_cons (pv 0) (pa_cons (pe_tupN (pa_cons (pe_bltn (v := .ty "int") (by rfl) T.m_int (by decide +kernel) rfl) (pa_cons (pe_bltn (v := .ty "str") (by rfl) T.m_str (by decide +kernel) rfl) pa_nil))) pa_nil))) (pe_one (pe_cmpR (kEq K rfl hr.units) (pv 0) (pv 1) (nomark _))))))) pss_nil)
    (pss_cons (ps_if (PW.pt (pw_or (pt_cmpR (kNe K rfl hr.units) (pe_callB (kIsi K rfl) (by rfl) T.m_isinstance (by decide +kernel) (pa_cons (pv 1) (pa_cons (pe_bltn (v := .ty "tuple") (by rfl) T.m_tuple (by decide +kernel) rfl) pa_nil))) (pe_callB (kIsi K rfl) (by rfl) T.m_isinstance (by decide +kernel) (pa_cons (pv 0) (pa_cons (pe_bltn (v := .ty "tuple") (by rfl) T.m_tuple (by decide +kernel) rfl) pa_nil))) (nomark _)) (pw_or1 (pt_cmpR (kNe K rfl hr.units) (pe_callB (kIsi K rfl) (by rfl) T.m_isinstance (by decide +kernel) (pa_cons (pv 1) (pa_cons (pe_bltn (v := .ty "list") (by rfl) T.m_list (by decide +kernel) rfl) pa_nil))) (pe_callB (kIsi K rfl) (by rfl) T.m_isinstance (by decide +kernel) (pa_cons (pv 0) (pa_cons (pe_bltn (v := .ty "list") (by rfl) T.m_list (by decide +kernel) rfl) pa_nil))) (nomark _))))) (pss_one (ps_ret pe_bl)) pss_nil)
    (pss_cons (ps_if (pt_cmpR (kNe K rfl hr.units) (pe_callB (kLen K rfl) (by rfl) T.m_len PySem.boot_len (pa_cons (pv 0) pa_nil)) (pe_callB (kLen K rfl) (by rfl) T.m_len PySem.boot_len (pa_cons (pv 1) pa_nil)) (nomark _)) (pss_one (ps_ret pe_bl)) pss_nil)
    (pss_one (ps_ret (pe_cmpR (kNin K rfl) pe_bl (pe_lc (own := [("one", 2), ("other", 3)]) (tt := tYes) rfl sc__law_same.nd (RZ.pi_zipA (by rfl) T.m_zip (pa_cons (pv 0) (pa_cons (pv 1) pa_nil))) (blkOk_by (N := ["found", "due", "one", "other"]) (sc := defScope s__law_same) (by decide +kernel)) (fun _ _ _ _ _ => (kTg K rfl (n := 2) rfl (pgs_cons (pg_name (i := 2) sc__law_same.nd rfl (Or.inl rfl)) (pgs_cons (pg_name (i := 3) sc__law_same.nd rfl (Or.inl rfl)) pgs_nil)))) (fun _ _ _ _ _ => pts_nil) (fun _ _ _ _ _ => (pe_call G__law_same (hr.mono (by first | decide | omega)) (by rfl) T.g__law_same T.F__law_same.kp T.b__law_same .nil pass0 (pa_cons (pv 2) (pa_cons (pv 3) pa_nil))))) rfl)))))))), ?_⟩
  cases d with
  | none =>
    cases hx; cases hy
    refine ⟨_, rfl, rfl, _, rfl, ?_⟩; refine iteT ?_
    refine ⟨_, rfl, rfl, _, rfl, iteT ⟨_, rfl, rfl, ?_⟩⟩
    exact q _ (Same.refl _)
  | bool b =>
    cases hx; cases hy
    refine ⟨_, rfl, rfl, _, rfl, ?_⟩; refine iteF ?_; refine ⟨_, rfl, rfl, _, rfl, ?_⟩; refine iteF ?_
    refine ⟨_, rfl, isi1 (.base (.bl b)) (by decide +kernel) ⟨_, rfl, iteT ?_⟩⟩
    refine ⟨_, rfl, isi1 (.base (.bl b)) (by decide +kernel) ⟨_, rfl, iteT ?_⟩⟩
    refine ⟨_, rfl, isi1 (.base (.bl b)) (by decide +kernel) ⟨_, rfl, iteT ?_⟩⟩
    refine ⟨_, rfl, _, rfl, .inl ⟨rfl, ?_⟩⟩
    rw [decide_eq_true rfl]
    exact q _ (Same.refl _)
  | int i =>
    cases hx; cases hy
    refine ⟨_, rfl, rfl, _, rfl, ?_⟩; refine iteF ?_; refine ⟨_, rfl, rfl, _, rfl, ?_⟩; refine iteF ?_
    refine ⟨_, rfl, isi1 (.base (.int i)) (by decide +kernel) ⟨_, rfl, iteF ?_⟩⟩
    refine ⟨_, rfl, isi1 (.base (.int i)) (by decide +kernel) ⟨_, rfl, iteF ?_⟩⟩
    refine ⟨_, rfl, szS, fun tp H1 n1 s1 e1 => isi2 (b := true) (b' := false) e1 (.base (.int i)) (by decide +kernel) (by decide +kernel) ⟨_, rfl, iteT ?_⟩⟩
    refine ⟨_, rfl, isi1 (b := true) (.base (.int i)) (by decide +kernel) ?_⟩
    refine ⟨_, rfl, isi1 (b := true) (.base (.int i)) (by decide +kernel) ?_⟩
    refine .inl ⟨rfl, _, rfl, iteF ?_⟩
    refine ⟨_, rfl, szS, fun tp2 H2 n2 s2 e2 => isi2 (b := true) (b' := false) e2 (.base (.int i)) (by decide +kernel) (by decide +kernel) ⟨_, rfl, iteT ?_⟩⟩
    refine ⟨_, rfl, _, rfl, .inl ⟨rfl, ?_⟩⟩
    rw [decide_eq_true rfl]
    exact q _ (s1.trans s2)
  | str z =>
    cases hx; cases hy
    refine ⟨_, rfl, rfl, _, rfl, ?_⟩; refine iteF ?_; refine ⟨_, rfl, rfl, _, rfl, ?_⟩; refine iteF ?_
    refine ⟨_, rfl, isi1 (.base (.str z)) (by decide +kernel) ⟨_, rfl, iteF ?_⟩⟩
    refine ⟨_, rfl, isi1 (.base (.str z)) (by decide +kernel) ⟨_, rfl, iteF ?_⟩⟩
    refine ⟨_, rfl, szS, fun tp H1 n1 s1 e1 => isi2 (b := false) (b' := true) e1 (.base (.str z)) (by decide +kernel) (by decide +kernel) ⟨_, rfl, iteT ?_⟩⟩
    refine ⟨_, rfl, isi1 (b := false) (.base (.str z)) (by decide +kernel) ?_⟩
    refine ⟨_, rfl, isi1 (b := false) (.base (.str z)) (by decide +kernel) ?_⟩
    refine .inl ⟨rfl, _, rfl, iteF ?_⟩
    refine ⟨_, rfl, szS, fun tp2 H2 n2 s2 e2 => isi2 (b := false) (b' := true) e2 (.base (.str z)) (by decide +kernel) (by decide +kernel) ⟨_, rfl, iteT ?_⟩⟩
    refine ⟨_, rfl, _, rfl, .inl ⟨rfl, ?_⟩⟩
    rw [decide_eq_true rfl]
    exact q _ (s1.trans s2)
  | dict _ => exact hd.elim
  | tuple ds =>
    cases hx with
    | @tup a xs _ a1 a2 =>
    cases hy with
    | @tup b ys _ b1 b2 =>
    refine ⟨_, rfl, rfl, _, rfl, ?_⟩; refine iteF ?_; refine ⟨_, rfl, rfl, _, rfl, ?_⟩; refine iteF ?_
    refine ⟨_, rfl, isi1 (.base (.tup b1)) (by decide +kernel) ⟨_, rfl, iteF ?_⟩⟩
    refine ⟨_, rfl, isi1 (.base (.tup a1)) (by decide +kernel) ⟨_, rfl, iteF ?_⟩⟩
    refine ⟨_, rfl, szS, fun tp H1 n1 s1 e1 => isi2 (b := false) (b' := false) e1 (.base (.tup (s1 _ _ b1))) (by decide +kernel) (by decide +kernel) ⟨_, rfl, iteF ?_⟩⟩
    have a1' := s1 _ _ a1
    have b1' := s1 _ _ b1
    refine ⟨_, rfl, isi1 (b := true) (.base (.tup b1')) (by decide +kernel) ?_⟩
    refine ⟨_, rfl, isi1 (b := true) (.base (.tup a1')) (by decide +kernel) ?_⟩
    refine .inl ⟨rfl, _, rfl, iteF ?_⟩
    refine ⟨_, rfl, isi1 (b := false) (.base (.tup b1')) (by decide +kernel) ?_⟩
    refine ⟨_, rfl, isi1 (b := false) (.base (.tup a1')) (by decide +kernel) ?_⟩
    refine .inl ⟨rfl, _, rfl, iteF ?_⟩
    refine ⟨_, rfl, _, ds.length, rfl, .inr ⟨_, SqT.of a1', a2.len.symm⟩, ?_⟩
    refine ⟨_, rfl, _, ds.length, rfl, .inr ⟨_, SqT.of b1', b2.len.symm⟩, ?_⟩
    refine .inl ⟨rfl, _, rfl, ?_⟩
    rw [decide_eq_true rfl]
    refine iteF ?_
    refine ⟨_, rfl, _, rfl, _, _, _, _, rfl, .inr ⟨SqT.of a1', SqT.of b1', fun D hD => ?_⟩⟩
    refine lcN0 (walkPair (walk_zipT (xs := xs) (ys := ys) (n := ds.length) (by rw [a2.len, b2.len, Nat.min_self]))) hD (fun i acc H' => Same H1 H' ∧ acc = List.replicate i (.bl true))
      (fun H2 s2 e2 => ⟨s2, rfl⟩) (fun _ _ _ _ p => ⟨SqT.of (p.1 _ _ a1'), SqT.of (p.1 _ _ b1')⟩) (fun i x acc H2 H3 hi hl pv eD y => ?_) (fun acc H2 hl pv eD => ?_)
    · obtain ⟨s2, rfl⟩ := pv
      obtain ⟨U, x1, x2, rfl, s3, eU, ex1, ex2⟩ := y
      have sm := (s1.trans s2).trans s3
      obtain ⟨d, hd1, lx⟩ := (LvA.sm sm _ _ a2).at ex1
      obtain ⟨d', hd2, ly⟩ := (LvA.sm sm _ _ b2).at ex2
      cases hd1.symm.trans hd2
      refine ⟨U, _, rfl, SqT.of eU, rfl, _, _, rfl, _, _, rfl, rfl, rfl, ?_⟩
      refine ⟨_, rfl, ?_⟩; refine ⟨_, rfl, ?_⟩
      refine ⟨x1, x2, d, rfl, lx, ly, hd.2 _ (List.mem_of_getElem? hd1), fun H4 s4 => ?_⟩
      have := hd.1
      refine lcNext (s4 _ _ (s3 _ _ eD)) hl (by omega) (fun H5 b5 e5 => ⟨?_, by rw [← List.replicate_append_replicate (n := i) (m := 1)]; rfl⟩)
      exact same_chg ((s2.trans s3).trans s4) (Same.refl _) hD b5
    · obtain ⟨s2, rfl⟩ := pv
      refine .inr ⟨_, _, rfl, .inl (SqL.of eD), rfl, flat_true _, ?_⟩
      rw [notin_true]
      exact q _ (s1.trans s2)
  | list ds =>
    cases hx with
    | @lst a xs _ a1 a2 =>
    cases hy with
    | @lst b ys _ b1 b2 =>
    refine ⟨_, rfl, rfl, _, rfl, ?_⟩; refine iteF ?_; refine ⟨_, rfl, rfl, _, rfl, ?_⟩; refine iteF ?_
    refine ⟨_, rfl, isi1 (.base (.lst b1)) (by decide +kernel) ⟨_, rfl, iteF ?_⟩⟩
    refine ⟨_, rfl, isi1 (.base (.lst a1)) (by decide +kernel) ⟨_, rfl, iteF ?_⟩⟩
    refine ⟨_, rfl, szS, fun tp H1 n1 s1 e1 => isi2 (b := false) (b' := false) e1 (.base (.lst (s1 _ _ b1))) (by decide +kernel) (by decide +kernel) ⟨_, rfl, iteF ?_⟩⟩
    have a1' := s1 _ _ a1
    have b1' := s1 _ _ b1
    refine ⟨_, rfl, isi1 (b := false) (.base (.lst b1')) (by decide +kernel) ?_⟩
    refine ⟨_, rfl, isi1 (b := false) (.base (.lst a1')) (by decide +kernel) ?_⟩
    refine .inl ⟨rfl, _, rfl, iteF ?_⟩
    refine ⟨_, rfl, isi1 (b := true) (.base (.lst b1')) (by decide +kernel) ?_⟩
    refine ⟨_, rfl, isi1 (b := true) (.base (.lst a1')) (by decide +kernel) ?_⟩
    refine .inl ⟨rfl, _, rfl, iteF ?_⟩
    refine ⟨_, rfl, _, ds.length, rfl, .inl ⟨_, SqL.of a1', a2.len.symm⟩, ?_⟩
    refine ⟨_, rfl, _, ds.length, rfl, .inl ⟨_, SqL.of b1', b2.len.symm⟩, ?_⟩
    refine .inl ⟨rfl, _, rfl, ?_⟩
    rw [decide_eq_true rfl]
    refine iteF ?_
    refine ⟨_, rfl, _, rfl, _, _, _, _, rfl, .inl ⟨SqL.of a1', SqL.of b1', fun D hD => ?_⟩⟩
    refine lcN0 (walkPair (walk_zip (xs := xs) (ys := ys) (n := ds.length) (by rw [a2.len, b2.len, Nat.min_self]))) hD (fun i acc H' => Same H1 H' ∧ acc = List.replicate i (.bl true))
      (fun H2 s2 e2 => ⟨s2, rfl⟩) (fun _ _ _ _ p => ⟨SqL.of (p.1 _ _ a1'), SqL.of (p.1 _ _ b1')⟩) (fun i x acc H2 H3 hi hl pv eD y => ?_) (fun acc H2 hl pv eD => ?_)
    · obtain ⟨s2, rfl⟩ := pv
      obtain ⟨U, x1, x2, rfl, s3, eU, ex1, ex2⟩ := y
      have sm := (s1.trans s2).trans s3
      obtain ⟨d, hd1, lx⟩ := (LvA.sm sm _ _ a2).at ex1
      obtain ⟨d', hd2, ly⟩ := (LvA.sm sm _ _ b2).at ex2
      cases hd1.symm.trans hd2
      refine ⟨U, _, rfl, SqT.of eU, rfl, _, _, rfl, _, _, rfl, rfl, rfl, ?_⟩
      refine ⟨_, rfl, ?_⟩; refine ⟨_, rfl, ?_⟩
      refine ⟨x1, x2, d, rfl, lx, ly, hd.2 _ (List.mem_of_getElem? hd1), fun H4 s4 => ?_⟩
      have := hd.1
      refine lcNext (s4 _ _ (s3 _ _ eD)) hl (by omega) (fun H5 b5 e5 => ⟨?_, by rw [← List.replicate_append_replicate (n := i) (m := 1)]; rfl⟩)
      exact same_chg ((s2.trans s3).trans s4) (Same.refl _) hD b5
    · obtain ⟨s2, rfl⟩ := pv
      refine .inr ⟨_, _, rfl, .inl (SqL.of eD), rfl, flat_true _, ?_⟩
      rw [notin_true]
      exact q _ (s1.trans s2)
theorem ok_same (T : Top K mg) : ∀ n, FnOk P w K mg base CX0 n T.f__law_same T.fd__law_same ["found", "due"] (sp_same n)
  | 0 => by
    have no : ∀ vs H Q E, ¬ sp_same 0 vs H Q E := fun vs H Q E h => by
      obtain ⟨_, _, _, _, _, _, h, _⟩ := h
      exact h
    exact ⟨fun vs H Q E h => absurd h (no vs H Q E), fun A outer s H args us vs Q E _ _ _ _ h => absurd h (no vs H Q E)⟩
  | n + 1 => ok_same_s T (ok_same T n)
end
end Kx

namespace Kx
open PySem PySem.Spec PyProof.Rows L2 Fo
section
variable {P : Program} {w : World} {K : PySem.W.Frag} {mg : Str → Option Value} {base : Heap}
theorem read_of {rs : List Rdr} {i L : Nat} {t : Cs} {r : Rdr} {s : Nat} (R : Row rs) (h : Tx rs i L t) (hr : rs[i]? = some r) (hi : i ≤ 3) (hL : L ≤ 1000) (hs : s < r.states.length) : Read r 3 t s := by
  have := h.few hi hL
  exact ⟨(R.val r (List.mem_of_getElem? hr)).ok (by decide) (by decide), hs, h.sub r hr, by omega, by omega, by decide⟩
def sp_row_on : Sp := fun vs H Q _ => ∃ (v y : V) (rs : List Rdr) (ss : List Nat) (l : Cs) (L : Nat), vs = [v, .str (tx l), y] ∧ Tv H v (dRow rs) ∧ Row rs ∧ Tx rs 0 L l ∧ L ≤ 1000 ∧ Seats rs ss ∧ ((y = .non ∧ ss = List.replicate rs.length 0) ∨ ∃ a, y = .ref a ∧ Tv H y (dSeats ss)) ∧ Ret (dOn (rowOn rs ss l)) H Q
theorem ok_row_on (T : Top K mg) : FnOk P w K mg base CX0 2 T.f_row_on T.fd_row_on ["row", "text", "states"] sp_row_on := by
  have G_read_on := ok_read_on (P := P) (w := w) (base := base) T
  refine T.F_row_on.ok sc_row_on (fun vs H Q E h => ?_) (fun cdv A outer s H vs Q E hr h => ?_)
  · obtain ⟨v, y, rs, ss, l, L, rfl, _⟩ := h
    rfl
  obtain ⟨v, y, rs, ss, l, L, rfl, hv, R, T0, hL, S, hy, q⟩ := h
  obtain ⟨a, xs, rfl, ha, hX⟩ := hv.dRow
  have hxl : xs.length = rs.length := by rw [hX.len, List.length_map]
  refine ⟨_, PSs.nox (pss_cons (ps_set (i := 3) sc_row_on.nd rfl (Or.inl rfl) (pe_ifExp (pt_cmpR op_isN (pv 2) pe_non (nomark _)) (pe_op op_mulT (pe_tupN (pa_cons pe_int pa_nil)) (pe_callB (kLen K rfl) (by rfl) T.m_len PySem.boot_len (pa_cons (pv 0) pa_nil))) (pv 2)))
    (pss_cons (ps_set (i := 4) sc_row_on.nd rfl (Or.inl rfl) (pe_lstN pa_nil))
    (pss_cons (ps_set (i := 5) sc_row_on.nd rfl (Or.inl rfl) (pv 1))
    (pss_cons (ps_for PassesOwn.never rfl (RZ.pi_zipA (by rfl) T.m_zip (pa_cons (pv 0) (pa_cons (pv 3) pa_nil))) (kTg K rfl (n := 2) rfl (pgs_cons (pg_name (i := 6) sc_row_on.nd rfl (Or.inl rfl)) (pgs_cons (pg_name (i := 7) sc_row_on.nd rfl (Or.inl rfl)) pgs_nil))) (pss_cons (ps_asg (pe_callN G_read_on (hr.mono (by decide)) (by rfl) T.g_read_on T.F_read_on.kp T.kb_read_on pass0 (pa_cons (pv 6) (pa_cons (pv 5) pa_nil)) (pk_cons (pv 7) pk_nil)) (kTg K rfl (n := 2) rfl (pgs_cons (pg_name (i := 8) sc_row_on.nd rfl (Or.inl rfl)) (pgs_cons (pg_name (i := 5) sc_row_on.nd rfl (Or.inl rfl)) pgs_nil))))
    (pss_one (ps_expr (kBm K rfl (pe_bm PySem.F.plainAttrs_list PySem.F.slot_list_append PySem.F.type_list_append mt_appN (pv 4) (pa_cons (pv 8) pa_nil)))))))
    (pss_one (ps_ret (pe_tupN (pa_cons (pe_callTy (kTuple K rfl) (by rfl) T.m_tuple (by decide +kernel) (pa_cons (pv 4) pa_nil)) (pa_cons (pv 5) pa_nil))))))))), ?_⟩
  have froms : ∀ Rest : V → Hp → Prop, (∀ fa H1, Same H H1 → H1 fa = some (.tup (ss.map fun s : Nat => V.int (s : Int))) → Rest (.ref fa) H1) →
      (tIf (tTest (tOp (fun x y H Q => y = V.non ∧ Q (V.bl (decide (x = V.non))) H) (tVar 2) (tC V.non)))
        (tOp rMulT (tTupN (tCons (tC (V.int 0)) tNil)) (tCB (rLenN K) (tCons (tVar 0) tNil))) (tVar 2)) [some (.ref a), some (.str (tx l)), some y, none, none, none, none, none, none] H Rest := by
    intro Rest k
    rcases hy with ⟨rfl, rfl⟩ | ⟨b, rfl, ty⟩
    · refine ⟨_, rfl, ?_⟩; refine ⟨rfl, _, rfl, iteT ?_⟩
      refine ⟨szS, fun t H1 n1 s1 e1 => ?_⟩
      refine ⟨_, rfl, ?_⟩
      refine ⟨_, _, rfl, .inr ⟨_, SqT.of (s1 _ _ ha), rfl⟩, ?_⟩
      have := R.ne
      have := R.few
      refine ⟨t, _, _, rfl, rfl, e1, by simp, by omega, by omega, by decide, fun p H2 s2 e2 => k p H2 (s1.trans s2) ?_⟩
      rw [e2, hxl, Int.toNat_natCast, List.map_replicate]
      congr 2
      generalize rs.length = m
      induction m with
      | zero => rfl
      | succ m ih => rw [List.replicate_succ, List.replicate_succ, List.flatten_cons, ih]; rfl
    · refine ⟨_, rfl, ?_⟩; refine ⟨rfl, _, rfl, iteF ?_⟩
      refine ⟨_, rfl, ?_⟩
      obtain ⟨b', ys, e, hb, hB⟩ := ty.tupI
      cases e
      rw [seats_ints hB] at hb
      exact k b H (Same.refl _) hb
  refine froms _ (fun fa H1 s1 hf => ?_)
  refine ⟨szS, fun bl H2 n2 s2 e2 => ?_⟩
  have s02 := s1.trans s2
  have nb : H bl = none := s1.free n2
  refine ⟨_, rfl, ?_⟩; refine ⟨_, rfl, ?_⟩; refine ⟨_, rfl, ?_⟩
  refine ⟨_, _, _, _, rfl, .inr ⟨SqT.of (s02 _ _ ha), SqT.of (s2 _ _ hf), ?_⟩⟩
  have hn : rs.length = min xs.length (ss.map fun s : Nat => V.int (s : Int)).length := by rw [List.length_map, hxl, S.len, Nat.min_self]
  refine for_it (walkPair (walk_zipT hn)) (fun i σ H' => ∃ y6 y7 y8, σ = [some (.ref a), some (.str (tx l)), some y, some (.ref fa), some (.ref bl), some (.str (tx (rowOn (rs.take i) (ss.take i) l).2)), y6, y7, y8] ∧ Same H H' ∧ H' fa = some (.tup (ss.map fun s : Nat => V.int (s : Int))) ∧
      H' bl = some (.lst ((rowOn (rs.take i) (ss.take i) l).1.map fun s : Nat => V.int (s : Int)))) ⟨none, none, none, rfl, s02, s2 _ _ hf, e2⟩ (fun i σ H' _ p => ?_) (fun i x σ H3 H4 hi p y => ?_) (fun σ H3 p => ?_)
  · obtain ⟨_, _, _, _, s3, f3, _⟩ := p
    exact ⟨SqT.of (s3 _ _ ha), SqT.of f3⟩
  · obtain ⟨y6, y7, y8, rfl, s3, f3, e3⟩ := p
    obtain ⟨U, x1, x2, rfl, s4, eU, ex1, ex2⟩ := y
    have er : rs[i]? = some (rs[i]'hi) := List.getElem?_eq_getElem hi
    have es : ss[i]? = some (ss[i]'(by rw [S.len]; exact hi)) := List.getElem?_eq_getElem (by rw [S.len]; exact hi)
    generalize rs[i]'hi = r at er
    generalize ss[i]'(by rw [S.len]; exact hi) = st at es
    have hs := S.at_ i _ _ er es
    obtain ⟨x, hx1, hx2⟩ := dR_at (hX.mv (same_ts (s3.trans s4))) er
    have ex1' : xs[i]? = some x1 := ex1
    rw [ex1'] at hx1
    cases hx1
    have ex2' : (ss.map fun s : Nat => V.int (s : Int))[i]? = some x2 := ex2
    rw [List.getElem?_map, es] at ex2'
    cases ex2'
    obtain ⟨q1, q2, q3⟩ := rowOn_seats R S T0 i (by omega)
    have few := R.few
    have R1 := read_of R q3 er (by omega) hL hs
    refine ⟨U, _, rfl, SqT.of eU, rfl, _, _, rfl, _, _, rfl, rfl, ?_⟩
    refine ⟨_, rfl, ?_⟩; refine ⟨_, rfl, ?_⟩; refine ⟨_, rfl, ?_⟩
    refine ⟨rfl, rfl, x1, r, 3, _, st, rfl, hx2, R1, fun z H5 s5 tz => ?_⟩
    obtain ⟨b, rfl, hb⟩ := tz.dW
    refine ⟨b, _, rfl, SqT.of hb, rfl, _, _, rfl, _, _, rfl, rfl, ?_⟩
    have s45 := s4.trans s5
    have e5 := s45 _ _ e3
    refine ⟨_, rfl, .inl ⟨rfl, _, SqL.of e5⟩, ?_⟩
    refine ⟨_, rfl, ?_⟩
    refine ⟨bl, _, _, rfl, rfl, e5, by rw [List.length_map, q1, sizeLine_eq]; omega, fun H6 b6 e6 => ?_⟩
    refine ⟨some x1, some (.int (st : Int)), some (.int ((r.run st (rowOn (rs.take i) (ss.take i) l).2).1 : Nat)), ?_, same_chg (s3.trans s45) (Same.refl _) nb b6, b6 _ _ (ne_of (s45 _ _ f3) e5 (by intro z; cases z)) (s45 _ _ f3), ?_⟩
    · rw [rowOn_snoc rs ss i l r st er es]
      rfl
    · rw [e6, rowOn_snoc rs ss i l r st er es, List.map_append]
      rfl
  · obtain ⟨y6, y7, y8, rfl, s3, f3, e3⟩ := p
    rw [List.take_length, ← S.len, List.take_length] at e3 ⊢
    refine ⟨_, rfl, ?_⟩
    refine ⟨_, _, rfl, .inl ⟨SqL.of e3, fun p H4 n4 s4 e4 => ?_⟩⟩
    refine ⟨_, rfl, ?_⟩
    refine ⟨szS, fun p2 H5 n5 s5 e5 => ?_⟩
    exact q _ _ ((s3.trans s4).trans s5) (.tup e5 (.cons (Tv.mkSeats (s5 _ _ e4)) (.cons (.str _) .nil)))
def sp_row_end : Sp := fun vs H Q _ => ∃ (v y : V) (rs : List Rdr) (ss : List Nat), vs = [v, y] ∧ Tv H v (dRow rs) ∧ Row rs ∧ Tv H y (dSeats ss) ∧ Seats rs ss ∧ Ret (dO (rowEnd rs ss [])) H Q
theorem ok_row_end (T : Top K mg) : FnOk P w K mg base CX0 2 T.f_row_end T.fd_row_end ["row", "states"] sp_row_end := by
  have G_read_on := ok_read_on (P := P) (w := w) (base := base) T
  refine T.F_row_end.ok sc_row_end (fun vs H Q E h => ?_) (fun cdv A outer s H vs Q E hr h => ?_)
  · obtain ⟨v, y, rs, ss, rfl, _⟩ := h
    rfl
  obtain ⟨v, y, rs, ss, rfl, hv, R, hy, S, q⟩ := h
  obtain ⟨a, xs, rfl, ha, hX⟩ := hv.dRow
  obtain ⟨fa, ys, rfl, hf, hY⟩ := hy.tupI
  rw [seats_ints hY] at hf
  have hxl : xs.length = rs.length := by rw [hX.len, List.length_map]
  refine ⟨_, (pss_cons (ps_set (i := 2) sc_row_end.nd rfl (Or.inl rfl) pe_str)
    (pss_cons (ps_for PassesOwn.never rfl (RZ.pi_zipA (by rfl) T.m_zip (pa_cons (pv 0) (pa_cons (pv 1) pa_nil))) (kTg K rfl (n := 2) rfl (pgs_cons (pg_name (i := 3) sc_row_end.nd rfl (Or.inl rfl)) (pgs_cons (pg_name (i := 4) sc_row_end.nd rfl (Or.inl rfl)) pgs_nil))) (pss_cons (ps_asg (pe_callN G_read_on (hr.mono (by decide)) (by rfl) T.g_read_on T.F_read_on.kp T.kb_read_on pass0 (pa_cons (pv 3) (pa_cons (pv 2) pa_nil)) (pk_cons (pv 4) pk_nil)) (kTg K rfl (n := 2) rfl (pgs_cons (pg_name (i := 5) sc_row_end.nd rfl (Or.inl rfl)) (pgs_cons (pg_name (i := 6) sc_row_end.nd rfl (Or.inl rfl)) pgs_nil))))
    (pss_cons (ps_set (i := 7) sc_row_end.nd rfl (Or.inl rfl) (pe_ix (kIx K rfl) (pe_ix (kIx K rfl) (pe_ix (kIx K rfl) (pv 3) pe_int (fun _ _ => rfl)) (pv 5) (fun _ _ => rfl)) pe_int (fun _ _ => rfl)))
    (pss_cons (ps_if (pt_cmpR op_isN (pv 7) pe_non (nomark _)) (pss_one (ps_ret pe_non)) pss_nil)
    (pss_one (ps_set (i := 2) sc_row_end.nd rfl (Or.inl rfl) (pe_op op_addG (pv 6) (pv 7))))))))
    (pss_one (ps_ret (pv 2))))), ?_⟩
  refine ⟨_, rfl, ?_⟩; refine ⟨_, rfl, ?_⟩
  refine ⟨_, _, _, _, rfl, .inr ⟨SqT.of ha, SqT.of hf, ?_⟩⟩
  have hn : rs.length = min xs.length (ss.map fun s : Nat => V.int (s : Int)).length := by rw [List.length_map, hxl, S.len, Nat.min_self]
  refine for_it (walkPair (walk_zipT hn)) (fun i σ H' => ∃ t y3 y4 y5 y6 y7, σ = [some (.ref a), some (.ref fa), some (.str (tx t)), y3, y4, y5, y6, y7] ∧ Same H H' ∧ Tx rs i 0 t ∧ rowEnd rs ss [] = rowEnd (rs.drop i) (ss.drop i) t)
    ⟨[], none, none, none, none, none, by rw [← tx_nil]; rfl, Same.refl _, Tx.nil, rfl⟩ (fun i σ H' _ p => ?_) (fun i x σ H3 H4 hi p y => ?_) (fun σ H3 p => ?_)
  · obtain ⟨_, _, _, _, _, _, _, s3, _⟩ := p
    exact ⟨SqT.of (s3 _ _ ha), SqT.of (s3 _ _ hf)⟩
  · obtain ⟨t, y3, y4, y5, y6, y7, rfl, s3, T3, e3⟩ := p
    obtain ⟨U, x1, x2, rfl, s4, eU, ex1, ex2⟩ := y
    have er : rs[i]? = some (rs[i]'hi) := List.getElem?_eq_getElem hi
    have es : ss[i]? = some (ss[i]'(by rw [S.len]; exact hi)) := List.getElem?_eq_getElem (by rw [S.len]; exact hi)
    generalize rs[i]'hi = r at er
    generalize ss[i]'(by rw [S.len]; exact hi) = st at es
    have hs := S.at_ i _ _ er es
    have s34 := s3.trans s4
    obtain ⟨x, hx1, hx2⟩ := dR_at (hX.mv (same_ts s34)) er
    have ex1' : xs[i]? = some x1 := ex1
    rw [ex1'] at hx1
    cases hx1
    have ex2' : (ss.map fun s : Nat => V.int (s : Int))[i]? = some x2 := ex2
    rw [List.getElem?_map, es] at ex2'
    cases ex2'
    have few := R.few
    have R1 := read_of R T3 er (by omega) (by decide) hs
    have stp := rowEnd_step t er es
    have ro := Rdr.run_ok R1.ok t st hs R1.sub
    refine ⟨U, _, rfl, SqT.of eU, rfl, _, _, rfl, _, _, rfl, rfl, ?_⟩
    refine ⟨_, rfl, ?_⟩; refine ⟨_, rfl, ?_⟩; refine ⟨_, rfl, ?_⟩
    refine ⟨rfl, rfl, x1, r, 3, _, st, rfl, hx2, R1, fun z H5 s5 tz => ?_⟩
    obtain ⟨b, rfl, hb⟩ := tz.dW
    refine ⟨b, _, rfl, SqT.of hb, rfl, _, _, rfl, _, _, rfl, rfl, ?_⟩
    obtain ⟨ra, rss, rxs, rfl, hra, hrs, hrX⟩ := hx2.dR
    obtain ⟨z1, hz1, tz1⟩ := dS_at (hrX.mv (same_ts s5)) ro.1
    obtain ⟨b1, ws, wys, e, rfl, hb1, hws, hW, he⟩ := tz1.dS
    refine ⟨_, rfl, ?_⟩; refine Or.inr (Or.inl ⟨_, _, _, _, rfl, rfl, SqT.of (s5 _ _ hra), rfl, ?_⟩); refine ⟨_, rfl, ?_⟩; refine Or.inr (Or.inl ⟨_, _, _, _, rfl, rfl, SqT.of (s5 _ _ hrs), (atI_nat hz1), ?_⟩); refine Or.inr (Or.inl ⟨_, _, _, _, rfl, rfl, SqT.of hb1, rfl, ?_⟩)
    refine ⟨_, rfl, ?_⟩; refine ⟨rfl, _, rfl, ?_⟩
    cases hfin : (r.sta (r.run st t).1).fin with
    | none =>
      rw [hfin] at he stp
      have e0 := he.nonI
      subst e0
      refine iteT ?_
      refine q _ _ (s34.trans s5) ?_
      rw [e3, stp]
      exact .non
    | some u =>
      rw [hfin] at he stp
      have e0 := he.strI
      subst e0
      have T4 := T3.fin R er hs hfin
      have few4 := T4.few (by omega) (by decide)
      rw [List.length_append] at few4
      refine iteF ?_
      refine ⟨_, rfl, ?_⟩; refine ⟨_, rfl, ?_⟩
      refine Or.inr (Or.inl ⟨_, _, rfl, rfl, ?_, ?_⟩)
      · rw [tx_len, tx_len, sizeLine_eq]
        omega
      · rw [tx_app]
        exact ⟨_, _, _, _, _, _, rfl, s34.trans s5, T4, e3.trans stp⟩
  · obtain ⟨t, y3, y4, y5, y6, y7, rfl, s3, T3, e3⟩ := p
    rw [List.drop_length, ← S.len, List.drop_length] at e3
    refine ⟨_, rfl, ?_⟩
    refine q _ _ s3 ?_
    rw [e3]
    exact .str _
end
end Kx

namespace Kx
open PySem PySem.Spec PyProof.Rows L2 Fo
section
variable {P : Program} {w : World} {K : PySem.W.Frag} {mg : Str → Option Value} {base : Heap}
def sp_lrow_on : Sp := fun vs H Q _ => ∃ (v y : V) (rs : List Rdr) (ss : List Nat) (l : Cs) (L : Nat), vs = [v, y, .str (tx l)] ∧ Tv H v (dRow rs) ∧ Row rs ∧ Tx rs 0 L l ∧ L ≤ 1000 ∧ Seats rs ss ∧ Tv H y (dSeats ss) ∧ Ret (dOn (rowOn rs ss l)) H Q
theorem ok_lrow_on (T : Top K mg) : FnOk P w K mg base CX0 2 T.f__law_row_on T.fd__law_row_on ["row", "states", "text"] sp_lrow_on := by
  have G__law_read_on := ok_lread (P := P) (w := w) (base := base) T
  refine T.F__law_row_on.ok sc__law_row_on (fun vs H Q E h => ?_) (fun cdv A outer s H vs Q E hr h => ?_)
  · obtain ⟨v, y, rs, ss, l, L, rfl, _⟩ := h
    rfl
  obtain ⟨v, y, rs, ss, l, L, rfl, hv, R, T0, hL, S, hy, q⟩ := h
  obtain ⟨a, xs, rfl, ha, hX⟩ := hv.dRow
  obtain ⟨fa, ys, rfl, hf, hY⟩ := hy.tupI
  rw [seats_ints hY] at hf
  have hxl : xs.length = rs.length := by rw [hX.len, List.length_map]
  refine ⟨_, (pss_cons (ps_set (i := 3) sc__law_row_on.nd rfl (Or.inl rfl) (pe_lstN pa_nil))
    (pss_cons (ps_for PassesOwn.never rfl (RZ.pi_zipA (by rfl) T.m_zip (pa_cons (pv 0) (pa_cons (pv 1) pa_nil))) (kTg K rfl (n := 2) rfl (pgs_cons (pg_name (i := 4) sc__law_row_on.nd rfl (Or.inl rfl)) (pgs_cons (pg_name (i := 5) sc__law_row_on.nd rfl (Or.inl rfl)) pgs_nil))) (pss_cons (ps_asg (pe_call G__law_read_on (hr.mono (by first | decide | omega)) (by rfl) T.g__law_read_on T.F__law_read_on.kp T.b__law_read_on .nil pass0 (pa_cons (pv 4) (pa_cons (pv 5) (pa_cons (pv 2) pa_nil)))) (kTg K rfl (n := 2) rfl (pgs_cons (pg_name (i := 5) sc__law_row_on.nd rfl (Or.inl rfl)) (pgs_cons (pg_name (i := 2) sc__law_row_on.nd rfl (Or.inl rfl)) pgs_nil))))
    (pss_one (ps_expr (kBm K rfl (pe_bm PySem.F.plainAttrs_list PySem.F.slot_list_append PySem.F.type_list_append mt_appN (pv 3) (pa_cons (pv 5) pa_nil)))))))
    (pss_one (ps_ret (pe_tupN (pa_cons (pe_callTy (kTuple K rfl) (by rfl) T.m_tuple (by decide +kernel) (pa_cons (pv 3) pa_nil)) (pa_cons (pv 2) pa_nil))))))), ?_⟩
  refine ⟨szS, fun bl H2 n2 s2 e2 => ?_⟩
  refine ⟨_, rfl, ?_⟩; refine ⟨_, rfl, ?_⟩
  refine ⟨_, _, _, _, rfl, .inr ⟨SqT.of (s2 _ _ ha), SqT.of (s2 _ _ hf), ?_⟩⟩
  have hn : rs.length = min xs.length (ss.map fun s : Nat => V.int (s : Int)).length := by rw [List.length_map, hxl, S.len, Nat.min_self]
  refine for_it (walkPair (walk_zipT hn)) (fun i σ H' => ∃ y6 y7, σ = [some (.ref a), some (.ref fa), some (.str (tx (rowOn (rs.take i) (ss.take i) l).2)), some (.ref bl), y6, y7] ∧ Same H H' ∧
      H' bl = some (.lst ((rowOn (rs.take i) (ss.take i) l).1.map fun s : Nat => V.int (s : Int)))) ⟨none, none, rfl, s2, e2⟩ (fun i σ H' _ p => ?_) (fun i x σ H3 H4 hi p y => ?_) (fun σ H3 p => ?_)
  · obtain ⟨_, _, _, s3, _⟩ := p
    exact ⟨SqT.of (s3 _ _ ha), SqT.of (s3 _ _ hf)⟩
  · obtain ⟨y6, y7, rfl, s3, e3⟩ := p
    obtain ⟨U, x1, x2, rfl, s4, eU, ex1, ex2⟩ := y
    have er : rs[i]? = some (rs[i]'hi) := List.getElem?_eq_getElem hi
    have es : ss[i]? = some (ss[i]'(by rw [S.len]; exact hi)) := List.getElem?_eq_getElem (by rw [S.len]; exact hi)
    generalize rs[i]'hi = r at er
    generalize ss[i]'(by rw [S.len]; exact hi) = st at es
    have hs := S.at_ i _ _ er es
    obtain ⟨x, hx1, hx2⟩ := dR_at (hX.mv (same_ts (s3.trans s4))) er
    have ex1' : xs[i]? = some x1 := ex1
    rw [ex1'] at hx1
    cases hx1
    have ex2' : (ss.map fun s : Nat => V.int (s : Int))[i]? = some x2 := ex2
    rw [List.getElem?_map, es] at ex2'
    cases ex2'
    obtain ⟨q1, q2, q3⟩ := rowOn_seats R S T0 i (by omega)
    have few := R.few
    have R1 := read_of R q3 er (by omega) hL hs
    refine ⟨U, _, rfl, SqT.of eU, rfl, _, _, rfl, _, _, rfl, rfl, ?_⟩
    refine ⟨_, rfl, ?_⟩; refine ⟨_, rfl, ?_⟩; refine ⟨_, rfl, ?_⟩
    refine ⟨x1, r, 3, _, st, rfl, hx2, R1, fun z H5 s5 tz => ?_⟩
    obtain ⟨b, rfl, hb⟩ := tz.dW
    refine ⟨b, _, rfl, SqT.of hb, rfl, _, _, rfl, _, _, rfl, rfl, ?_⟩
    have s45 := s4.trans s5
    have e5 := s45 _ _ e3
    refine ⟨_, rfl, .inl ⟨rfl, _, SqL.of e5⟩, ?_⟩
    refine ⟨_, rfl, ?_⟩
    refine ⟨bl, _, _, rfl, rfl, e5, by rw [List.length_map, q1, sizeLine_eq]; omega, fun H6 b6 e6 => ?_⟩
    refine ⟨some x1, some (.int ((r.run st (rowOn (rs.take i) (ss.take i) l).2).1 : Nat)), ?_, same_chg (s3.trans s45) (Same.refl _) n2 b6, ?_⟩
    · rw [rowOn_snoc rs ss i l r st er es]
      rfl
    · rw [e6, rowOn_snoc rs ss i l r st er es, List.map_append]
      rfl
  · obtain ⟨y6, y7, rfl, s3, e3⟩ := p
    rw [List.take_length, ← S.len, List.take_length] at e3 ⊢
    refine ⟨_, rfl, ?_⟩
    refine ⟨_, _, rfl, .inl ⟨SqL.of e3, fun p H4 n4 s4 e4 => ?_⟩⟩
    refine ⟨_, rfl, ?_⟩
    refine ⟨szS, fun p2 H5 n5 s5 e5 => ?_⟩
    exact q _ _ ((s3.trans s4).trans s5) (.tup e5 (.cons (Tv.mkSeats (s5 _ _ e4)) (.cons (.str _) .nil)))
theorem ok_lrow_end (T : Top K mg) : FnOk P w K mg base CX0 2 T.f__law_row_end T.fd__law_row_end ["row", "states"] sp_row_end := by
  have G__law_read_on := ok_lread (P := P) (w := w) (base := base) T
  refine T.F__law_row_end.ok sc__law_row_end (fun vs H Q E h => ?_) (fun cdv A outer s H vs Q E hr h => ?_)
  · obtain ⟨v, y, rs, ss, rfl, _⟩ := h
    rfl
  obtain ⟨v, y, rs, ss, rfl, hv, R, hy, S, q⟩ := h
  obtain ⟨a, xs, rfl, ha, hX⟩ := hv.dRow
  obtain ⟨fa, ys, rfl, hf, hY⟩ := hy.tupI
  rw [seats_ints hY] at hf
  have hxl : xs.length = rs.length := by rw [hX.len, List.length_map]
  refine ⟨_, (pss_cons (ps_set (i := 2) sc__law_row_end.nd rfl (Or.inl rfl) pe_str)
    (pss_cons (ps_for PassesOwn.never rfl (RZ.pi_zipA (by rfl) T.m_zip (pa_cons (pv 0) (pa_cons (pv 1) pa_nil))) (kTg K rfl (n := 2) rfl (pgs_cons (pg_name (i := 3) sc__law_row_end.nd rfl (Or.inl rfl)) (pgs_cons (pg_name (i := 4) sc__law_row_end.nd rfl (Or.inl rfl)) pgs_nil))) (pss_cons (ps_asg (pe_call G__law_read_on (hr.mono (by first | decide | omega)) (by rfl) T.g__law_read_on T.F__law_read_on.kp T.b__law_read_on .nil pass0 (pa_cons (pv 3) (pa_cons (pv 4) (pa_cons (pv 2) pa_nil)))) (kTg K rfl (n := 2) rfl (pgs_cons (pg_name (i := 4) sc__law_row_end.nd rfl (Or.inl rfl)) (pgs_cons (pg_name (i := 5) sc__law_row_end.nd rfl (Or.inl rfl)) pgs_nil))))
    (pss_cons (ps_if (pt_cmpR op_isN (pe_ix (kIx K rfl) (pe_ix (kIx K rfl) (pe_ix (kIx K rfl) (pv 3) pe_int (fun _ _ => rfl)) (pv 4) (fun _ _ => rfl)) pe_int (fun _ _ => rfl)) pe_non (nomark _)) (pss_one (ps_ret pe_non)) pss_nil)
    (pss_one (ps_set (i := 2) sc__law_row_end.nd rfl (Or.inl rfl) (pe_op op_addG (pv 5) (pe_ix (kIx K rfl) (pe_ix (kIx K rfl) (pe_ix (kIx K rfl) (pv 3) pe_int (fun _ _ => rfl)) (pv 4) (fun _ _ => rfl)) pe_int (fun _ _ => rfl))))))))
    (pss_one (ps_ret (pv 2))))), ?_⟩
  refine ⟨_, rfl, ?_⟩; refine ⟨_, rfl, ?_⟩
  refine ⟨_, _, _, _, rfl, .inr ⟨SqT.of ha, SqT.of hf, ?_⟩⟩
  have hn : rs.length = min xs.length (ss.map fun s : Nat => V.int (s : Int)).length := by rw [List.length_map, hxl, S.len, Nat.min_self]
  refine for_it (walkPair (walk_zipT hn)) (fun i σ H' => ∃ t y3 y4 y5, σ = [some (.ref a), some (.ref fa), some (.str (tx t)), y3, y4, y5] ∧ Same H H' ∧ Tx rs i 0 t ∧ rowEnd rs ss [] = rowEnd (rs.drop i) (ss.drop i) t)
    ⟨[], none, none, none, by rw [← tx_nil]; rfl, Same.refl _, Tx.nil, rfl⟩ (fun i σ H' _ p => ?_) (fun i x σ H3 H4 hi p y => ?_) (fun σ H3 p => ?_)
  · obtain ⟨_, _, _, _, _, s3, _⟩ := p
    exact ⟨SqT.of (s3 _ _ ha), SqT.of (s3 _ _ hf)⟩
  · obtain ⟨t, y3, y4, y5, rfl, s3, T3, e3⟩ := p
    obtain ⟨U, x1, x2, rfl, s4, eU, ex1, ex2⟩ := y
    have er : rs[i]? = some (rs[i]'hi) := List.getElem?_eq_getElem hi
    have es : ss[i]? = some (ss[i]'(by rw [S.len]; exact hi)) := List.getElem?_eq_getElem (by rw [S.len]; exact hi)
    generalize rs[i]'hi = r at er
    generalize ss[i]'(by rw [S.len]; exact hi) = st at es
    have hs := S.at_ i _ _ er es
    have s34 := s3.trans s4
    obtain ⟨x, hx1, hx2⟩ := dR_at (hX.mv (same_ts s34)) er
    have ex1' : xs[i]? = some x1 := ex1
    rw [ex1'] at hx1
    cases hx1
    have ex2' : (ss.map fun s : Nat => V.int (s : Int))[i]? = some x2 := ex2
    rw [List.getElem?_map, es] at ex2'
    cases ex2'
    have few := R.few
    have R1 := read_of R T3 er (by omega) (by decide) hs
    have stp := rowEnd_step t er es
    have ro := Rdr.run_ok R1.ok t st hs R1.sub
    refine ⟨U, _, rfl, SqT.of eU, rfl, _, _, rfl, _, _, rfl, rfl, ?_⟩
    refine ⟨_, rfl, ?_⟩; refine ⟨_, rfl, ?_⟩; refine ⟨_, rfl, ?_⟩
    refine ⟨x1, r, 3, _, st, rfl, hx2, R1, fun z H5 s5 tz => ?_⟩
    obtain ⟨b, rfl, hb⟩ := tz.dW
    refine ⟨b, _, rfl, SqT.of hb, rfl, _, _, rfl, _, _, rfl, rfl, ?_⟩
    obtain ⟨ra, rss, rxs, rfl, hra, hrs, hrX⟩ := hx2.dR
    obtain ⟨z1, hz1, tz1⟩ := dS_at (hrX.mv (same_ts s5)) ro.1
    obtain ⟨b1, ws, wys, e, rfl, hb1, hws, hW, he⟩ := tz1.dS
    refine ⟨_, rfl, ?_⟩; refine Or.inr (Or.inl ⟨_, _, _, _, rfl, rfl, SqT.of (s5 _ _ hra), rfl, ?_⟩); refine ⟨_, rfl, ?_⟩; refine Or.inr (Or.inl ⟨_, _, _, _, rfl, rfl, SqT.of (s5 _ _ hrs), (atI_nat hz1), ?_⟩); refine Or.inr (Or.inl ⟨_, _, _, _, rfl, rfl, SqT.of hb1, rfl, ?_⟩)
    refine ⟨rfl, _, rfl, ?_⟩
    cases hfin : (r.sta (r.run st t).1).fin with
    | none =>
      rw [hfin] at he stp
      have e0 := he.nonI
      subst e0
      refine iteT ?_
      refine q _ _ (s34.trans s5) ?_
      rw [e3, stp]
      exact .non
    | some u =>
      rw [hfin] at he stp
      have e0 := he.strI
      subst e0
      have T4 := T3.fin R er hs hfin
      have few4 := T4.few (by omega) (by decide)
      rw [List.length_append] at few4
      refine iteF ?_
      refine ⟨_, rfl, ?_⟩; refine ⟨_, rfl, ?_⟩; refine Or.inr (Or.inl ⟨_, _, _, _, rfl, rfl, SqT.of (s5 _ _ hra), rfl, ?_⟩); refine ⟨_, rfl, ?_⟩; refine Or.inr (Or.inl ⟨_, _, _, _, rfl, rfl, SqT.of (s5 _ _ hrs), (atI_nat hz1), ?_⟩); refine Or.inr (Or.inl ⟨_, _, _, _, rfl, rfl, SqT.of hb1, rfl, ?_⟩)
      refine Or.inr (Or.inl ⟨_, _, rfl, rfl, ?_, ?_⟩)
      · rw [tx_len, tx_len, sizeLine_eq]
        omega
      · rw [tx_app]
        exact ⟨_, _, _, _, rfl, s34.trans s5, T4, e3.trans stp⟩
  · obtain ⟨t, y3, y4, y5, rfl, s3, T3, e3⟩ := p
    rw [List.drop_length, ← S.len, List.drop_length] at e3
    refine ⟨_, rfl, ?_⟩
    refine q _ _ s3 ?_
    rw [e3]
    exact .str _
end
end Kx

namespace Kx
open PySem PySem.Spec PyProof.Rows L2 Fo
section
variable {P : Program} {w : World} {K : PySem.W.Frag} {mg : Str → Option Value} {base : Heap}
/-- signs: some, at most m -/
structure Sn (t : Cs) (m : Nat) : Prop where
  ne : t ≠ []
  len : t.length ≤ m
  cod : ∀ c ∈ t, c < 127
theorem cutS_hi (l : Cs) (k : Nat) : cutS (tx l) none (some (k : Int)) = tx (l.take k) := by
  unfold cutS
  have el : (tx l).length = l.length := tx_len l
  rw [HT.sIx_none, HT.sIx_nat, List.drop_zero, Nat.sub_zero, el]
  show tx (l.take (min k l.length)) = tx (l.take k)
  by_cases h : k ≤ l.length
  · rw [Nat.min_eq_left h]
  · rw [Nat.min_eq_right (by omega)]
    rw [List.take_of_length_le (Nat.le_refl _), List.take_of_length_le (by omega)]
theorem sn_of {t : Cs} {n : Nat} (h : Sgs t n) (h1 : 1 ≤ n) : Sn t n :=
  ⟨fun z => by
    have := h.len
    rw [z] at this
    exact absurd this.symm (by show ¬ n = 0; omega), Nat.le_of_eq h.len, fun c hc => Nat.lt_of_le_of_lt (h.sub c hc).2 (by decide)⟩
def sp_more (K : PySem.W.Frag) : Sp := fun vs H Q _ => ∃ (p c : Addr) (n : Nat) (g : Cs), vs = [.ref p, .str (tx g)] ∧ Pen H p c (n + 5) ∧ Sn g 1000 ∧
  ∀ H' t, But p H H' → Pen H' p c n → Sn t 3 → Q (.str (tx t)) H'
theorem ok_more (T : Top K mg) : FnOk P w K mg base CX0 4 T.f__law_more_signs T.fd__law_more_signs ["pen", "reads"] (sp_more K) := by
  have G__law_take := ok_take (P := P) (w := w) (base := base) T
  have G__law_some_signs := ok_signs (P := P) (w := w) (base := base) T
  refine T.F__law_more_signs.ok sc__law_more_signs (fun vs H Q E h => ?_) (fun cdv A outer s H vs Q E hr h => ?_)
  · obtain ⟨p, c, n, g, rfl, _⟩ := h
    rfl
  obtain ⟨p, c, n, g, rfl, hp, S, q⟩ := h
  refine ⟨_, (pss_cons (ps_if (pt_cmpR op_gtG (pe_call G__law_take (hr.mono (by first | decide | omega)) (by rfl) T.g__law_take T.F__law_take.kp T.b__law_take .nil pass0 (pa_cons (pv 0) (pa_cons pe_int pa_nil))) pe_int (nomark _)) (pss_one (ps_ret (pe_slice (kSl K rfl) (pv 1) po_none (po_some (pe_op op_addG pe_int (pe_call G__law_take (hr.mono (by first | decide | omega)) (by rfl) T.g__law_take T.F__law_take.kp T.b__law_take .nil pass0 (pa_cons (pv 0) (pa_cons (pe_callB (call_min2 rfl) (by rfl) T.m_min (by decide +kernel) (pa_cons pe_int (pa_cons (pe_callB (kLen K rfl) (by rfl) T.m_len PySem.boot_len (pa_cons (pv 1) pa_nil)) pa_nil))) pa_nil)))))))) pss_nil)
    (pss_one (ps_ret (pe_call G__law_some_signs (hr.mono (by first | decide | omega)) (by rfl) T.g__law_some_signs T.F__law_some_signs.kp T.b__law_some_signs .nil pass0 (pa_cons (pv 0) (pa_cons (pe_op op_addG pe_int (pe_call G__law_take (hr.mono (by first | decide | omega)) (by rfl) T.g__law_take T.F__law_take.kp T.b__law_take .nil pass0 (pa_cons (pv 0) (pa_cons pe_int pa_nil)))) pa_nil)))))), ?_⟩
  refine ⟨_, rfl, ?_⟩
  refine ⟨p, c, n + 4, 3, rfl, hp, by omega, by omega, fun H1 m b1 p1 _ _ => ?_⟩
  (first | refine Or.inl ⟨_, _, rfl, rfl, ?_⟩ | refine ⟨_, _, rfl, rfl, ?_⟩); refine ⟨_, rfl, ?_⟩
  have gl : 0 < g.length := List.length_pos_iff.mpr S.ne
  have gl2 := S.len
  refine ite2 (fun _ => ?_) (fun _ => ?_)
  · refine ⟨_, rfl, ?_⟩
    refine ⟨_, rfl, ?_⟩
    refine ⟨_, rfl, ?_⟩
    refine ⟨_, _, rfl, ⟨by rw [tx_len, sizeLine_eq]; omega, rfl⟩, ?_⟩
    refine ⟨_, _, rfl, ?_⟩
    rw [tx_len]
    generalize hk : (if (g.length : Int) < 3 then (g.length : Int) else 3) = k
    have kb : 1 ≤ k ∧ k ≤ 3 ∧ k ≤ (g.length : Int) := by
      split at hk <;> omega
    refine ⟨p, c, n, k, rfl, p1.less (by omega), by omega, by omega, fun H2 r b2 p2 r0 r1 => ?_⟩
    obtain ⟨r, rfl⟩ : ∃ k : Nat, r = (k : Int) := ⟨r.toNat, by omega⟩
    (first | refine Or.inl ⟨_, _, rfl, rfl, ?_⟩ | refine ⟨_, _, rfl, rfl, ?_⟩)
    refine ⟨_, rfl, ?_⟩
    refine Or.inr (Or.inr ⟨_, rfl, by rw [tx_len, sizeLine_eq]; omega, ?_⟩)
    rw [show (1 : Int) + (r : Int) = ((r + 1 : Nat) : Int) by omega, cutS_hi]
    refine q _ _ (b1.trans b2) p2 ⟨fun z => ?_, by rw [List.length_take]; omega, fun c hc => S.cod c (List.mem_of_mem_take hc)⟩
    have := congrArg List.length z
    rw [List.length_take, List.length_nil] at this
    omega
  · refine ⟨_, rfl, ?_⟩; refine ⟨_, rfl, ?_⟩
    refine ⟨p, c, n + 3, 3, rfl, p1, by omega, by omega, fun H2 m b2 p2 m0 m1 => ?_⟩
    obtain ⟨m, rfl⟩ : ∃ k : Nat, m = (k : Int) := ⟨m.toNat, by omega⟩
    (first | refine Or.inl ⟨_, _, rfl, rfl, ?_⟩ | refine ⟨_, _, rfl, rfl, ?_⟩)
    refine ⟨p, c, n, 1 + m, rfl, p2.less (by omega), by omega, fun H3 t b3 p3 S3 => ?_⟩
    exact q _ _ ((b1.trans b2).trans b3) p3 ⟨(sn_of S3 (by omega)).ne, by have := S3.len; omega, (sn_of S3 (by omega)).cod⟩
def sp_wider (K : PySem.W.Frag) : Sp := fun vs H Q _ => ∃ (p c : Addr) (n : Nat) (g : Cs), vs = [.ref p, .str (tx g)] ∧ Pen H p c (n + 5) ∧ Sn g 3 ∧
  ∀ H' t, But p H H' → Pen H' p c n → Sn t 6 → (∀ c ∈ g, c ∈ t) → Q (.str (tx t)) H'
theorem ok_wider (T : Top K mg) : FnOk P w K mg base CX0 4 T.f__law_wider T.fd__law_wider ["pen", "signs"] (sp_wider K) := by
  have G__law_take := ok_take (P := P) (w := w) (base := base) T
  have G__law_some_signs := ok_signs (P := P) (w := w) (base := base) T
  refine T.F__law_wider.ok sc__law_wider (fun vs H Q E h => ?_) (fun cdv A outer s H vs Q E hr h => ?_)
  · obtain ⟨p, c, n, g, rfl, _⟩ := h
    rfl
  obtain ⟨p, c, n, g, rfl, hp, S, q⟩ := h
  refine ⟨_, (pss_cons (ps_if (pt_cmpR (kEq K rfl hr.units) (pe_call G__law_take (hr.mono (by first | decide | omega)) (by rfl) T.g__law_take T.F__law_take.kp T.b__law_take .nil pass0 (pa_cons (pv 0) (pa_cons pe_int pa_nil))) pe_int (nomark _)) (pss_one (ps_ret (pv 1))) pss_nil)
    (pss_one (ps_ret (kJoin K rfl pe_str (pe_callB (kSortT rfl rfl) (by rfl) T.m_sorted (by decide +kernel) (pa_cons (pe_callTy (kSetTx rfl rfl) (by rfl) T.m_set (by decide +kernel) (pa_cons (pe_op op_addG (pv 1) (pe_call G__law_some_signs (hr.mono (by first | decide | omega)) (by rfl) T.g__law_some_signs T.F__law_some_signs.kp T.b__law_some_signs .nil pass0 (pa_cons (pv 0) (pa_cons (pe_op op_addG pe_int (pe_call G__law_take (hr.mono (by first | decide | omega)) (by rfl) T.g__law_take T.F__law_take.kp T.b__law_take .nil pass0 (pa_cons (pv 0) (pa_cons pe_int pa_nil)))) pa_nil)))) pa_nil)) pa_nil)))))), ?_⟩
  refine ⟨_, rfl, ?_⟩
  refine ⟨p, c, n + 4, 2, rfl, hp, by omega, by omega, fun H1 m b1 p1 _ _ => ?_⟩
  refine Or.inl ⟨rfl, _, rfl, ?_⟩
  refine ite2 (fun _ => ?_) (fun _ => ?_)
  · refine ⟨_, rfl, ?_⟩
    exact q _ _ b1 (p1.less (by omega)) ⟨S.ne, by have := S.len; omega, S.cod⟩ (fun _ h => h)
  · refine ⟨⟨_, rfl⟩, ?_⟩
    refine ⟨_, rfl, ?_⟩; refine ⟨_, rfl, ?_⟩; refine ⟨_, rfl, ?_⟩
    refine ⟨p, c, n + 3, 3, rfl, p1, by omega, by omega, fun H2 m b2 p2 m0 m1 => ?_⟩
    obtain ⟨m, rfl⟩ : ∃ k : Nat, m = (k : Int) := ⟨m.toNat, by omega⟩
    (first | refine Or.inl ⟨_, _, rfl, rfl, ?_⟩ | refine ⟨_, _, rfl, rfl, ?_⟩)
    refine ⟨p, c, n, 1 + m, rfl, p2.less (by omega), by omega, fun H3 t b3 p3 S3 => ?_⟩
    have sl := S.len
    have tl := S3.len
    refine Or.inr (Or.inl ⟨_, _, rfl, rfl, ?_, ?_⟩)
    · rw [tx_len, tx_len, sizeLine_eq]
      omega
    rw [tx_app]
    refine ⟨g ++ t, rfl, by rw [List.length_append]; omega, fun a H4 k na s4 e4 hk => ?_⟩
    rw [List.length_append] at hk
    refine ⟨a, _, k, rfl, e4, by omega, fun ys hs hn hm hl => ?_⟩
    obtain ⟨u, rfl, hu, mu⟩ := signs_of rfl hs hn hm
    rw [List.length_map] at hl
    refine fun l H5 n5 s5 e5 => ?_
    have eu : u.map one = (u.map fun c => [c]).map tx := by
      rw [List.map_map]
      rfl
    rw [eu] at e5
    refine ⟨_, _, _, rfl, rfl, .inl (SqL.of e5), ?_, ?_⟩
    · rw [flat_len, flat_ones]
      show _ + _ * 0 ≤ _
      omega
    · rw [join_tx, flat_ones]
      have s45 := s4.trans s5
      refine q _ _ (((b1.trans b2).trans b3).trans (same_but p s45)) (p3.same s45) ⟨fun z => ?_, by omega, fun c hc => ?_⟩ (fun c hc => (mu c).mpr (List.mem_append_left _ hc))
      · obtain ⟨d, hd⟩ := List.exists_mem_of_ne_nil _ S.ne
        have := (mu d).mpr (List.mem_append_left _ hd)
        rw [z] at this
        exact nomatch this
      · rcases List.mem_append.mp ((mu c).mp hc) with h | h
        · exact S.cod c h
        · exact (sn_of S3 (by omega)).cod c h
end
end Kx

namespace Kx
open PySem PySem.Spec PyProof.Rows L2 Fo
section
variable {P : Program} {w : World} {K : PySem.W.Frag} {mg : Str → Option Value} {base : Heap}
structure Wide (rs : List Rdr) (g : Cs) (often size : Nat) : Prop where
  row : Row rs
  few : rs.length ≤ often
  each : ∀ r ∈ rs, r.states.length ≤ size ∧ Sn r.reads 6 ∧ Sn r.tells 3
  head : ∀ r, rs[0]? = some r → r.reads = g
theorem wide_one {r : Rdr} {g : Cs} {size : Nat} (v : r.Val 3 3) (hs : r.states.length ≤ size) (h1 : Sn r.reads 6) (h2 : Sn r.tells 3) (hg : r.reads = g) : Wide [r] g 1 size := by
  refine ⟨⟨Nat.zero_lt_one, by show 1 ≤ 3; decide, fun x hx => ?_, fun i a b h3 h4 => ?_⟩, Nat.le_refl _, fun x hx => ?_, fun x hx => ?_⟩
  · rw [List.mem_singleton.mp hx]; exact v
  · simp at h4
  · rw [List.mem_singleton.mp hx]; exact ⟨hs, h1, h2⟩
  · have e : r = x := by simpa using hx
    rw [← e]; exact hg
theorem wide_snoc {rs : List Rdr} {g : Cs} {k size : Nat} {a r : Rdr} (W : Wide rs g k size) (hk : rs.length + 1 ≤ 3) (ha : rs[rs.length - 1]? = some a) (hl : ∀ c ∈ a.tells, c ∈ r.reads) (v : r.Val 3 3) (hs : r.states.length ≤ size) (h1 : Sn r.reads 6) (h2 : Sn r.tells 3) :
    Wide (rs ++ [r]) g (k + 1) size := by
  have ne := W.row.ne
  refine ⟨⟨by rw [List.length_append]; omega, by rw [List.length_append]; exact hk, fun x hx => ?_, fun i x y hx hy => ?_⟩, by rw [List.length_append]; exact Nat.succ_le_succ W.few, fun x hx => ?_, fun x hx => ?_⟩
  · rcases List.mem_append.mp hx with h | h
    · exact W.row.val x h
    · rw [List.mem_singleton.mp h]; exact v
  · by_cases hi : i + 1 < rs.length
    · rw [List.getElem?_append_left (by omega)] at hx
      rw [List.getElem?_append_left hi] at hy
      exact W.row.link i x y hx hy
    · have hlen : i + 1 < (rs ++ [r]).length := (List.getElem?_eq_some_iff.mp hy).1
      rw [List.length_append, List.length_singleton] at hlen
      have ei : i = rs.length - 1 := by omega
      rw [List.getElem?_append_left (by omega), ei, ha] at hx
      rw [List.getElem?_append_right (by omega), show i + 1 - rs.length = 0 by omega] at hy
      cases hx
      have e : r = y := by simpa using hy
      rw [← e]; exact hl
  · rcases List.mem_append.mp hx with h | h
    · exact W.each x h
    · rw [List.mem_singleton.mp h]; exact ⟨hs, h1, h2⟩
  · rw [List.getElem?_append_left ne] at hx
    exact W.head x hx
theorem costR_le {R R' size most : Nat} (h : R ≤ R') : costR R size most ≤ costR R' size most := by
  unfold costR
  have : R * (most + 3) ≤ R' * (most + 3) := Nat.mul_le_mul_right _ h
  have : size * (R * (most + 3) + 3) ≤ size * (R' * (most + 3) + 3) := Nat.mul_le_mul_left _ (by omega)
  omega
theorem Sn.le {t : Cs} {m n : Nat} (h : Sn t m) (hm : m ≤ n) : Sn t n := ⟨h.ne, Nat.le_trans h.len hm, h.cod⟩
theorem at_last {xs : List V} {x : V} {n : Nat} (hn : xs.length = n + 1) (h : xs[n]? = some x) : atI xs (-1) = some x := by
  unfold atI ixN
  rw [hn, if_neg (by omega), if_pos (by omega)]
  show xs[((-1 : Int) + ((n + 1 : Nat) : Int)).toNat]? = some x
  rw [show ((-1 : Int) + ((n + 1 : Nat) : Int)).toNat = n by omega, h]
def sp_wide (K : PySem.W.Frag) : Sp := fun vs H Q _ => ∃ (p c : Addr) (n : Nat) (g : Cs) (often size most : Nat), vs = [.ref p, .str (tx g), .int often, .int size, .int most] ∧ Pen H p c (n + often * (costR 6 size most + 20)) ∧ Sn g 6 ∧ 1 ≤ often ∧ often ≤ 3 ∧ 1 ≤ size ∧ size ≤ 1000 ∧ 1 ≤ most ∧ most ≤ 3 ∧
  ∀ x H' (rs : List Rdr), But p H H' → Pen H' p c n → Tv H' x (dRow rs) → Wide rs g often size → Q x H'
theorem ok_wide (T : Top K mg) : FnOk P w K mg base CX0 5 T.f__law_wide_row T.fd__law_wide_row ["pen", "reads", "often", "size", "most"] (sp_wide K) := by
  have G__law_take := ok_take (P := P) (w := w) (base := base) T
  have G__law_any_reader := ok_any (P := P) (w := w) (base := base) T
  have G__law_more_signs := ok_more (P := P) (w := w) (base := base) T
  have G__law_wider := ok_wider (P := P) (w := w) (base := base) T
  refine T.F__law_wide_row.ok sc__law_wide_row (fun vs H Q E h => ?_) (fun cdv A outer s H vs Q E hr h => ?_)
  · obtain ⟨p, c, n, g, often, size, most, rfl, _⟩ := h
    rfl
  obtain ⟨p, c, n, g, often, size, most, rfl, hp, S, o1, o3, z1, z2, m1, m3, q⟩ := h
  generalize hC : costR 6 size most = C at hp
  refine ⟨_, (pss_cons (ps_set (i := 5) sc__law_wide_row.nd rfl (Or.inl rfl) (pe_lstN (pa_cons (pe_call G__law_any_reader (hr.mono (by first | decide | omega)) (by rfl) T.g__law_any_reader T.F__law_any_reader.kp T.b__law_any_reader .nil pass0 (pa_cons (pv 0) (pa_cons (pv 1) (pa_cons (pe_call G__law_more_signs (hr.mono (by first | decide | omega)) (by rfl) T.g__law_more_signs T.F__law_more_signs.kp T.b__law_more_signs .nil pass0 (pa_cons (pv 0) (pa_cons (pv 1) pa_nil))) (pa_cons (pv 3) (pa_cons (pv 4) pa_nil)))))) pa_nil)))
    (pss_cons (ps_for PassesOwn.never rfl (pi_range1 rfl T.m_range (pa_cons (pe_call G__law_take (hr.mono (by first | decide | omega)) (by rfl) T.g__law_take T.F__law_take.kp T.b__law_take .nil pass0 (pa_cons (pv 0) (pa_cons (pv 2) pa_nil))) pa_nil)) (pg_name (i := 6) sc__law_wide_row.nd rfl (Or.inl rfl)) (pss_cons (ps_set (i := 7) sc__law_wide_row.nd rfl (Or.inl rfl) (pe_call G__law_wider (hr.mono (by first | decide | omega)) (by rfl) T.g__law_wider T.F__law_wider.kp T.b__law_wider .nil pass0 (pa_cons (pv 0) (pa_cons (pe_ix (kIx K rfl) (pe_ix (kIx K rfl) (pv 5) (pe_un un_neg pe_int) (fun _ _ => rfl)) pe_int (fun _ _ => rfl)) pa_nil))))
    (pss_one (ps_expr (kBm K rfl (pe_bm PySem.F.plainAttrs_list PySem.F.slot_list_append PySem.F.type_list_append mt_appN (pv 5) (pa_cons (pe_call G__law_any_reader (hr.mono (by first | decide | omega)) (by rfl) T.g__law_any_reader T.F__law_any_reader.kp T.b__law_any_reader .nil pass0 (pa_cons (pv 0) (pa_cons (pv 7) (pa_cons (pe_call G__law_more_signs (hr.mono (by first | decide | omega)) (by rfl) T.g__law_more_signs T.F__law_more_signs.kp T.b__law_more_signs .nil pass0 (pa_cons (pv 0) (pa_cons (pv 7) pa_nil))) (pa_cons (pv 3) (pa_cons (pv 4) pa_nil)))))) pa_nil)))))))
    (pss_one (ps_ret (pe_callTy (kTuple K rfl) (by rfl) T.m_tuple (by decide +kernel) (pa_cons (pv 5) pa_nil)))))), ?_⟩
  obtain ⟨of, rfl⟩ : ∃ k, often = k + 1 := ⟨often - 1, by omega⟩
  rw [Nat.succ_mul] at hp
  generalize hN : n + of * (C + 20) = N at hp
  have hp' : Pen H p c (N + 1 + C + 10 + 5) := hp.less (by omega)
  refine ⟨_, rfl, ?_⟩; refine ⟨_, rfl, ?_⟩; refine ⟨_, rfl, ?_⟩; refine ⟨_, rfl, ?_⟩
  refine ⟨p, c, N + 1 + C + 10, g, rfl, hp', S.le (by decide), fun H1 t b1 p1 St => ?_⟩
  refine ⟨_, rfl, ?_⟩; refine ⟨_, rfl, ?_⟩
  refine ⟨p, c, N + 1, g, t, size, most, rfl, p1.less (by have := costR_le (size := size) (most := most) S.len; omega), St.ne, by have := St.len; omega, by have := S.len; omega, z1, z2, m1, by omega, fun x H2 r b2 p2 tv er et sl V0 => ?_⟩
  refine ⟨szS, fun l H3 n3 s3 e3 => ?_⟩
  have b03 := (b1.trans b2).trans (same_but p s3)
  have dl := p2.ne n3
  refine ⟨_, rfl, ?_⟩; refine ⟨_, rfl, ?_⟩
  refine ⟨p, c, N, ((of + 1 : Nat) : Int), rfl, p2.same s3, by omega, by omega, fun H4 m b4 p4 m0 mm => ?_⟩
  obtain ⟨m, rfl⟩ : ∃ k : Nat, m = (k : Int) := ⟨m.toNat, by omega⟩
  have hm : m ≤ of := by omega
  rw [← hN] at p4
  refine ⟨m, rfl, by omega, by omega, ?_⟩
  rw [show (m : Int).toNat = m by omega]
  have W0 : Wide [r] g 1 size := wide_one (V0.mono m3 (by decide)) sl (by rw [er]; exact S) (by rw [et]; exact St) er
  refine for_it walk_range (fun k σ H' => ∃ (rs : List Rdr) (vs : List V) (y6 y7 : Option V), σ = [some (.ref p), some (.str (tx g)), some (.int ((of + 1 : Nat) : Int)), some (.int size), some (.int most), some (.ref l), y6, y7] ∧
      But p H H' ∧ Pen H' p c (n + (of - k) * (C + 20)) ∧ H' l = some (.lst vs) ∧ TvA H' vs (rs.map dR) ∧ rs.length = k + 1 ∧ Wide rs g (k + 1) size)
    ⟨[r], _, none, none, rfl, b03.trans b4, p4, b4 _ _ (Ne.symm dl.1) e3, .cons ((tv.mv (same_ts s3)).mv ((p2.same s3).ts b4)) .nil, rfl, W0⟩ (fun _ _ _ _ _ => trivial) (fun k x' σ H5 H6 hk pv y => ?_) (fun σ H5 pv => ?_)
  · obtain ⟨rs, vs, y6, y7, rfl, b5, p5, e5, t5, hrs, W⟩ := pv
    obtain ⟨rfl, rfl⟩ := y
    rw [succ_cost (show k < of by omega)] at p5
    generalize hrest : n + (of - (k + 1)) * (C + 20) = rest at p5
    have p5' : Pen H6 p c (rest + C + 10 + 5) := p5.less (by omega)
    have vl := t5.len
    rw [List.length_map, hrs] at vl
    have ea : rs[k]? = some (rs[k]'(by omega)) := List.getElem?_eq_getElem (by omega)
    generalize rs[k]'(by omega) = a at ea
    obtain ⟨va, hva, tva⟩ := dR_at t5 ea
    obtain ⟨wr, wl, wt⟩ := W.each a (List.mem_of_getElem? ea)
    obtain ⟨ra, rss, rxs, rfl, hra, hrs2, hrX⟩ := tva.dR
    refine ⟨_, rfl, ?_⟩; refine ⟨_, rfl, ?_⟩
    refine ⟨_, rfl, ?_⟩
    refine Or.inl ⟨_, _, _, _, rfl, rfl, SqL.of e5, (at_last vl hva), ?_⟩; refine Or.inr (Or.inl ⟨_, _, _, _, rfl, rfl, SqT.of hra, rfl, ?_⟩)
    refine ⟨p, c, rest + C + 10, a.tells, rfl, p5', wt, fun H7 mo b7 p7 Sm sub => ?_⟩
    have e7 := b7 _ _ (Ne.symm dl.1) e5
    refine ⟨_, rfl, .inl ⟨rfl, _, SqL.of e7⟩, ?_⟩
    refine ⟨_, rfl, ?_⟩; refine ⟨_, rfl, ?_⟩; refine ⟨_, rfl, ?_⟩; refine ⟨_, rfl, ?_⟩
    refine ⟨p, c, rest + C + 5, mo, rfl, p7.less (by omega), Sm.le (by decide), fun H8 tl b8 p8 Stl => ?_⟩
    refine ⟨_, rfl, ?_⟩; refine ⟨_, rfl, ?_⟩
    refine ⟨p, c, rest, mo, tl, size, most, rfl, p8.less (by have := costR_le (size := size) (most := most) Sm.len; omega), Stl.ne, by have := Stl.len; omega, by have := Sm.len; omega, z1, z2, m1, by omega, fun z H9 r' b9 p9 tz er' et' sl' V' => ?_⟩
    have b79 := b8.trans b9
    have e9 := b79 _ _ (Ne.symm dl.1) e7
    refine ⟨l, _, _, rfl, rfl, e9, by rw [vl, sizeLine_eq]; omega, fun Ha ba ea' => ?_⟩
    have t79 := (p5'.ts b7).trans (p7.ts b79)
    have ta : TS H9 Ha := ba.ts e9
    refine ⟨rs ++ [r'], _, _, _, rfl, ((b5.trans b7).trans b79).chg (b1.trans b2) n3 ba, p9.chg dl ba, ea', ?_, by rw [List.length_append, hrs]; rfl, ?_⟩
    · rw [List.map_append]
      exact (t5.mv (t79.trans ta)).snoc (tz.mv ta)
    · exact wide_snoc W (by omega) (by rw [hrs]; exact ea) (by rw [er']; exact sub) (V'.mono m3 (by decide)) sl' (by rw [er']; exact Sm) (by rw [et']; exact Stl)
  · obtain ⟨rs, vs, y6, y7, rfl, b5, p5, e5, t5, hrs, W⟩ := pv
    refine ⟨_, rfl, ?_⟩
    refine ⟨_, _, rfl, .inl ⟨SqL.of e5, fun a H6 n6 s6 e6 => ?_⟩⟩
    exact q _ _ rs (b5.trans (same_but p s6)) ((p5.same s6).less (by omega)) (.tup e6 (t5.mv (same_ts s6))) ⟨W.row, by have := W.few; omega, W.each, W.head⟩
end
end Kx

-- @dict as_one numbers
namespace Kx
open PySem PySem.Spec PyProof.Rows L2 Fo
section
variable {P : Program} {w : World} {K : PySem.W.Frag} {mg : Str → Option Value} {base : Heap}
theorem zeros_rep : ∀ m : Nat, (List.replicate m [V.int 0]).flatten = (List.replicate m 0).map fun s : Nat => V.int (s : Int)
  | 0 => rfl
  | m + 1 => by
    rw [List.replicate_succ, List.replicate_succ, List.flatten_cons, zeros_rep m]
    rfl
theorem seat_key {H : Hp} {b : Addr} {f : List Nat} (h : H b = some (.tup (f.map fun s : Nat => V.int (s : Int)))) : H b = some (.tup ((kT f).map kV)) := by
  rw [kT_map]
  exact h
theorem seat_of {H : Hp} {v : V} {f : List Nat} (h : Tv H v (dSeats f)) : ∃ b, v = .ref b ∧ H b = some (.tup (f.map fun s : Nat => V.int (s : Int))) := by
  obtain ⟨b, ys, rfl, hb, hB⟩ := h.tupI
  rw [seats_ints hB] at hb
  exact ⟨b, rfl, hb⟩
theorem seatV {H : Hp} {xs : List V} {F : List (List Nat)} {i : Nat} {f : List Nat} (h : TvA H xs (F.map dSeats)) (e : F[i]? = some f) : ∃ x, xs[i]? = some x ∧ Tv H x (dSeats f) :=
  h.get (by rw [List.getElem?_map, e]; rfl)
/-- a row of few states, all of it -/
structure Small (rs : List Rdr) (g t : Cs) : Prop where
  row : Row rs
  head : ∀ r, rs[0]? = some r → r.reads = g
  last : ∀ r, rs[rs.length - 1]? = some r → r.tells = t
  few : ∀ r ∈ rs, r.states.length ≤ 3
  short : g.length ≤ 60
/-- the dict, the list of seats, the list of states -/
structure Bag (H : Hp) (d c t : Addr) (F : List (List Nat)) (done : List Sta) : Prop where
  dict : H d = some (.dT (numsFrom 0 F))
  com : ∃ cs, H c = some (.lst cs) ∧ TvA H cs (F.map dSeats)
  sta : ∃ ts, H t = some (.lst ts) ∧ TvA H ts (done.map dS)
theorem Bag.same {H H' : Hp} {d c t : Addr} {F : List (List Nat)} {done : List Sta} (b : Bag H d c t F done) (s : Same H H') : Bag H' d c t F done := by
  obtain ⟨cs, c1, c2⟩ := b.com
  obtain ⟨ts, t1, t2⟩ := b.sta
  exact ⟨s _ _ b.dict, ⟨cs, s _ _ c1, c2.mv (same_ts s)⟩, ⟨ts, s _ _ t1, t2.mv (same_ts s)⟩⟩
/-- a list changed that is none of these -/
theorem Bag.chg {H H' : Hp} {d c t x : Addr} {xs : List V} {F : List (List Nat)} {done : List Sta} (b : Bag H d c t F done) (hx : H x = some (.lst xs)) (n : d ≠ x ∧ c ≠ x ∧ t ≠ x) (k : But x H H') : Bag H' d c t F done := by
  obtain ⟨cs, c1, c2⟩ := b.com
  obtain ⟨ts, t1, t2⟩ := b.sta
  have z := k.ts hx
  exact ⟨k _ _ n.1 b.dict, ⟨cs, k _ _ n.2.1 c1, c2.mv z⟩, ⟨ts, k _ _ n.2.2 t1, t2.mv z⟩⟩
def sp_one : Sp := fun vs H Q _ => ∃ (v : V) (rs : List Rdr) (g t : Cs), vs = [v] ∧ Tv H v (dRow rs) ∧ Small rs g t ∧ Ret (dR (oneOf g t (wonAll rs g))) H Q
theorem ok_one (T : Top K mg) : FnOk P w K mg base CX0 3 T.f_as_one T.fd_as_one ["row"] sp_one := by
  have G_row_on := ok_row_on (P := P) (w := w) (base := base) T
  have G_row_end := ok_row_end (P := P) (w := w) (base := base) T
  refine T.F_as_one.ok sc_as_one (fun vs H Q E h => ?_) (fun cdv A outer s H vs Q E hr h => ?_)
  · obtain ⟨v, rs, g, t, rfl, _⟩ := h
    rfl
  obtain ⟨v, rs, g, t, rfl, hv, M, q⟩ := h
  have hv0 := hv
  obtain ⟨a, xs, rfl, ha, hX⟩ := hv.dRow
  have R := M.row
  have ne := R.ne
  have rfew := R.few
  have hxl : xs.length = rs.length := by rw [hX.len, List.length_map]
  have e0 : rs[0]? = some (rs[0]'ne) := List.getElem?_eq_getElem ne
  have g0 := M.head _ e0
  generalize rs[0]'ne = r0 at e0 g0
  obtain ⟨x0, hx0, tx0⟩ := dR_at hX e0
  obtain ⟨ra, rss, rxs, rfl, hra, _, _⟩ := tx0.dR
  rw [g0] at hra
  have el : rs[rs.length - 1]? = some (rs[rs.length - 1]'(by omega)) := List.getElem?_eq_getElem (by omega)
  have gl := M.last _ el
  generalize rs[rs.length - 1]'(by omega) = rl at el gl
  obtain ⟨xl, hxl1, txl⟩ := dR_at hX el
  obtain ⟨la, lss, lxs, rfl, hla, _, _⟩ := txl.dR
  rw [gl] at hla
  have S0 := Seats.zero R
  refine ⟨_, (pss_cons (ps_set (i := 1) sc_as_one.nd rfl (Or.inl rfl) (pe_op op_mulT (pe_tupN (pa_cons pe_int pa_nil)) (pe_callB (kLen K rfl) (by rfl) T.m_len PySem.boot_len (pa_cons (pv 0) pa_nil))))
    (pss_cons (ps_set (i := 2) sc_as_one.nd rfl (Or.inl rfl) (pe_disp1 (lt1 hr) (pv 1) pe_int))
    (pss_cons (ps_set (i := 3) sc_as_one.nd rfl (Or.inl rfl) (pe_lstN (pa_cons (pv 1) pa_nil)))
    (pss_cons (ps_set (i := 4) sc_as_one.nd rfl (Or.inl rfl) (pe_lstN pa_nil))
    (pss_cons (ps_while PassesOwn.never (pt_cmpR op_ltG (pe_callB (kLen K rfl) (by rfl) T.m_len PySem.boot_len (pa_cons (pv 4) pa_nil)) (pe_callB (kLen K rfl) (by rfl) T.m_len PySem.boot_len (pa_cons (pv 3) pa_nil)) (nomark _)) (pss_cons (ps_set (i := 5) sc_as_one.nd rfl (Or.inl rfl) (pe_ix (kIx K rfl) (pv 3) (pe_callB (kLen K rfl) (by rfl) T.m_len PySem.boot_len (pa_cons (pv 4) pa_nil)) (fun _ _ => rfl)))
    (pss_cons (ps_set (i := 6) sc_as_one.nd rfl (Or.inl rfl) (pe_lstN pa_nil))
    (pss_cons (ps_for PassesOwn.never rfl (kG K rfl (pe_ix (kIx K rfl) (pe_ix (kIx K rfl) (pv 0) pe_int (fun _ _ => rfl)) pe_int (fun _ _ => rfl))) (pg_name (i := 7) sc_as_one.nd rfl (Or.inl rfl)) (pss_cons (ps_asg (pe_callN G_row_on (hr.mono (by decide)) (by rfl) T.g_row_on T.F_row_on.kp T.kb_row_on pass0 (pa_cons (pv 0) (pa_cons (pv 7) pa_nil)) (pk_cons (pv 5) pk_nil)) (kTg K rfl (n := 2) rfl (pgs_cons (pg_name (i := 8) sc_as_one.nd rfl (Or.inl rfl)) (pgs_cons (pg_name (i := 9) sc_as_one.nd rfl (Or.inl rfl)) pgs_nil))))
    (pss_cons (ps_if (pt_cmp (pc_dnotin (lt1 hr) (pv 8) (pv 2))) (pss_cons (ps_dput (lt1 hr) (pv 2) (pv 8) (pe_callB (kLen K rfl) (by rfl) T.m_len PySem.boot_len (pa_cons (pv 3) pa_nil)) rfl)
    (pss_one (ps_expr (kBm K rfl (pe_bm PySem.F.plainAttrs_list PySem.F.slot_list_append PySem.F.type_list_append mt_appN (pv 3) (pa_cons (pv 8) pa_nil)))))) pss_nil)
    (pss_one (ps_expr (kBm K rfl (pe_bm PySem.F.plainAttrs_list PySem.F.slot_list_append PySem.F.type_list_append mt_appN (pv 6) (pa_cons (pe_tupN (pa_cons (pe_dget (lt1 hr) (pv 2) (pv 8) (fun _ _ => rfl)) (pa_cons (pv 9) pa_nil))) pa_nil))))))))
    (pss_one (ps_expr (kBm K rfl (pe_bm PySem.F.plainAttrs_list PySem.F.slot_list_append PySem.F.type_list_append mt_appN (pv 4) (pa_cons (pe_tupN (pa_cons (pe_callTy (kTuple K rfl) (by rfl) T.m_tuple (by decide +kernel) (pa_cons (pv 6) pa_nil)) (pa_cons (pe_call G_row_end (hr.mono (by first | decide | omega)) (by rfl) T.g_row_end T.F_row_end.kp T.b_row_end .nil pass0 (pa_cons (pv 0) (pa_cons (pv 5) pa_nil))) pa_nil))) pa_nil)))))))))
    (pss_one (ps_ret (pe_tupN (pa_cons (pe_ix (kIx K rfl) (pe_ix (kIx K rfl) (pv 0) pe_int (fun _ _ => rfl)) pe_int (fun _ _ => rfl)) (pa_cons (pe_ix (kIx K rfl) (pe_ix (kIx K rfl) (pv 0) (pe_un un_neg pe_int) (fun _ _ => rfl)) pe_int (fun _ _ => rfl)) (pa_cons (pe_callTy (kTuple K rfl) (by rfl) T.m_tuple (by decide +kernel) (pa_cons (pv 4) pa_nil)) pa_nil))))))))))), ?_⟩
  refine ⟨szS, fun z H1 n1 s1 e1 => ?_⟩
  refine ⟨_, rfl, ?_⟩
  refine ⟨_, _, rfl, .inr ⟨_, SqT.of (s1 _ _ ha), rfl⟩, ?_⟩
  refine ⟨z, _, _, rfl, rfl, e1, by simp, by omega, by omega, by decide, fun za H2 s2 e2 => ?_⟩
  rw [hxl, Int.toNat_natCast, zeros_rep] at e2
  have s02 := s1.trans s2
  -- the dict
  refine fun d H3 n3 s3 e3 => ?_
  refine ⟨_, rfl, ?_⟩
  refine ⟨za, _, rfl, seat_key (s3 _ _ e2), e3, fun H4 b4 e4 => ?_⟩
  have n3' : H d = none := s02.free n3
  have s04 : Same H H4 := same_chg (s02.trans s3) (Same.refl H) n3' b4
  have z4 : H4 za = some (.tup ((List.replicate rs.length 0).map fun s : Nat => V.int (s : Int))) := b4 _ _ (ne_of_none e2 n3) (s3 _ _ e2)
  refine ⟨_, rfl, ?_⟩
  refine ⟨szS, fun c H5 n5 s5 e5 => ?_⟩
  refine ⟨szS, fun tl H6 n6 s6 e6 => ?_⟩
  have n5' : H c = none := s04.free n5
  have n6' : H tl = none := (s04.trans s5).free n6
  have dc : d ≠ c := ne_of_none e4 n5
  have dt : d ≠ tl := ne_of_none (s5 _ _ e4) n6
  have ct : c ≠ tl := ne_of_none e5 n6
  have s56 := s5.trans s6
  have B0 : Bag H6 d c tl [List.replicate rs.length 0] [] := ⟨s56 _ _ e4, ⟨_, s6 _ _ e5, .cons (Tv.mkSeats (s56 _ _ z4)) .nil⟩, ⟨[], e6, .nil⟩⟩
  have O := fun n => won_ok (rs := rs) (reads := g) R M.head n
  refine ⟨fun m σ H' => ∃ (n : Nat) (y5 y6 y7 y8 y9 : Option V), m = 28 - n ∧ σ = [some (.ref a), some (.ref za), some (.ref d), some (.ref c), some (.ref tl), y5, y6, y7, y8, y9] ∧ Same H H' ∧ Bag H' d c tl (won rs g n).seats (won rs g n).told ∧ (won rs g n).told.length = n,
    ⟨_, 0, none, none, none, none, none, rfl, rfl, s04.trans s56, B0, rfl⟩, ?_⟩
  rintro m σ H7 ⟨n, y5, y6, y7, y8, y9, rfl, rfl, s07, B, hn⟩
  obtain ⟨cs, hc, hcV⟩ := B.com
  obtain ⟨ts, ht, htV⟩ := B.sta
  have cl := hcV.len
  have tl' := htV.len
  rw [List.length_map] at cl tl'
  have few27 := seats_short R M.few (O n).known.once (O n).known.seats
  have lefew := (O n).few
  refine ⟨_, rfl, ?_⟩
  refine ⟨_, _, rfl, .inl ⟨_, SqL.of ht, rfl⟩, ?_⟩
  refine ⟨_, rfl, ?_⟩
  refine ⟨_, _, rfl, .inl ⟨_, SqL.of hc, rfl⟩, ?_⟩
  refine Or.inl ⟨_, _, rfl, rfl, _, rfl, ?_⟩
  refine ite2 (fun hlt => ?_) (fun hge => ?_)
  · have tn : ts.length = n := tl'.trans hn
    have hlt : (ts.length : Int) < (cs.length : Int) := of_decide_eq_true hlt
    have hlt' : n < (won rs g n).seats.length := by omega
    refine ⟨fun σ' H' => ∃ y5 y6 y7 y8 y9 : Option V, σ' = [some (.ref a), some (.ref za), some (.ref d), some (.ref c), some (.ref tl), y5, y6, y7, y8, y9] ∧ Same H H' ∧ Bag H' d c tl (won rs g (n + 1)).seats (won rs g (n + 1)).told ∧ (won rs g (n + 1)).told.length = n + 1,
      fun σ' H' p => ?_, ?_⟩
    · obtain ⟨y5, y6, y7, y8, y9, rfl, p2, p3, p4⟩ := p
      exact ⟨28 - (n + 1), by omega, n + 1, y5, y6, y7, y8, y9, rfl, rfl, p2, p3, p4⟩
    have ef : (won rs g n).seats[n]? = some ((won rs g n).seats[n]'hlt') := List.getElem?_eq_getElem hlt'
    generalize (won rs g n).seats[n]'hlt' = f at ef
    have Sf := (O n).known.seats f (List.mem_of_getElem? ef)
    obtain ⟨xh, hxh, txh⟩ := seatV hcV ef
    obtain ⟨hb, rfl, ehb⟩ := seat_of txh
    have step : won rs g (n + 1) = ⟨(ways rs f g (won rs g n).seats []).1, (won rs g n).told ++ [⟨(ways rs f g (won rs g n).seats []).2, rowEnd rs f []⟩]⟩ := by
      show stepW rs g (won rs g n) = _
      unfold stepW
      rw [hn, ef]
    refine ⟨_, rfl, ?_⟩; refine ⟨_, rfl, ?_⟩
    refine ⟨_, _, rfl, .inl ⟨_, SqL.of ht, rfl⟩, ?_⟩
    refine Or.inl ⟨_, _, _, _, rfl, rfl, SqL.of hc, (show atI cs (ts.length : Int) = some (V.ref hb) by rw [tn]; exact atI_nat hxh), ?_⟩
    refine ⟨szS, fun wl H8 n8 s8 e8 => ?_⟩
    have n8' : H wl = none := s07.free n8
    have nwl : d ≠ wl ∧ c ≠ wl ∧ tl ≠ wl := ⟨ne_of_none B.dict n8, ne_of_none hc n8, ne_of_none ht n8⟩
    have s08 := s07.trans s8
    refine Or.inr (Or.inr ?_)
    refine ⟨_, rfl, ?_⟩; refine Or.inr (Or.inl ⟨_, _, _, _, rfl, rfl, SqT.of (s08 _ _ ha), (atI_nat (j := 0) hx0), ?_⟩); refine Or.inr (Or.inl ⟨_, _, _, _, rfl, rfl, SqT.of (s08 _ _ hra), rfl, ?_⟩)
    have one : ∀ ch ∈ g, Tx rs 0 1 [ch] := fun ch hch => ⟨fun r h x hx => by rw [List.mem_singleton.mp hx, M.head r h]; exact hch, by show 1 + 2 ≤ 1 * (1 + 2); decide⟩
    have aim := fun i => ways_are (rs := rs) (here := f) (g.take i) (won rs g n).seats (O n).known fun ch hch => (Sf.on R (one ch (List.mem_of_mem_take hch))).1
    refine ⟨_, rfl, for_it (walk_str (z := tx g)) (fun i σ H' => ∃ y7 y8 y9 : Option V, σ = [some (.ref a), some (.ref za), some (.ref d), some (.ref c), some (.ref tl), some (.ref hb), some (.ref wl), y7, y8, y9] ∧ Same H H' ∧ Bag H' d c tl (ways rs f (g.take i) (won rs g n).seats []).1 (won rs g n).told ∧
        H' hb = some (.tup (f.map fun s : Nat => V.int (s : Int))) ∧ ∃ ws, H' wl = some (.lst ws) ∧ TvA H' ws ((ways rs f (g.take i) (won rs g n).seats []).2.map dW))
      ⟨_, _, _, rfl, s08, B.same s8, s8 _ _ ehb, [], e8, .nil⟩ (fun _ _ _ _ _ => trivial) (fun i x σ H9 H9' hi pv y => ?_) (fun σ H9 pv => ?_)⟩
    · obtain ⟨y7, y8, y9, rfl, s9, B9, eh9, ws, ew, tw⟩ := pv
      obtain ⟨rfl, ch, hch, rfl⟩ := y
      have hch := tx_at hch
      have chg : ch ∈ g := List.mem_of_getElem? hch
      obtain ⟨k1, _, hz2, _⟩ := aim i
      have T1 := one ch chg
      obtain ⟨Sn', _⟩ := Sf.on R T1
      refine ⟨_, rfl, ?_⟩; refine ⟨_, rfl, ?_⟩; refine ⟨_, rfl, ?_⟩
      refine ⟨rfl, rfl, .ref a, .ref hb, rs, f, [ch], 1, rfl, hv0.mv (same_ts s9), R, T1, by decide, Sf, .inr ⟨hb, rfl, Tv.mkSeats ?_⟩, fun xr Hr sr tr => ?_⟩
      · exact eh9
      obtain ⟨pb, bs, rfl, hpb, hB⟩ := tr.tupI
      obtain ⟨x1, r1, rfl, h1, hB⟩ := hB.consI
      obtain ⟨x2, r2, rfl, h2, hB⟩ := hB.consI
      cases hB.nilI
      cases h2.strI
      obtain ⟨nb, rfl, enb⟩ := seat_of h1
      refine ⟨pb, _, rfl, SqT.of hpb, rfl, _, _, rfl, _, _, rfl, rfl, ?_⟩
      have Br := B9.same sr
      have sR := s9.trans sr
      have ewr := sr _ _ ew
      have twr := tw.mv (same_ts sr)
      refine ⟨_, rfl, ?_⟩; refine ⟨_, rfl, ?_⟩
      refine ⟨d, _, rfl, DGet.t Br.dict (seat_key enb), _, rfl, ?_⟩
      by_cases hm : (rowOn rs f [ch]).1 ∈ (ways rs f (g.take i) (won rs g n).seats []).1
      · rw [nums_at _ 0 hm]
        refine iteF ?_
        have em : meet (ways rs f (g.take i) (won rs g n).seats []).1 (rowOn rs f [ch]).1 = (ways rs f (g.take i) (won rs g n).seats []).1 := if_pos hm
        have Bx : Bag Hr d c tl (meet (ways rs f (g.take i) (won rs g n).seats []).1 (rowOn rs f [ch]).1) (won rs g n).told := by rw [em]; exact Br
        have getx : DGet Hr d (.ref nb) (some (.int (((meet (ways rs f (g.take i) (won rs g n).seats []).1 (rowOn rs f [ch]).1).idxOf (rowOn rs f [ch]).1 : Nat) : Int))) := by
          have z := DGet.t Bx.dict (seat_key enb)
          rw [nums_at _ 0 mem_meet, Nat.zero_add] at z
          exact z
        have sx := sR
        have ehx := sr _ _ eh9
        have ewx := ewr
        have twx := twr
        -- what is told of the sign
        refine ⟨_, rfl, .inl ⟨rfl, _, SqL.of ewx⟩, ?_⟩
        refine ⟨_, rfl, ?_⟩; refine ⟨_, rfl, ?_⟩
        refine ⟨d, _, rfl, getx, ?_⟩
        refine ⟨_, rfl, ?_⟩
        refine ⟨szS, fun tp Hy ny sy ey => ?_⟩
        refine ⟨wl, _, _, rfl, rfl, sy _ _ ewx, by have := twx.len; rw [List.length_map, hz2, List.length_map, List.length_take] at this; rw [sizeLine_eq]; have := M.short; omega, fun Hz bz ez => ?_⟩
        have tz := bz.ts (sy _ _ ewx)
        have nxt : ways rs f (g.take (i + 1)) (won rs g n).seats [] = (meet (ways rs f (g.take i) (won rs g n).seats []).1 (rowOn rs f [ch]).1, (ways rs f (g.take i) (won rs g n).seats []).2 ++ [((meet (ways rs f (g.take i) (won rs g n).seats []).1 (rowOn rs f [ch]).1).idxOf (rowOn rs f [ch]).1, (rowOn rs f [ch]).2)]) := by rw [take_snoc hch, ways_snoc]
        refine ⟨_, _, _, rfl, same_chg (sx.trans sy) (Same.refl H) n8' bz, by rw [nxt]; exact (Bx.same sy).chg (sy _ _ ewx) nwl bz, tz _ _ (sy _ _ ehx), _, ez, ?_⟩
        rw [nxt, List.map_append]
        exact (twx.mv (TS.trans (same_ts sy) tz)).snoc (Tv.mv (Tv.mkW (w := ((meet (ways rs f (g.take i) (won rs g n).seats []).1 (rowOn rs f [ch]).1).idxOf (rowOn rs f [ch]).1, (rowOn rs f [ch]).2)) ey) tz)
      · rw [nums_none _ 0 hm]
        refine iteT ?_
        have em : meet (ways rs f (g.take i) (won rs g n).seats []).1 (rowOn rs f [ch]).1 = (ways rs f (g.take i) (won rs g n).seats []).1 ++ [(rowOn rs f [ch]).1] := if_neg hm
        obtain ⟨cr, hcr, hcrV⟩ := Br.com
        obtain ⟨tr', htr, htrV⟩ := Br.sta
        have crl := hcrV.len
        rw [List.length_map] at crl
        have f27 := seats_short R M.few k1.once k1.seats
        refine ⟨_, rfl, ?_⟩
        refine ⟨_, _, rfl, .inl ⟨_, SqL.of hcr, rfl⟩, ?_⟩
        refine ⟨_, rfl, ?_⟩; refine ⟨_, rfl, ?_⟩
        refine ⟨d, _, rfl, DPut.t Br.dict (seat_key enb) (by rw [nums_len, sizeLine_eq]; omega), ?_⟩
        rw [crl, nums_put hm]
        generalize hHp : upd Hr d (.dT (numsFrom 0 ((ways rs f (g.take i) (won rs g n).seats []).1 ++ [(rowOn rs f [ch]).1]))) = Hp
        have bp : But d Hr Hp := by rw [← hHp]; exact But.upd
        have ep : Hp d = some (.dT (numsFrom 0 ((ways rs f (g.take i) (won rs g n).seats []).1 ++ [(rowOn rs f [ch]).1]))) := by rw [← hHp]; exact upd_same
        have tp1 := bp.tsT Br.dict
        have sP : Same H Hp := same_chg sR (Same.refl H) n3' bp
        have hcp := bp _ _ (Ne.symm dc) hcr
        refine ⟨_, rfl, .inl ⟨rfl, _, SqL.of hcp⟩, ?_⟩
        refine ⟨_, rfl, ?_⟩
        refine ⟨c, _, _, rfl, rfl, hcp, by rw [crl, sizeLine_eq]; omega, fun Hx bx ex => ?_⟩
        have tp2 := bx.ts hcp
        have tp3 := tp1.trans tp2
        have sx : Same H Hx := same_chg sP (Same.refl H) n5' bx
        have Bx : Bag Hx d c tl (meet (ways rs f (g.take i) (won rs g n).seats []).1 (rowOn rs f [ch]).1) (won rs g n).told := by
          rw [em]
          refine ⟨bx _ _ dc ep, ⟨_, ex, ?_⟩, ⟨tr', bx _ _ (Ne.symm ct) (bp _ _ (Ne.symm dt) htr), htrV.mv tp3⟩⟩
          rw [List.map_append]
          exact (hcrV.mv tp3).snoc (Tv.mkSeats (tp3 _ _ enb))
        have getx : DGet Hx d (.ref nb) (some (.int (((meet (ways rs f (g.take i) (won rs g n).seats []).1 (rowOn rs f [ch]).1).idxOf (rowOn rs f [ch]).1 : Nat) : Int))) := by
          have z := DGet.t Bx.dict (seat_key (tp3 _ _ enb))
          rw [nums_at _ 0 mem_meet, Nat.zero_add] at z
          exact z
        have ehx := tp3 _ _ (sr _ _ eh9)
        have ewx := bx _ _ (Ne.symm nwl.2.1) (bp _ _ (Ne.symm nwl.1) ewr)
        have twx := twr.mv tp3
        -- what is told of the sign
        refine ⟨_, rfl, .inl ⟨rfl, _, SqL.of ewx⟩, ?_⟩
        refine ⟨_, rfl, ?_⟩; refine ⟨_, rfl, ?_⟩
        refine ⟨d, _, rfl, getx, ?_⟩
        refine ⟨_, rfl, ?_⟩
        refine ⟨szS, fun tp Hy ny sy ey => ?_⟩
        refine ⟨wl, _, _, rfl, rfl, sy _ _ ewx, by have := twx.len; rw [List.length_map, hz2, List.length_map, List.length_take] at this; rw [sizeLine_eq]; have := M.short; omega, fun Hz bz ez => ?_⟩
        have tz := bz.ts (sy _ _ ewx)
        have nxt : ways rs f (g.take (i + 1)) (won rs g n).seats [] = (meet (ways rs f (g.take i) (won rs g n).seats []).1 (rowOn rs f [ch]).1, (ways rs f (g.take i) (won rs g n).seats []).2 ++ [((meet (ways rs f (g.take i) (won rs g n).seats []).1 (rowOn rs f [ch]).1).idxOf (rowOn rs f [ch]).1, (rowOn rs f [ch]).2)]) := by rw [take_snoc hch, ways_snoc]
        refine ⟨_, _, _, rfl, same_chg (sx.trans sy) (Same.refl H) n8' bz, by rw [nxt]; exact (Bx.same sy).chg (sy _ _ ewx) nwl bz, tz _ _ (sy _ _ ehx), _, ez, ?_⟩
        rw [nxt, List.map_append]
        exact (twx.mv (TS.trans (same_ts sy) tz)).snoc (Tv.mv (Tv.mkW (w := ((meet (ways rs f (g.take i) (won rs g n).seats []).1 (rowOn rs f [ch]).1).idxOf (rowOn rs f [ch]).1, (rowOn rs f [ch]).2)) ey) tz)
    · obtain ⟨y7, y8, y9, rfl, s9, B9, eh9, ws, ew, tw⟩ := pv
      rw [tx_size, List.take_length] at B9 tw
      obtain ⟨ts9, t1, t2⟩ := B9.sta
      have tl9 := t2.len
      rw [List.length_map] at tl9
      have few9 := seats_short R M.few (O n).known.once (O n).known.seats
      refine ⟨_, rfl, .inl ⟨rfl, _, SqL.of t1⟩, ?_⟩
      refine ⟨_, rfl, ?_⟩
      refine ⟨_, _, rfl, .inl ⟨SqL.of ew, fun wt Ha na sa ea => ?_⟩⟩
      refine ⟨_, rfl, ?_⟩; refine ⟨_, rfl, ?_⟩
      refine ⟨.ref a, .ref hb, rs, f, rfl, hv0.mv (same_ts (s9.trans sa)), R, Tv.mkSeats (sa _ _ eh9), Sf, fun xe Hb sb tb => ?_⟩
      refine ⟨szS, fun sp Hc nc sc ec => ?_⟩
      have sac := (sa.trans sb).trans sc
      refine ⟨tl, _, _, rfl, rfl, sac _ _ t1, by rw [tl9, sizeLine_eq]; omega, fun Hd bd ed => ?_⟩
      have td := bd.ts (sac _ _ t1)
      have tcd := TS.trans (same_ts sac) td
      have B9c := B9.same sac
      obtain ⟨cs9, c1, c2⟩ := B9c.com
      refine ⟨_, _, _, _, _, rfl, same_chg (s9.trans sac) (Same.refl H) n6' bd, ?_, by rw [step, List.length_append, hn]; rfl⟩
      rw [step]
      refine ⟨bd _ _ dt B9c.dict, ⟨cs9, bd _ _ ct c1, c2.mv td⟩, ⟨_, ed, ?_⟩⟩
      rw [List.map_append]
      refine (t2.mv tcd).snoc (Tv.mv (.tup ec (.cons (.tup ((sb.trans sc) _ _ ea) (tw.mv (same_ts sac))) (.cons (tb.mv (same_ts sc)) .nil))) td)
  · have tn : ts.length = n := tl'.trans hn
    have hge : ¬ (ts.length : Int) < (cs.length : Int) := fun z => hge (decide_eq_true z)
    have hend : won rs g n = wonAll rs g := won_end (by omega) (by omega)
    refine ⟨_, rfl, ?_⟩; refine Or.inr (Or.inl ⟨_, _, _, _, rfl, rfl, SqT.of (s07 _ _ ha), (atI_nat (j := 0) hx0), ?_⟩); refine Or.inr (Or.inl ⟨_, _, _, _, rfl, rfl, SqT.of (s07 _ _ hra), rfl, ?_⟩)
    refine ⟨_, rfl, ?_⟩
    refine ⟨_, rfl, ?_⟩
    refine Or.inr (Or.inl ⟨_, _, _, _, rfl, rfl, SqT.of (s07 _ _ ha), (at_last (n := rs.length - 1) (by omega) hxl1), ?_⟩); refine Or.inr (Or.inl ⟨_, _, _, _, rfl, rfl, SqT.of (s07 _ _ hla), rfl, ?_⟩)
    refine ⟨_, rfl, ?_⟩
    refine ⟨_, _, rfl, .inl ⟨SqL.of ht, fun st H8 n8 s8 e8 => ?_⟩⟩
    refine ⟨szS, fun p H9 n9 s9 e9 => ?_⟩
    rw [hend] at htV
    exact q _ _ ((s07.trans s8).trans s9) (.tup e9 (.cons (.str _) (.cons (.str _) (.cons (.tup (s9 _ _ e8) (htV.mv (same_ts (s8.trans s9)))) .nil))))
end
end Kx

-- @seq _law_one found
namespace Kx
open PySem PySem.Spec PyProof.Rows L2 Fo
section
variable {P : Program} {w : World} {K : PySem.W.Frag} {mg : Str → Option Value} {base : Heap}
/-- the list of seats, the list of states -/
structure Duo (H : Hp) (c t : Addr) (F : List (List Nat)) (done : List Sta) : Prop where
  com : ∃ cs, H c = some (.lst cs) ∧ TvA H cs (F.map dSeats)
  sta : ∃ ts, H t = some (.lst ts) ∧ TvA H ts (done.map dS)
theorem Duo.same {H H' : Hp} {c t : Addr} {F : List (List Nat)} {done : List Sta} (b : Duo H c t F done) (s : Same H H') : Duo H' c t F done := by
  obtain ⟨cs, c1, c2⟩ := b.com
  obtain ⟨ts, t1, t2⟩ := b.sta
  exact ⟨⟨cs, s _ _ c1, c2.mv (same_ts s)⟩, ⟨ts, s _ _ t1, t2.mv (same_ts s)⟩⟩
theorem Duo.chg {H H' : Hp} {c t x : Addr} {xs : List V} {F : List (List Nat)} {done : List Sta} (b : Duo H c t F done) (hx : H x = some (.lst xs)) (n : c ≠ x ∧ t ≠ x) (k : But x H H') : Duo H' c t F done := by
  obtain ⟨cs, c1, c2⟩ := b.com
  obtain ⟨ts, t1, t2⟩ := b.sta
  have z := k.ts hx
  exact ⟨⟨cs, k _ _ n.1 c1, c2.mv z⟩, ⟨ts, k _ _ n.2 t1, t2.mv z⟩⟩
def sp_lone : Sp := fun vs H Q _ => ∃ (v : V) (rs : List Rdr) (g t : Cs), vs = [v] ∧ Tv H v (dRow rs) ∧ Small rs g t ∧
  ∀ (p lf : Addr) (x : V) (xs : List V) (H' : Hp), Same H H' → H lf = none → H' p = some (.tup [x, .ref lf]) → Tv H' x (dR (oneOf g t (wonAll rs g))) → H' lf = some (.lst xs) → TvA H' xs ((wonAll rs g).seats.map dSeats) → Q (.ref p) H'
theorem ok_lone (T : Top K mg) : FnOk P w K mg base CX0 3 T.f__law_one T.fd__law_one ["row"] sp_lone := by
  have G__law_row_on := ok_lrow_on (P := P) (w := w) (base := base) T
  have G__law_row_end := ok_lrow_end (P := P) (w := w) (base := base) T
  refine T.F__law_one.ok sc__law_one (fun vs H Q E h => ?_) (fun cdv A outer s H vs Q E hr h => ?_)
  · obtain ⟨v, rs, g, t, rfl, _⟩ := h
    rfl
  obtain ⟨v, rs, g, t, rfl, hv, M, q⟩ := h
  have hv0 := hv
  obtain ⟨a, xs, rfl, ha, hX⟩ := hv.dRow
  have R := M.row
  have ne := R.ne
  have rfew := R.few
  have hxl : xs.length = rs.length := by rw [hX.len, List.length_map]
  have e0 : rs[0]? = some (rs[0]'ne) := List.getElem?_eq_getElem ne
  have g0 := M.head _ e0
  generalize rs[0]'ne = r0 at e0 g0
  obtain ⟨x0, hx0, tx0⟩ := dR_at hX e0
  obtain ⟨ra, rss, rxs, rfl, hra, _, _⟩ := tx0.dR
  rw [g0] at hra
  have el : rs[rs.length - 1]? = some (rs[rs.length - 1]'(by omega)) := List.getElem?_eq_getElem (by omega)
  have gl := M.last _ el
  generalize rs[rs.length - 1]'(by omega) = rl at el gl
  obtain ⟨xl, hxl1, txl⟩ := dR_at hX el
  obtain ⟨la, lss, lxs, rfl, hla, _, _⟩ := txl.dR
  rw [gl] at hla
  have S0 := Seats.zero R
  refine ⟨_, (pss_cons (ps_set (i := 1) sc__law_one.nd rfl (Or.inl rfl) (pe_lstN (pa_cons (pe_op op_mulT (pe_tupN (pa_cons pe_int pa_nil)) (pe_callB (kLen K rfl) (by rfl) T.m_len PySem.boot_len (pa_cons (pv 0) pa_nil))) pa_nil)))
    (pss_cons (ps_par (i := 2) (j := 3) rfl sc__law_one.nd rfl rfl (by decide) rfl rfl (pa_cons (pe_lstN pa_nil) (pa_cons pe_int pa_nil)) rfl)
    (pss_cons (ps_while PassesOwn.never (pt_cmpR op_ltG (pv 3) (pe_callB (kLen K rfl) (by rfl) T.m_len PySem.boot_len (pa_cons (pv 1) pa_nil)) (nomark _)) (pss_cons (ps_set (i := 4) sc__law_one.nd rfl (Or.inl rfl) (pe_lstN pa_nil))
    (pss_cons (ps_for PassesOwn.never rfl (kG K rfl (pe_ix (kIx K rfl) (pe_ix (kIx K rfl) (pv 0) pe_int (fun _ _ => rfl)) pe_int (fun _ _ => rfl))) (pg_name (i := 5) sc__law_one.nd rfl (Or.inl rfl)) (pss_cons (ps_asg (pe_call G__law_row_on (hr.mono (by first | decide | omega)) (by rfl) T.g__law_row_on T.F__law_row_on.kp T.b__law_row_on .nil pass0 (pa_cons (pv 0) (pa_cons (pe_ix (kIx K rfl) (pv 1) (pv 3) (fun _ _ => rfl)) (pa_cons (pv 5) pa_nil)))) (kTg K rfl (n := 2) rfl (pgs_cons (pg_name (i := 6) sc__law_one.nd rfl (Or.inl rfl)) (pgs_cons (pg_name (i := 7) sc__law_one.nd rfl (Or.inl rfl)) pgs_nil))))
    (pss_cons (ps_if (pt_cmpR (op_notInD (lt65 hr)) (pv 6) (pv 1) rfl) (pss_one (ps_expr (kBm K rfl (pe_bm PySem.F.plainAttrs_list PySem.F.slot_list_append PySem.F.type_list_append mt_appN (pv 1) (pa_cons (pv 6) pa_nil))))) pss_nil)
    (pss_one (ps_expr (kBm K rfl (pe_bm PySem.F.plainAttrs_list PySem.F.slot_list_append PySem.F.type_list_append mt_appN (pv 4) (pa_cons (pe_tupN (pa_cons (kBm K rfl (pe_bm PySem.F.plainAttrs_list PySem.F.slot_list_index PySem.F.type_list_index (mt_indexD (lt65 hr)) (pv 1) (pa_cons (pv 6) pa_nil))) (pa_cons (pv 7) pa_nil))) pa_nil))))))))
    (pss_cons (ps_expr (kBm K rfl (pe_bm PySem.F.plainAttrs_list PySem.F.slot_list_append PySem.F.type_list_append mt_appN (pv 2) (pa_cons (pe_tupN (pa_cons (pe_callTy (kTuple K rfl) (by rfl) T.m_tuple (by decide +kernel) (pa_cons (pv 4) pa_nil)) (pa_cons (pe_call G__law_row_end (hr.mono (by first | decide | omega)) (by rfl) T.g__law_row_end T.F__law_row_end.kp T.b__law_row_end .nil pass0 (pa_cons (pv 0) (pa_cons (pe_ix (kIx K rfl) (pv 1) (pv 3) (fun _ _ => rfl)) pa_nil))) pa_nil))) pa_nil))))
    (pss_one (ps_set (i := 3) sc__law_one.nd rfl (Or.inl rfl) (pe_op op_addG (pv 3) pe_int)))))))
    (pss_one (ps_ret (pe_tupN (pa_cons (pe_tupN (pa_cons (pe_ix (kIx K rfl) (pe_ix (kIx K rfl) (pv 0) pe_int (fun _ _ => rfl)) pe_int (fun _ _ => rfl)) (pa_cons (pe_ix (kIx K rfl) (pe_ix (kIx K rfl) (pv 0) (pe_un un_neg pe_int) (fun _ _ => rfl)) pe_int (fun _ _ => rfl)) (pa_cons (pe_callTy (kTuple K rfl) (by rfl) T.m_tuple (by decide +kernel) (pa_cons (pv 2) pa_nil)) pa_nil)))) (pa_cons (pv 1) pa_nil)))))))), ?_⟩
  refine ⟨szS, fun z H1 n1 s1 e1 => ?_⟩
  refine ⟨_, rfl, ?_⟩
  refine ⟨_, _, rfl, .inr ⟨_, SqT.of (s1 _ _ ha), rfl⟩, ?_⟩
  refine ⟨z, _, _, rfl, rfl, e1, by simp, by omega, by omega, by decide, fun za H2 s2 e2 => ?_⟩
  rw [hxl, Int.toNat_natCast, zeros_rep] at e2
  have s02 := s1.trans s2
  refine ⟨szS, fun c H5 n5 s5 e5 => ?_⟩
  refine ⟨szS, fun tl H6 n6 s6 e6 => ?_⟩
  refine ⟨_, _, rfl, ?_⟩
  have n5' : H c = none := s02.free n5
  have n6' : H tl = none := (s02.trans s5).free n6
  have ct : c ≠ tl := ne_of_none e5 n6
  have s56 := s5.trans s6
  have B0 : Duo H6 c tl [List.replicate rs.length 0] [] := ⟨⟨_, s6 _ _ e5, .cons (Tv.mkSeats (s56 _ _ e2)) .nil⟩, ⟨[], e6, .nil⟩⟩
  have O := fun n => won_ok (rs := rs) (reads := g) R M.head n
  refine ⟨fun m σ H' => ∃ (n : Nat) (y4 y5 y6 y7 : Option V), m = 28 - n ∧ σ = [some (.ref a), some (.ref c), some (.ref tl), some (.int (n : Int)), y4, y5, y6, y7] ∧ Same H H' ∧ Duo H' c tl (won rs g n).seats (won rs g n).told ∧ (won rs g n).told.length = n,
    ⟨_, 0, none, none, none, none, rfl, rfl, s02.trans s56, B0, rfl⟩, ?_⟩
  rintro m σ H7 ⟨n, y4, y5, y6, y7, rfl, rfl, s07, B, hn⟩
  obtain ⟨cs, hc, hcV⟩ := B.com
  obtain ⟨ts, ht, htV⟩ := B.sta
  have cl := hcV.len
  have tl' := htV.len
  rw [List.length_map] at cl tl'
  have few27 := seats_short R M.few (O n).known.once (O n).known.seats
  have lefew := (O n).few
  refine ⟨_, rfl, ?_⟩; refine ⟨_, rfl, ?_⟩
  refine ⟨_, _, rfl, .inl ⟨_, SqL.of hc, rfl⟩, ?_⟩
  refine Or.inl ⟨_, _, rfl, rfl, _, rfl, ?_⟩
  refine ite2 (fun hlt => ?_) (fun hge => ?_)
  · have hlt : (n : Int) < (cs.length : Int) := of_decide_eq_true hlt
    have hlt' : n < (won rs g n).seats.length := by omega
    refine ⟨fun σ' H' => ∃ y4 y5 y6 y7 : Option V, σ' = [some (.ref a), some (.ref c), some (.ref tl), some (.int ((n + 1 : Nat) : Int)), y4, y5, y6, y7] ∧ Same H H' ∧ Duo H' c tl (won rs g (n + 1)).seats (won rs g (n + 1)).told ∧ (won rs g (n + 1)).told.length = n + 1,
      fun σ' H' p => ?_, ?_⟩
    · obtain ⟨y4, y5, y6, y7, rfl, p2, p3, p4⟩ := p
      exact ⟨28 - (n + 1), by omega, n + 1, y4, y5, y6, y7, rfl, rfl, p2, p3, p4⟩
    have ef : (won rs g n).seats[n]? = some ((won rs g n).seats[n]'hlt') := List.getElem?_eq_getElem hlt'
    generalize (won rs g n).seats[n]'hlt' = f at ef
    have Sf := (O n).known.seats f (List.mem_of_getElem? ef)
    have step : won rs g (n + 1) = ⟨(ways rs f g (won rs g n).seats []).1, (won rs g n).told ++ [⟨(ways rs f g (won rs g n).seats []).2, rowEnd rs f []⟩]⟩ := by
      show stepW rs g (won rs g n) = _
      unfold stepW
      rw [hn, ef]
    refine ⟨szS, fun wl H8 n8 s8 e8 => ?_⟩
    have n8' : H wl = none := s07.free n8
    have nwl : c ≠ wl ∧ tl ≠ wl := ⟨ne_of_none hc n8, ne_of_none ht n8⟩
    have s08 := s07.trans s8
    refine Or.inr (Or.inr ?_)
    refine ⟨_, rfl, ?_⟩; refine Or.inr (Or.inl ⟨_, _, _, _, rfl, rfl, SqT.of (s08 _ _ ha), (atI_nat (j := 0) hx0), ?_⟩); refine Or.inr (Or.inl ⟨_, _, _, _, rfl, rfl, SqT.of (s08 _ _ hra), rfl, ?_⟩)
    have one : ∀ ch ∈ g, Tx rs 0 1 [ch] := fun ch hch => ⟨fun r h x hx => by rw [List.mem_singleton.mp hx, M.head r h]; exact hch, by show 1 + 2 ≤ 1 * (1 + 2); decide⟩
    have aim := fun i => ways_are (rs := rs) (here := f) (g.take i) (won rs g n).seats (O n).known fun ch hch => (Sf.on R (one ch (List.mem_of_mem_take hch))).1
    refine ⟨_, rfl, for_it (walk_str (z := tx g)) (fun i σ H' => ∃ y5 y6 y7 : Option V, σ = [some (.ref a), some (.ref c), some (.ref tl), some (.int (n : Int)), some (.ref wl), y5, y6, y7] ∧ Same H H' ∧ Duo H' c tl (ways rs f (g.take i) (won rs g n).seats []).1 (won rs g n).told ∧
        ∃ ws, H' wl = some (.lst ws) ∧ TvA H' ws ((ways rs f (g.take i) (won rs g n).seats []).2.map dW))
      ⟨_, _, _, rfl, s08, B.same s8, [], e8, .nil⟩ (fun _ _ _ _ _ => trivial) (fun i x σ H9 H9' hi pv y => ?_) (fun σ H9 pv => ?_)⟩
    · obtain ⟨y5, y6, y7, rfl, s9, B9, ws, ew, tw⟩ := pv
      obtain ⟨rfl, ch, hch, rfl⟩ := y
      have hch := tx_at hch
      have chg : ch ∈ g := List.mem_of_getElem? hch
      obtain ⟨k1, ⟨G1, hG1⟩, hz2, _⟩ := aim i
      have T1 := one ch chg
      obtain ⟨Sn', _⟩ := Sf.on R T1
      obtain ⟨cr0, hcr0, hcr0V⟩ := B9.com
      have ef9 : (ways rs f (g.take i) (won rs g n).seats []).1[n]? = some f := by rw [hG1, List.getElem?_append_left hlt']; exact ef
      obtain ⟨xh, hxh, txh⟩ := seatV hcr0V ef9
      refine ⟨_, rfl, ?_⟩; refine ⟨_, rfl, ?_⟩; refine ⟨_, rfl, ?_⟩
      refine Or.inl ⟨_, _, _, _, rfl, rfl, SqL.of hcr0, (atI_nat hxh), ?_⟩
      refine ⟨_, rfl, ?_⟩
      refine ⟨.ref a, xh, rs, f, [ch], 1, rfl, hv0.mv (same_ts s9), R, T1, by decide, Sf, txh, fun xr Hr sr tr => ?_⟩
      obtain ⟨pb, bs, rfl, hpb, hB⟩ := tr.tupI
      obtain ⟨x1, r1, rfl, h1, hB⟩ := hB.consI
      obtain ⟨x2, r2, rfl, h2, hB⟩ := hB.consI
      cases hB.nilI
      cases h2.strI
      obtain ⟨nb, rfl, enb⟩ := seat_of h1
      refine ⟨pb, _, rfl, SqT.of hpb, rfl, _, _, rfl, _, _, rfl, rfl, ?_⟩
      have Br := B9.same sr
      have sR := s9.trans sr
      have ewr := sr _ _ ew
      have twr := tw.mv (same_ts sr)
      obtain ⟨cr, hcr, hcrV⟩ := Br.com
      obtain ⟨tr', htr, htrV⟩ := Br.sta
      have crl := hcrV.len
      rw [List.length_map] at crl
      have f27 := seats_short R M.few k1.once k1.seats
      refine ⟨_, rfl, ?_⟩; refine ⟨_, rfl, ?_⟩
      refine ⟨_, _, Tv.dp _ _ h1, .lst (SqL.of hcr) (TvA.dp _ _ hcrV), seats_shape _, found_shape _, _, rfl, ?_⟩
      rw [seats_any]
      by_cases hm : (rowOn rs f [ch]).1 ∈ (ways rs f (g.take i) (won rs g n).seats []).1
      · rw [decide_eq_true hm]
        refine iteF ?_
        have em : meet (ways rs f (g.take i) (won rs g n).seats []).1 (rowOn rs f [ch]).1 = (ways rs f (g.take i) (won rs g n).seats []).1 := if_pos hm
        have Bx : Duo Hr c tl (meet (ways rs f (g.take i) (won rs g n).seats []).1 (rowOn rs f [ch]).1) (won rs g n).told := by rw [em]; exact Br
        have sx := sR
        have ewx := ewr
        have twx := twr
        have enx := enb
        -- what is told of the sign
        obtain ⟨cx, hcx, hcxV⟩ := Bx.com
        refine ⟨_, rfl, .inl ⟨rfl, _, SqL.of ewx⟩, ?_⟩
        refine ⟨_, rfl, .inl ⟨rfl, _, SqL.of hcx⟩, ?_⟩
        refine ⟨_, rfl, ?_⟩
        refine ⟨c, .ref nb, dSeats (rowOn rs f [ch]).1, _, (meet (ways rs f (g.take i) (won rs g n).seats []).1 (rowOn rs f [ch]).1).idxOf (rowOn rs f [ch]).1, _, rfl, rfl, .lst (SqL.of hcx) (TvA.dp _ _ hcxV), Tv.dp _ _ (Tv.mkSeats enx), found_shape _, seats_shape _, (found_first _ mem_meet).1, by rw [seats_eq]; exact decide_eq_true rfl, (found_first _ mem_meet).2, ?_⟩
        refine ⟨_, rfl, ?_⟩
        refine ⟨szS, fun tp Hy ny sy ey => ?_⟩
        refine ⟨wl, _, _, rfl, rfl, sy _ _ ewx, by have := twx.len; rw [List.length_map, hz2, List.length_map, List.length_take] at this; rw [sizeLine_eq]; have := M.short; omega, fun Hz bz ez => ?_⟩
        have tz := bz.ts (sy _ _ ewx)
        have nxt : ways rs f (g.take (i + 1)) (won rs g n).seats [] = (meet (ways rs f (g.take i) (won rs g n).seats []).1 (rowOn rs f [ch]).1, (ways rs f (g.take i) (won rs g n).seats []).2 ++ [((meet (ways rs f (g.take i) (won rs g n).seats []).1 (rowOn rs f [ch]).1).idxOf (rowOn rs f [ch]).1, (rowOn rs f [ch]).2)]) := by rw [take_snoc hch, ways_snoc]
        refine ⟨_, _, _, rfl, same_chg (sx.trans sy) (Same.refl H) n8' bz, by rw [nxt]; exact (Bx.same sy).chg (sy _ _ ewx) nwl bz, _, ez, ?_⟩
        rw [nxt, List.map_append]
        exact (twx.mv (TS.trans (same_ts sy) tz)).snoc (Tv.mv (Tv.mkW (w := ((meet (ways rs f (g.take i) (won rs g n).seats []).1 (rowOn rs f [ch]).1).idxOf (rowOn rs f [ch]).1, (rowOn rs f [ch]).2)) ey) tz)
      · rw [decide_eq_false hm]
        refine iteT ?_
        have em : meet (ways rs f (g.take i) (won rs g n).seats []).1 (rowOn rs f [ch]).1 = (ways rs f (g.take i) (won rs g n).seats []).1 ++ [(rowOn rs f [ch]).1] := if_neg hm
        refine ⟨_, rfl, .inl ⟨rfl, _, SqL.of hcr⟩, ?_⟩
        refine ⟨_, rfl, ?_⟩
        refine ⟨c, _, _, rfl, rfl, hcr, by rw [crl, sizeLine_eq]; omega, fun Hx bx ex => ?_⟩
        have tp3 := bx.ts hcr
        have sx : Same H Hx := same_chg sR (Same.refl H) n5' bx
        have Bx : Duo Hx c tl (meet (ways rs f (g.take i) (won rs g n).seats []).1 (rowOn rs f [ch]).1) (won rs g n).told := by
          rw [em]
          refine ⟨⟨_, ex, ?_⟩, ⟨tr', bx _ _ (Ne.symm ct) htr, htrV.mv tp3⟩⟩
          rw [List.map_append]
          exact (hcrV.mv tp3).snoc (Tv.mkSeats (tp3 _ _ enb))
        have ewx := bx _ _ (Ne.symm nwl.1) ewr
        have twx := twr.mv tp3
        have enx := tp3 _ _ enb
        -- what is told of the sign
        obtain ⟨cx, hcx, hcxV⟩ := Bx.com
        refine ⟨_, rfl, .inl ⟨rfl, _, SqL.of ewx⟩, ?_⟩
        refine ⟨_, rfl, .inl ⟨rfl, _, SqL.of hcx⟩, ?_⟩
        refine ⟨_, rfl, ?_⟩
        refine ⟨c, .ref nb, dSeats (rowOn rs f [ch]).1, _, (meet (ways rs f (g.take i) (won rs g n).seats []).1 (rowOn rs f [ch]).1).idxOf (rowOn rs f [ch]).1, _, rfl, rfl, .lst (SqL.of hcx) (TvA.dp _ _ hcxV), Tv.dp _ _ (Tv.mkSeats enx), found_shape _, seats_shape _, (found_first _ mem_meet).1, by rw [seats_eq]; exact decide_eq_true rfl, (found_first _ mem_meet).2, ?_⟩
        refine ⟨_, rfl, ?_⟩
        refine ⟨szS, fun tp Hy ny sy ey => ?_⟩
        refine ⟨wl, _, _, rfl, rfl, sy _ _ ewx, by have := twx.len; rw [List.length_map, hz2, List.length_map, List.length_take] at this; rw [sizeLine_eq]; have := M.short; omega, fun Hz bz ez => ?_⟩
        have tz := bz.ts (sy _ _ ewx)
        have nxt : ways rs f (g.take (i + 1)) (won rs g n).seats [] = (meet (ways rs f (g.take i) (won rs g n).seats []).1 (rowOn rs f [ch]).1, (ways rs f (g.take i) (won rs g n).seats []).2 ++ [((meet (ways rs f (g.take i) (won rs g n).seats []).1 (rowOn rs f [ch]).1).idxOf (rowOn rs f [ch]).1, (rowOn rs f [ch]).2)]) := by rw [take_snoc hch, ways_snoc]
        refine ⟨_, _, _, rfl, same_chg (sx.trans sy) (Same.refl H) n8' bz, by rw [nxt]; exact (Bx.same sy).chg (sy _ _ ewx) nwl bz, _, ez, ?_⟩
        rw [nxt, List.map_append]
        exact (twx.mv (TS.trans (same_ts sy) tz)).snoc (Tv.mv (Tv.mkW (w := ((meet (ways rs f (g.take i) (won rs g n).seats []).1 (rowOn rs f [ch]).1).idxOf (rowOn rs f [ch]).1, (rowOn rs f [ch]).2)) ey) tz)
    · obtain ⟨y5, y6, y7, rfl, s9, B9, ws, ew, tw⟩ := pv
      obtain ⟨_, ⟨G1, hG1⟩, _, _⟩ := aim (tx g).cps.size
      rw [tx_size, List.take_length] at B9 tw hG1
      obtain ⟨ts9, t1, t2⟩ := B9.sta
      obtain ⟨cs9, c1, c2⟩ := B9.com
      have ef9 : (ways rs f g (won rs g n).seats []).1[n]? = some f := by rw [hG1, List.getElem?_append_left hlt']; exact ef
      obtain ⟨xh, hxh, txh⟩ := seatV c2 ef9
      have tl9 := t2.len
      rw [List.length_map] at tl9
      refine ⟨_, rfl, .inl ⟨rfl, _, SqL.of t1⟩, ?_⟩
      refine ⟨_, rfl, ?_⟩
      refine ⟨_, _, rfl, .inl ⟨SqL.of ew, fun wt Ha na sa ea => ?_⟩⟩
      refine ⟨_, rfl, ?_⟩; refine ⟨_, rfl, ?_⟩; refine ⟨_, rfl, ?_⟩
      refine Or.inl ⟨_, _, _, _, rfl, rfl, SqL.of (sa _ _ c1), (atI_nat hxh), ?_⟩
      refine ⟨.ref a, xh, rs, f, rfl, hv0.mv (same_ts (s9.trans sa)), R, txh.mv (same_ts sa), Sf, fun xe Hb sb tb => ?_⟩
      refine ⟨szS, fun sp Hc nc sc ec => ?_⟩
      have sac := (sa.trans sb).trans sc
      refine ⟨tl, _, _, rfl, rfl, sac _ _ t1, by rw [tl9, sizeLine_eq]; omega, fun Hd bd ed => ?_⟩
      have td := bd.ts (sac _ _ t1)
      have tcd := TS.trans (same_ts sac) td
      refine ⟨_, rfl, ?_⟩; (first | refine Or.inl ⟨_, _, rfl, rfl, ?_⟩ | refine ⟨_, _, rfl, rfl, ?_⟩)
      refine ⟨_, _, _, _, rfl, same_chg (s9.trans sac) (Same.refl H) n6' bd, ?_, by rw [step, List.length_append, hn]; rfl⟩
      rw [step]
      refine ⟨⟨cs9, bd _ _ ct (sac _ _ c1), c2.mv tcd⟩, ⟨_, ed, ?_⟩⟩
      rw [List.map_append]
      refine (t2.mv tcd).snoc (Tv.mv (.tup ec (.cons (.tup ((sb.trans sc) _ _ ea) (tw.mv (same_ts sac))) (.cons (tb.mv (same_ts sc)) .nil))) td)
  · have hge : ¬ (n : Int) < (cs.length : Int) := fun z => hge (decide_eq_true z)
    have hend : won rs g n = wonAll rs g := won_end (by omega) (by omega)
    refine ⟨_, rfl, ?_⟩; refine Or.inr (Or.inl ⟨_, _, _, _, rfl, rfl, SqT.of (s07 _ _ ha), (atI_nat (j := 0) hx0), ?_⟩); refine Or.inr (Or.inl ⟨_, _, _, _, rfl, rfl, SqT.of (s07 _ _ hra), rfl, ?_⟩)
    refine ⟨_, rfl, ?_⟩
    refine ⟨_, rfl, ?_⟩
    refine Or.inr (Or.inl ⟨_, _, _, _, rfl, rfl, SqT.of (s07 _ _ ha), (at_last (n := rs.length - 1) (by omega) hxl1), ?_⟩); refine Or.inr (Or.inl ⟨_, _, _, _, rfl, rfl, SqT.of (s07 _ _ hla), rfl, ?_⟩)
    refine ⟨_, rfl, ?_⟩
    refine ⟨_, _, rfl, .inl ⟨SqL.of ht, fun st H8 n8 s8 e8 => ?_⟩⟩
    refine ⟨szS, fun p H9 n9 s9 e9 => ?_⟩
    refine ⟨_, rfl, ?_⟩
    refine ⟨szS, fun p2 Ha na sa ea => ?_⟩
    rw [hend] at htV hcV
    have s7a := (s8.trans s9).trans sa
    exact q _ c _ cs Ha (s07.trans s7a) n5' ea (.tup (sa _ _ e9) (.cons (.str _) (.cons (.str _) (.cons (.tup ((s9.trans sa) _ _ e8) (htV.mv (same_ts s7a))) .nil)))) (s7a _ _ hc) (hcV.mv (same_ts s7a))
end
end Kx

-- @seq law found
namespace Kx
open PySem PySem.Spec PyProof.Rows L2 Fo
section
variable {P : Program} {w : World} {K : PySem.W.Frag} {mg : Str → Option Value} {base : Heap}
theorem rpR {r : Rdr} (v : r.Val 3 3) (hr : Sn r.reads 6) (ht : Sn r.tells 3) (ln : r.states.length ≤ 5) : RP (Fo.dR r) 5 30000 := by
  have w1 : ∀ s ∈ r.states, RP (.tuple (s.ways.map Fo.dW)) 2 800 := fun s hs => by
    have vs := v.sta s hs
    refine (RP.tupM (k := 1) (M := 130) (fun w hw => ?_)).mono (Nat.le_refl _) ?_
    · have z := vs.way w hw
      exact (RP.tup (k := 0) (M := 64) (mem2 (RP.nat (by omega)) (.str (fun c hc => Nat.lt_trans (ht.cod c (z.2.2 c hc)) (by decide)) (by omega)))).mono (Nat.le_refl _) (by show 2 * (64 + 1) ≤ 130; decide)
    · rw [vs.len]
      have := hr.len
      omega
  have w2 : ∀ s ∈ r.states, RP (Fo.dS s) 3 1610 := fun s hs => by
    have vs := v.sta s hs
    exact (RP.tup (k := 2) (M := 800) (mem2 (w1 s hs) (RP.dO fun t h => ⟨Nat.le_trans (vs.fin t h).1 (by omega), fun c hc => Nat.lt_trans (ht.cod c ((vs.fin t h).2 c hc)) (by decide)⟩))).mono (Nat.le_refl _) (by show 2 * (800 + 1) ≤ 1610; decide)
  have w3 := (RP.tupM w2).mono (k' := 4) (M' := 8100) (Nat.le_refl _) (by omega)
  exact (RP.tup (k := 4) (M := 8100) (mem3 (.str (fun c hc => Nat.lt_trans (hr.cod c hc) (by decide)) (by have := hr.len; omega)) (.str (fun c hc => Nat.lt_trans (ht.cod c hc) (by decide)) (by have := ht.len; omega)) w3)).mono (by decide) (by show 3 * (8100 + 1) ≤ 30000; decide)
theorem rpRow {rs : List Rdr} {g : Cs} {k size : Nat} (W : Wide rs g k size) (hs : size ≤ 5) : RP (dRow rs) 60 1000000 := by
  refine (RP.tupM (k := 5) (M := 30000) (fun r hr => ?_)).mono (by decide) ?_
  · obtain ⟨e1, e2, e3⟩ := W.each r hr
    exact rpR (W.row.val r hr) e2 e3 (by omega)
  · have := W.row.few
    omega
theorem sdR {r : Rdr} {B : Nat} (o : r.Ok B) (h1 : r.states.length ≤ 50000) (h2 : r.reads.length ≤ 50000) : SD 6 (Fo.dR r) := by
  refine ⟨Nat.le_of_ble_eq_true rfl, fun d hd => ?_⟩
  rcases List.mem_cons.mp hd with rfl | hd
  · trivial
  rcases List.mem_cons.mp hd with rfl | hd
  · trivial
  rw [List.mem_singleton.mp hd]
  refine ⟨by rw [List.length_map]; exact h1, fun d hd => ?_⟩
  obtain ⟨s, hs, rfl⟩ := List.mem_map.mp hd
  refine ⟨Nat.le_of_ble_eq_true rfl, fun d hd => ?_⟩
  rcases List.mem_cons.mp hd with rfl | hd
  · refine ⟨by rw [List.length_map, o.ways s hs]; exact h2, fun d hd => ?_⟩
    obtain ⟨w, _, rfl⟩ := List.mem_map.mp hd
    refine ⟨Nat.le_of_ble_eq_true rfl, fun d hd => ?_⟩
    rcases List.mem_cons.mp hd with rfl | hd
    · trivial
    · rw [List.mem_singleton.mp hd]
      trivial
  · rw [List.mem_singleton.mp hd]
    cases s.fin <;> trivial
theorem sdW6 (w : Nat × Cs) : SD 6 (Fo.dW w) := ⟨Nat.le_of_ble_eq_true rfl, fun d hd => by
  rcases List.mem_cons.mp hd with rfl | hd
  · trivial
  · rw [List.mem_singleton.mp hd]
    trivial⟩
theorem sdO6 (o : Option Cs) : SD 6 (dO o) := by cases o <;> trivial
def sp_law (K : PySem.W.Frag) : Sp := fun vs H Q _ => ∃ (a : Addr) (ns : List Int), vs = [.ref a] ∧ SqL K H a (ns.map V.int) ∧ ns.length ≤ 63 ∧ ∀ H', Q (.bl true) H'
theorem ok_law (T : Top K mg) : FnG P w K mg base CX0 7 T.f_law T.fd_law ["script"] (sp_law K) := by
  have G__law_open := ok_open (P := P) (w := w) (base := base) T
  have G__law_take := ok_take (P := P) (w := w) (base := base) T
  have G__law_some_signs := ok_signs (P := P) (w := w) (base := base) T
  have G__law_some_text := ok_text (P := P) (w := w) (base := base) T
  have G__law_wide_row := ok_wide (P := P) (w := w) (base := base) T
  have G__law_row_on := ok_lrow_on (P := P) (w := w) (base := base) T
  have G__law_row_end := ok_lrow_end (P := P) (w := w) (base := base) T
  have G__law_one := ok_lone (P := P) (w := w) (base := base) T
  have G_as_one := ok_one (P := P) (w := w) (base := base) T
  have G_read_on := ok_read_on (P := P) (w := w) (base := base) T
  have G_telling := ok_telling (P := P) (w := w) (base := base) T
  have G__law_same := ok_same (P := P) (w := w) (base := base) T 6
  refine fnG T.F_law sc_law (fun vs H Q E h => ?_) (fun cdv A outer s H vs Q E hgd hr h => ?_)
  · obtain ⟨a, ns, rfl, _⟩ := h
    rfl
  obtain ⟨a, ns, rfl, hS, hlen, q⟩ := h
  refine ⟨_, (pss_cons (ps_set (i := 1) sc_law.nd rfl (Or.inl rfl) (pe_call G__law_open (hr.mono (by first | decide | omega)) (by rfl) T.g__law_open T.F__law_open.kp T.b__law_open .nil pass0 (pa_cons (pv 0) pa_nil)))
    (pss_cons (ps_for PassesOwn.never rfl (pi_range1 rfl T.m_range (pa_cons pe_int pa_nil)) (pg_name (i := 2) sc_law.nd rfl (Or.inl rfl)) (pss_cons (ps_set (i := 3) sc_law.nd rfl (Or.inl rfl) (pe_call G__law_wide_row (hr.mono (by first | decide | omega)) (by rfl) T.g__law_wide_row T.F__law_wide_row.kp T.b__law_wide_row .nil pass0 (pa_cons (pv 1) (pa_cons (pe_call G__law_some_signs (hr.mono (by first | decide | omega)) (by rfl) T.g__law_some_signs T.F__law_some_signs.kp T.b__law_some_signs .nil pass0 (pa_cons (pv 1) (pa_cons (pe_op op_addG pe_int (pe_call G__law_take (hr.mono (by first | decide | omega)) (by rfl) T.g__law_take T.F__law_take.kp T.b__law_take .nil pass0 (pa_cons (pv 1) (pa_cons pe_int pa_nil)))) pa_nil))) (pa_cons pe_int (pa_cons pe_int (pa_cons pe_int pa_nil)))))))
    (pss_cons (ps_set (i := 4) sc_law.nd rfl (Or.inl rfl) (pe_callB (call_reprD K rfl hgd hr) (by rfl) T.m_repr (by decide +kernel) (pa_cons (pv 3) pa_nil)))
    (pss_cons (ps_asg (pe_call G__law_one (hr.mono (by first | decide | omega)) (by rfl) T.g__law_one T.F__law_one.kp T.b__law_one .nil pass0 (pa_cons (pv 3) pa_nil)) (kTg K rfl (n := 2) rfl (pgs_cons (pg_name (i := 5) sc_law.nd rfl (Or.inl rfl)) (pgs_cons (pg_name (i := 6) sc_law.nd rfl (Or.inl rfl)) pgs_nil))))
    (pss_cons (ps_set (i := 7) sc_law.nd rfl (Or.inl rfl) (pe_call G_as_one (hr.mono (by first | decide | omega)) (by rfl) T.g_as_one T.F_as_one.kp T.b_as_one .nil pass0 (pa_cons (pv 3) pa_nil)))
    (pss_cons (ps_if (PW.pt (pw_or (pt_not (pt_val (pe_call G__law_same (hr.mono (by first | decide | omega)) (by rfl) T.g__law_same T.F__law_same.kp T.b__law_same .nil pass0 (pa_cons (pv 7) (pa_cons (pv 5) pa_nil))))) (pw_or (pt_not (pt_val (pe_call G__law_same (hr.mono (by first | decide | omega)) (by rfl) T.g__law_same T.F__law_same.kp T.b__law_same .nil pass0 (pa_cons (pe_call G_as_one (hr.mono (by first | decide | omega)) (by rfl) T.g_as_one T.F_as_one.kp T.b_as_one .nil pass0 (pa_cons (pv 3) pa_nil)) (pa_cons (pv 5) pa_nil))))) (pw_or1 (pt_cmpR (kNe K rfl hr.units) (pe_callB (call_reprD K rfl hgd hr) (by rfl) T.m_repr (by decide +kernel) (pa_cons (pv 3) pa_nil)) (pv 4) (nomark _)))))) (pss_one (ps_ret pe_bl)) pss_nil)
    (pss_one (ps_for PassesOwn.never rfl (pi_range1 rfl T.m_range (pa_cons pe_int pa_nil)) (pg_name (i := 8) sc_law.nd rfl (Or.inl rfl)) (pss_cons (ps_set (i := 9) sc_law.nd rfl (Or.inl rfl) (pe_call G__law_some_text (hr.mono (by first | decide | omega)) (by rfl) T.g__law_some_text T.F__law_some_text.kp T.b__law_some_text .nil pass0 (pa_cons (pv 1) (pa_cons (pe_ix (kIx K rfl) (pe_ix (kIx K rfl) (pv 3) pe_int (fun _ _ => rfl)) pe_int (fun _ _ => rfl)) (pa_cons pe_int pa_nil)))))
    (pss_cons (ps_asg (pe_call G__law_row_on (hr.mono (by first | decide | omega)) (by rfl) T.g__law_row_on T.F__law_row_on.kp T.b__law_row_on .nil pass0 (pa_cons (pv 3) (pa_cons (pe_op op_mulT (pe_tupN (pa_cons pe_int pa_nil)) (pe_callB (kLen K rfl) (by rfl) T.m_len PySem.boot_len (pa_cons (pv 3) pa_nil))) (pa_cons (pv 9) pa_nil)))) (kTg K rfl (n := 2) rfl (pgs_cons (pg_name (i := 10) sc_law.nd rfl (Or.inl rfl)) (pgs_cons (pg_name (i := 11) sc_law.nd rfl (Or.inl rfl)) pgs_nil))))
    (pss_cons (ps_set (i := 12) sc_law.nd rfl (Or.inl rfl) (pe_call G__law_row_end (hr.mono (by first | decide | omega)) (by rfl) T.g__law_row_end T.F__law_row_end.kp T.b__law_row_end .nil pass0 (pa_cons (pv 3) (pa_cons (pv 10) pa_nil))))
    (pss_cons (ps_if (pt_not (pt_val (pe_call G__law_same (hr.mono (by first | decide | omega)) (by rfl) T.g__law_same T.F__law_same.kp T.b__law_same .nil pass0 (pa_cons (pe_call G_read_on (hr.mono (by decide)) (by rfl) T.g_read_on T.F_read_on.kp T.b_read_on T.v_read_on pass0 (pa_cons (pv 7) (pa_cons (pv 9) pa_nil))) (pa_cons (pe_tupN (pa_cons (kBm K rfl (pe_bm PySem.F.plainAttrs_list PySem.F.slot_list_index PySem.F.type_list_index (mt_indexD (lt65 hr)) (pv 6) (pa_cons (pv 10) pa_nil))) (pa_cons (pv 11) pa_nil))) pa_nil))))) (pss_one (ps_ret pe_bl)) pss_nil)
    (pss_cons (ps_if (pt_not (pt_val (pe_call G__law_same (hr.mono (by first | decide | omega)) (by rfl) T.g__law_same T.F__law_same.kp T.b__law_same .nil pass0 (pa_cons (pe_call G_telling (hr.mono (by first | decide | omega)) (by rfl) T.g_telling T.F_telling.kp T.b_telling .nil pass0 (pa_cons (pv 7) (pa_cons (pv 9) pa_nil))) (pa_cons (pe_ifExp (pt_cmpR op_isN (pv 12) pe_non (nomark _)) pe_non (pe_op op_addG (pv 11) (pv 12))) pa_nil))))) (pss_one (ps_ret pe_bl)) pss_nil)
    (pss_cons (ps_set (i := 13) sc_law.nd rfl (Or.inl rfl) (pe_call G__law_take (hr.mono (by first | decide | omega)) (by rfl) T.g__law_take T.F__law_take.kp T.b__law_take .nil pass0 (pa_cons (pv 1) (pa_cons (pe_callB (kLen K rfl) (by rfl) T.m_len PySem.boot_len (pa_cons (pv 6) pa_nil)) pa_nil))))
    (pss_cons (ps_asg (pe_call G__law_row_on (hr.mono (by first | decide | omega)) (by rfl) T.g__law_row_on T.F__law_row_on.kp T.b__law_row_on .nil pass0 (pa_cons (pv 3) (pa_cons (pe_ix (kIx K rfl) (pv 6) (pv 13) (fun _ _ => rfl)) (pa_cons (pv 9) pa_nil)))) (kTg K rfl (n := 2) rfl (pgs_cons (pg_name (i := 10) sc_law.nd rfl (Or.inl rfl)) (pgs_cons (pg_name (i := 11) sc_law.nd rfl (Or.inl rfl)) pgs_nil))))
    (pss_one (ps_if (pt_not (pt_val (pe_call G__law_same (hr.mono (by first | decide | omega)) (by rfl) T.g__law_same T.F__law_same.kp T.b__law_same .nil pass0 (pa_cons (pe_callN G_read_on (hr.mono (by decide)) (by rfl) T.g_read_on T.F_read_on.kp T.kb_read_on pass0 (pa_cons (pv 7) (pa_cons (pv 9) pa_nil)) (pk_cons (pv 13) pk_nil)) (pa_cons (pe_tupN (pa_cons (kBm K rfl (pe_bm PySem.F.plainAttrs_list PySem.F.slot_list_index PySem.F.type_list_index (mt_indexD (lt65 hr)) (pv 6) (pa_cons (pv 10) pa_nil))) (pa_cons (pv 11) pa_nil))) pa_nil))))) (pss_one (ps_ret pe_bl)) pss_nil)))))))))))))))))
    (pss_one (ps_ret pe_bl)))), ?_⟩
  refine ⟨_, rfl, ?_⟩
  refine ⟨a, ns, rfl, hS, hlen, fun p c H1 n1 s1 p1 => ?_⟩
  refine ⟨4, rfl, by decide, by decide, for_range (lo := 0) (n := 4) (fun i σ H' => ∃ y2 y3 y4 y5 y6 y7 y8 y9 z0 z1 z2 z3, σ = [some (.ref a), some (.ref p), y2, y3, y4, y5, y6, y7, y8, y9, z0, z1, z2, z3] ∧ Pen H' p c (3000 * (4 - i)))
    ⟨_, _, _, _, _, _, _, _, _, _, _, _, rfl, p1.less (by decide)⟩ (fun i σ H2 hi pv => ?_) (fun σ H2 pv => ?_)⟩
  · obtain ⟨y2, y3, y4, y5, y6, y7, y8, y9, z0, z1, z2, z3, rfl, p2⟩ := pv
    have p2' : Pen H2 p c (3000 * (4 - (i + 1)) + 3000) := p2.less (by omega)
    generalize 3000 * (4 - (i + 1)) = N at p2'
    refine ⟨_, rfl, ?_⟩; refine ⟨_, rfl, ?_⟩; refine ⟨_, rfl, ?_⟩
    refine ⟨p, c, N + 2999, 3, rfl, p2', by omega, by omega, fun H3 m b3 p3 m0 m1 => ?_⟩
    obtain ⟨m, rfl⟩ : ∃ k : Nat, m = (k : Int) := ⟨m.toNat, by omega⟩
    (first | refine Or.inl ⟨_, _, rfl, rfl, ?_⟩ | refine ⟨_, _, rfl, rfl, ?_⟩)
    refine ⟨p, c, N + 2900, 1 + m, rfl, p3.less (by omega), by omega, fun H4 g b4 p4 S4 => ?_⟩
    have Sg : Sn g 6 := (sn_of S4 (by omega)).le (by omega)
    refine ⟨p, c, N + 900, g, 3, 3, 2, rfl, p4.less (by show N + 900 + 3 * (costR 6 3 2 + 20) ≤ N + 2900; unfold costR; omega), Sg, by decide, by decide, by decide, by decide, by decide, by decide, fun x H5 rs b5 p5 tv W => ?_⟩
    have R := W.row
    have ne := R.ne
    have rfew := R.few
    have rp := rpRow W (by decide)
    obtain ⟨ra, xs, e, ha, hX⟩ := tv.dRow
    subst e
    have hxl : xs.length = rs.length := by rw [hX.len, List.length_map]
    have el : rs[rs.length - 1]? = some (rs[rs.length - 1]'(by omega)) := List.getElem?_eq_getElem (by omega)
    generalize rs[rs.length - 1]'(by omega) = rl at el
    have M : Small rs g rl.tells := ⟨R, W.head, fun r h => by rw [el] at h; cases h; rfl, fun r hr => (W.each r hr).1, by have := Sg.len; omega⟩
    have O := wonAll_ok (rs := rs) (reads := g) R W.head
    have dn := wonAll_done (rs := rs) (reads := g) R W.head M.few
    have f27 := seats_short R M.few O.known.once O.known.seats
    have oOk := one_ok (tells := rl.tells) R W.head O dn
    generalize hWA : wonAll rs g = WA at O dn f27 oOk
    have e0 : rs[0]? = some (rs[0]'ne) := List.getElem?_eq_getElem ne
    have er0 := W.head _ e0
    generalize rs[0]'ne = r0 at e0 er0
    have S0 := Seats.zero R
    have sd6 : SD 6 (Fo.dR (oneOf g rl.tells WA)) := sdR oOk (by show WA.told.length ≤ 50000; omega) (by show g.length ≤ 50000; have := Sg.len; omega)
    refine ⟨_, rfl, ?_⟩
    refine ⟨ra, _, rfl, Tv.dp _ _ tv, rp, ?_⟩
    refine ⟨_, rfl, ?_⟩
    refine ⟨.ref ra, rs, g, rl.tells, rfl, tv, M, fun dp lf dx fs H6 s6 nlf e6 t6 ef hF => ?_⟩
    have dl := p5.ne nlf
    rw [hWA] at t6 hF
    refine ⟨dp, _, rfl, SqT.of e6, rfl, _, _, rfl, _, _, rfl, rfl, ?_⟩
    refine ⟨_, rfl, ?_⟩
    refine ⟨.ref ra, rs, g, rl.tells, rfl, tv.mv (same_ts s6), M, fun ox H7 s7 t7 => ?_⟩
    rw [hWA] at t7
    -- the first three
    refine ⟨_, rfl, ?_⟩; refine ⟨_, rfl, ?_⟩
    refine ⟨ox, dx, _, rfl, Tv.lv _ _ t7, Tv.lv _ _ (t6.mv (same_ts s7)), sd6, fun H8 s8 => ?_⟩
    refine ⟨_, rfl, iteF ?_⟩
    have s68 := s7.trans s8
    refine ⟨_, rfl, ?_⟩
    refine ⟨.ref ra, rs, g, rl.tells, rfl, tv.mv (same_ts (s6.trans s68)), M, fun oy H9 s9 t9 => ?_⟩
    rw [hWA] at t9
    refine ⟨_, rfl, ?_⟩
    refine ⟨oy, dx, _, rfl, Tv.lv _ _ t9, Tv.lv _ _ (t6.mv (same_ts (s68.trans s9))), sd6, fun Ha sa => ?_⟩
    refine ⟨_, rfl, iteF ?_⟩
    have s6a := (s68.trans s9).trans sa
    have s5a := s6.trans s6a
    refine ⟨_, rfl, ?_⟩
    refine ⟨ra, _, rfl, Tv.dp _ _ (tv.mv (same_ts s5a)), rp, ?_⟩
    refine ⟨_, rfl, ?_⟩
    refine Or.inl ⟨rfl, _, rfl, ?_⟩
    rw [decide_eq_true rfl]
    refine iteF ?_
    have pA := p5.same s5a
    have tvA := tv.mv (same_ts s5a)
    have toA := t7.mv (same_ts ((s8.trans s9).trans sa))
    have efA := s6a _ _ ef
    have hFA := hF.mv (same_ts s6a)
    have fl := hFA.len
    rw [List.length_map] at fl
    have fne : 0 < WA.seats.length := (List.getElem?_eq_some_iff.mp O.first).1
    clear p2 p2' p3 p4 p5 t9 t6 hF ef t7
    refine ⟨3, rfl, by decide, by decide, for_range (lo := 0) (n := 3) (fun j σ H' => ∃ y8 y9 z0 z1 z2 z3, σ = [some (.ref a), some (.ref p), some (.int (0 + (i : Int))), some (.ref ra), some (.str (dRow rs).shown), some dx, some (.ref lf), some ox, y8, y9, z0, z1, z2, z3] ∧ But p Ha H' ∧ Pen H' p c (N + 100 * (3 - j)))
      ⟨_, _, _, _, _, _, rfl, But.refl _ _, pA.less (by omega)⟩ (fun j σ Hb hj pv => ?_) (fun σ Hb pv => ?_)⟩
    · obtain ⟨y8, y9, z0, z1, z2, z3, rfl, bb, pb⟩ := pv
      have tb := pA.ts bb
      have tvb := tvA.mv tb
      obtain ⟨rb, xb, e, hrb, hXb⟩ := tvb.dRow
      cases e
      have hxb : xb.length = rs.length := by rw [hXb.len, List.length_map]
      obtain ⟨x0, hx0, tx0⟩ := dR_at hXb e0
      obtain ⟨fa, fss, fxs, rfl, hfa, _, _⟩ := tx0.dR
      rw [er0] at hfa
      refine ⟨_, rfl, ?_⟩; refine ⟨_, rfl, ?_⟩; refine Or.inr (Or.inl ⟨_, _, _, _, rfl, rfl, SqT.of hrb, (atI_nat (j := 0) hx0), ?_⟩); refine Or.inr (Or.inl ⟨_, _, _, _, rfl, rfl, SqT.of hfa, rfl, ?_⟩)
      refine ⟨p, c, N + 100 * (3 - (j + 1)) + 50, g, 12, rfl, pb.less (by omega), Sg.ne, by have := Sg.len; omega, by decide, fun Hc t bc pc tlen tsub => ?_⟩
      have tc := pb.ts bc
      have bac := bb.trans bc
      have tac := pA.ts bac
      have tvc := tvA.mv tac
      have toc := toA.mv tac
      have efc := bac _ _ (Ne.symm dl.1) efA
      have hFc := hFA.mv tac
      have hrc := tc _ _ hrb
      have Tt : Tx rs 0 12 t := ⟨fun r hr c hc => by rw [W.head r hr]; exact tsub c hc, by show t.length + 2 ≤ 1 * (12 + 2); omega⟩
      obtain ⟨S1, T1⟩ := S0.on R Tt
      have tfew := T1.few rfew (by decide)
      obtain ⟨run0, mem0⟩ := one_run (tells := rl.tells) O dn t 0 _ tsub O.first
      have rd0 : Read (oneOf g rl.tells WA) 28000 t 0 := ⟨oOk, oOk.ne, tsub, by omega, by omega, by decide⟩
      have tel := one_telling (tells := rl.tells) O dn tsub
      -- the row
      refine ⟨_, rfl, ?_⟩
      refine ⟨szS, fun z Hd nd sd ed => ?_⟩
      refine ⟨_, rfl, ?_⟩
      refine ⟨_, _, rfl, .inr ⟨_, SqT.of (sd _ _ hrc), rfl⟩, ?_⟩
      refine ⟨z, _, _, rfl, rfl, ed, by simp, by omega, by omega, by decide, fun za He se ee => ?_⟩
      rw [hxb, Int.toNat_natCast, zeros_rep] at ee
      refine ⟨_, rfl, ?_⟩
      have sce := sd.trans se
      refine ⟨.ref ra, .ref za, rs, _, t, 12, rfl, tvc.mv (same_ts sce), R, Tt, by decide, S0, Tv.mkSeats ee, fun xr Hf sf tr => ?_⟩
      obtain ⟨pb1, bs, rfl, hpb, hB⟩ := tr.tupI
      obtain ⟨x1, r1, rfl, h1, hB⟩ := hB.consI
      obtain ⟨x2, r2, rfl, h2, hB⟩ := hB.consI
      cases hB.nilI
      cases h2.strI
      obtain ⟨nb, rfl, enb⟩ := seat_of h1
      refine ⟨pb1, _, rfl, SqT.of hpb, rfl, _, _, rfl, _, _, rfl, rfl, ?_⟩
      have scf := sce.trans sf
      refine ⟨_, rfl, ?_⟩; refine ⟨_, rfl, ?_⟩
      refine ⟨.ref ra, .ref nb, rs, _, rfl, tvc.mv (same_ts scf), R, Tv.mkSeats enb, S1, fun en Hg sg tg => ?_⟩
      have scg := scf.trans sg
      have enbg := sg _ _ enb
      -- what the one tells
      refine ⟨_, rfl, ?_⟩; refine ⟨_, rfl, ?_⟩
      refine ⟨ox, _, 28000, t, 0, rfl, toc.mv (same_ts scg), rd0, fun rz Hh sh th => ?_⟩
      have sch := scg.trans sh
      rw [run0] at th
      refine ⟨_, rfl, .inl ⟨rfl, _, SqL.of (sch _ _ efc)⟩, ?_⟩
      refine ⟨_, rfl, ?_⟩
      refine ⟨lf, .ref nb, dSeats (rowOn rs (List.replicate rs.length 0) t).1, _, WA.seats.idxOf (rowOn rs (List.replicate rs.length 0) t).1, _, rfl, rfl, .lst (SqL.of (sch _ _ efc)) (TvA.dp _ _ (hFc.mv (same_ts sch))), Tv.dp _ _ (Tv.mkSeats (sh _ _ enbg)), found_shape _, seats_shape _, (found_first _ mem0).1, by rw [seats_eq]; exact decide_eq_true rfl, (found_first _ mem0).2, ?_⟩
      refine ⟨_, rfl, ?_⟩
      refine ⟨szS, fun tp Hi ni si ei => ?_⟩
      refine ⟨rz, .ref tp, _, rfl, Tv.lv _ _ (th.mv (same_ts si)), Tv.lv _ _ (Tv.mkW (w := (WA.seats.idxOf (rowOn rs (List.replicate rs.length 0) t).1, (rowOn rs (List.replicate rs.length 0) t).2)) ei), sdW6 _, fun Hj sj => ?_⟩
      refine ⟨_, rfl, iteF ?_⟩
      have scj := (sch.trans si).trans sj
      have sgj := (sh.trans si).trans sj
      have tgj := tg.mv (same_ts sgj)
      refine ⟨_, rfl, ?_⟩; refine ⟨_, rfl, ?_⟩
      refine ⟨ox, _, 28000, t, rfl, toc.mv (same_ts scj), rd0, fun tz Hk sk tk => ?_⟩
      have sck := scj.trans sk
      have tgk := tgj.mv (same_ts sk)
      rw [tel] at tk
      refine ⟨_, rfl, ?_⟩
      refine ⟨rfl, _, rfl, ?_⟩
      cases hf : rowEnd rs (rowOn rs (List.replicate rs.length 0) t).1 [] with
      | none =>
        rw [hf] at tgk tk
        have e0 := tgk.nonI
        subst e0
        refine iteT ?_
        have tu : Tv Hk .non (dO (Option.map ((rowOn rs (List.replicate rs.length 0) t).2 ++ ·) none)) := .non
        refine ⟨tz, _, _, rfl, Tv.lv _ _ tk, Tv.lv _ _ tu, sdO6 _, fun Hl sl => ?_⟩
        refine ⟨_, rfl, iteF ?_⟩
        have scl := sck.trans sl
        have pl := pc.same scl
        refine ⟨_, rfl, ?_⟩; refine ⟨_, rfl, ?_⟩
        refine ⟨_, _, rfl, .inl ⟨_, SqL.of (scl _ _ efc), rfl⟩, ?_⟩
        refine ⟨p, c, N + 100 * (3 - (j + 1)), (fs.length : Int), rfl, pl.less (by omega), by omega, by omega, fun Hm k bm pm k0 k1 => ?_⟩
        obtain ⟨k, rfl⟩ : ∃ j : Nat, k = (j : Int) := ⟨k.toNat, by omega⟩
        have ek : WA.seats[k]? = some (WA.seats[k]'(by omega)) := List.getElem?_eq_getElem (by omega)
        generalize WA.seats[k]'(by omega) = fk at ek
        have Sk := O.known.seats fk (List.mem_of_getElem? ek)
        have tm := pl.ts bm
        have tcm := TS.trans (same_ts scl) tm
        have efm := bm _ _ (Ne.symm dl.1) (scl _ _ efc)
        have hFm := hFc.mv tcm
        obtain ⟨xk, hxk, txk⟩ := seatV hFm ek
        obtain ⟨runk, memk⟩ := one_run (tells := rl.tells) O dn t k fk tsub ek
        have rdk : Read (oneOf g rl.tells WA) 28000 t k := ⟨oOk, by show k < WA.told.length; omega, tsub, by omega, by omega, by decide⟩
        refine ⟨_, rfl, ?_⟩; refine ⟨_, rfl, ?_⟩; refine ⟨_, rfl, ?_⟩
        refine Or.inl ⟨_, _, _, _, rfl, rfl, SqL.of efm, (atI_nat hxk), ?_⟩
        refine ⟨_, rfl, ?_⟩
        refine ⟨.ref ra, xk, rs, fk, t, 12, rfl, tvc.mv tcm, R, Tt, by decide, Sk, txk, fun xr2 Hn sn tn => ?_⟩
        obtain ⟨pb2, bs2, rfl, hpb2, hB⟩ := tn.tupI
        obtain ⟨x1', r1', rfl, h1', hB⟩ := hB.consI
        obtain ⟨x2', r2', rfl, h2', hB⟩ := hB.consI
        cases hB.nilI
        cases h2'.strI
        obtain ⟨nk, rfl, enk⟩ := seat_of h1'
        refine ⟨pb2, _, rfl, SqT.of hpb2, rfl, _, _, rfl, _, _, rfl, rfl, ?_⟩
        refine ⟨_, rfl, ?_⟩; refine ⟨_, rfl, ?_⟩; refine ⟨_, rfl, ?_⟩
        refine ⟨rfl, rfl, ox, _, 28000, t, k, rfl, (toc.mv tcm).mv (same_ts sn), rdk, fun rk Ho so to => ?_⟩
        rw [runk] at to
        have sno := sn.trans so
        refine ⟨_, rfl, .inl ⟨rfl, _, SqL.of (sno _ _ efm)⟩, ?_⟩
        refine ⟨_, rfl, ?_⟩
        refine ⟨lf, .ref nk, dSeats (rowOn rs fk t).1, _, WA.seats.idxOf (rowOn rs fk t).1, _, rfl, rfl, .lst (SqL.of (sno _ _ efm)) (TvA.dp _ _ (hFm.mv (same_ts sno))), Tv.dp _ _ (Tv.mkSeats (so _ _ enk)), found_shape _, seats_shape _, (found_first _ memk).1, by rw [seats_eq]; exact decide_eq_true rfl, (found_first _ memk).2, ?_⟩
        refine ⟨_, rfl, ?_⟩
        refine ⟨szS, fun tp2 Hp np sp ep => ?_⟩
        refine ⟨rk, .ref tp2, _, rfl, Tv.lv _ _ (to.mv (same_ts sp)), Tv.lv _ _ (Tv.mkW (w := (WA.seats.idxOf (rowOn rs fk t).1, (rowOn rs fk t).2)) ep), sdW6 _, fun Hq sq => ?_⟩
        refine ⟨_, rfl, iteF ?_⟩
        have snq := (sno.trans sp).trans sq
        exact ⟨_, _, _, _, _, _, rfl, ((bac.trans (same_but p scl)).trans bm).trans (same_but p snq), pm.same snq⟩
      | some u =>
        rw [hf] at tgk tk
        have e0 := tgk.strI
        subst e0
        refine iteF ?_
        refine ⟨_, rfl, ?_⟩; refine ⟨_, rfl, ?_⟩
        have ufew := rowEnd_few R S1 hf
        refine Or.inr (Or.inl ⟨_, _, rfl, rfl, by rw [tx_len, tx_len, sizeLine_eq]; omega, ?_⟩)
        rw [tx_app]
        have tu : Tv Hk (.str (tx ((rowOn rs (List.replicate rs.length 0) t).2 ++ u))) (dO (Option.map ((rowOn rs (List.replicate rs.length 0) t).2 ++ ·) (some u))) := .str _
        refine ⟨tz, _, _, rfl, Tv.lv _ _ tk, Tv.lv _ _ tu, sdO6 _, fun Hl sl => ?_⟩
        refine ⟨_, rfl, iteF ?_⟩
        have scl := sck.trans sl
        have pl := pc.same scl
        refine ⟨_, rfl, ?_⟩; refine ⟨_, rfl, ?_⟩
        refine ⟨_, _, rfl, .inl ⟨_, SqL.of (scl _ _ efc), rfl⟩, ?_⟩
        refine ⟨p, c, N + 100 * (3 - (j + 1)), (fs.length : Int), rfl, pl.less (by omega), by omega, by omega, fun Hm k bm pm k0 k1 => ?_⟩
        obtain ⟨k, rfl⟩ : ∃ j : Nat, k = (j : Int) := ⟨k.toNat, by omega⟩
        have ek : WA.seats[k]? = some (WA.seats[k]'(by omega)) := List.getElem?_eq_getElem (by omega)
        generalize WA.seats[k]'(by omega) = fk at ek
        have Sk := O.known.seats fk (List.mem_of_getElem? ek)
        have tm := pl.ts bm
        have tcm := TS.trans (same_ts scl) tm
        have efm := bm _ _ (Ne.symm dl.1) (scl _ _ efc)
        have hFm := hFc.mv tcm
        obtain ⟨xk, hxk, txk⟩ := seatV hFm ek
        obtain ⟨runk, memk⟩ := one_run (tells := rl.tells) O dn t k fk tsub ek
        have rdk : Read (oneOf g rl.tells WA) 28000 t k := ⟨oOk, by show k < WA.told.length; omega, tsub, by omega, by omega, by decide⟩
        refine ⟨_, rfl, ?_⟩; refine ⟨_, rfl, ?_⟩; refine ⟨_, rfl, ?_⟩
        refine Or.inl ⟨_, _, _, _, rfl, rfl, SqL.of efm, (atI_nat hxk), ?_⟩
        refine ⟨_, rfl, ?_⟩
        refine ⟨.ref ra, xk, rs, fk, t, 12, rfl, tvc.mv tcm, R, Tt, by decide, Sk, txk, fun xr2 Hn sn tn => ?_⟩
        obtain ⟨pb2, bs2, rfl, hpb2, hB⟩ := tn.tupI
        obtain ⟨x1', r1', rfl, h1', hB⟩ := hB.consI
        obtain ⟨x2', r2', rfl, h2', hB⟩ := hB.consI
        cases hB.nilI
        cases h2'.strI
        obtain ⟨nk, rfl, enk⟩ := seat_of h1'
        refine ⟨pb2, _, rfl, SqT.of hpb2, rfl, _, _, rfl, _, _, rfl, rfl, ?_⟩
        refine ⟨_, rfl, ?_⟩; refine ⟨_, rfl, ?_⟩; refine ⟨_, rfl, ?_⟩
        refine ⟨rfl, rfl, ox, _, 28000, t, k, rfl, (toc.mv tcm).mv (same_ts sn), rdk, fun rk Ho so to => ?_⟩
        rw [runk] at to
        have sno := sn.trans so
        refine ⟨_, rfl, .inl ⟨rfl, _, SqL.of (sno _ _ efm)⟩, ?_⟩
        refine ⟨_, rfl, ?_⟩
        refine ⟨lf, .ref nk, dSeats (rowOn rs fk t).1, _, WA.seats.idxOf (rowOn rs fk t).1, _, rfl, rfl, .lst (SqL.of (sno _ _ efm)) (TvA.dp _ _ (hFm.mv (same_ts sno))), Tv.dp _ _ (Tv.mkSeats (so _ _ enk)), found_shape _, seats_shape _, (found_first _ memk).1, by rw [seats_eq]; exact decide_eq_true rfl, (found_first _ memk).2, ?_⟩
        refine ⟨_, rfl, ?_⟩
        refine ⟨szS, fun tp2 Hp np sp ep => ?_⟩
        refine ⟨rk, .ref tp2, _, rfl, Tv.lv _ _ (to.mv (same_ts sp)), Tv.lv _ _ (Tv.mkW (w := (WA.seats.idxOf (rowOn rs fk t).1, (rowOn rs fk t).2)) ep), sdW6 _, fun Hq sq => ?_⟩
        refine ⟨_, rfl, iteF ?_⟩
        have snq := (sno.trans sp).trans sq
        exact ⟨_, _, _, _, _, _, rfl, ((bac.trans (same_but p scl)).trans bm).trans (same_but p snq), pm.same snq⟩
    · obtain ⟨y8, y9, z0, z1, z2, z3, rfl, bb, pb⟩ := pv
      exact ⟨_, _, _, _, _, _, _, _, _, _, _, _, rfl, pb.less (by omega)⟩
  · exact q _
end
end Kx

namespace Kx
open PySem PySem.Spec PyProof.Rows L2 Fo
theorem all_mk {l : PySem.W.OpenLaw} {w : World} {K : PySem.W.Frag} {h : Heap} {mg : Str → Option Value} {fa f_read_on f_telling f_row_on f_row_end f_as_one f__law_open f__law_spread f__law_take f__law_some_signs f__law_some_text f__law_same f__law_any_reader f__law_more_signs f__law_wider f__law_wide_row f__law_read_on f__law_row_on f__law_row_end f__law_one f_law D_read_on D_row_on : Addr} (X : K.In h) (G : h.Ns mainGlobals mg) (hfa : mg "law" = some (.ref fa))
    {od_read_on an_read_on od_telling an_telling od_row_on an_row_on od_row_end an_row_end od_as_one an_as_one od__law_open an__law_open od__law_spread an__law_spread od__law_take an__law_take od__law_some_signs an__law_some_signs od__law_some_text an__law_some_text od__law_same an__law_same od__law_any_reader an__law_any_reader od__law_more_signs an__law_more_signs od__law_wider an__law_wider od__law_wide_row an__law_wide_row od__law_read_on an__law_read_on od__law_row_on an__law_row_on od__law_row_end an__law_row_end od__law_one an__law_one od_law an_law : Option Addr} {sl_read_on sl_telling sl_row_on sl_row_end sl_as_one sl__law_open sl__law_spread sl__law_take sl__law_some_signs sl__law_some_text sl__law_same sl__law_any_reader sl__law_more_signs sl__law_wider sl__law_wide_row sl__law_read_on sl__law_row_on sl__law_row_end sl__law_one sl_law : Array (Option Value)}
    {oc_read_on dc_read_on pm_read_on cd_read_on ct_read_on oc_telling kV_telling dc_telling pm_telling cd_telling ct_telling oc_row_on dc_row_on pm_row_on cd_row_on ct_row_on oc_row_end kV_row_end dc_row_end pm_row_end cd_row_end ct_row_end oc_as_one kV_as_one dc_as_one pm_as_one cd_as_one ct_as_one oc__law_open kV__law_open dc__law_open pm__law_open cd__law_open ct__law_open oc__law_spread kV__law_spread dc__law_spread pm__law_spread cd__law_spread ct__law_spread oc__law_take kV__law_take dc__law_take pm__law_take cd__law_take ct__law_take oc__law_some_signs kV__law_some_signs dc__law_some_signs pm__law_some_signs cd__law_some_signs ct__law_some_signs oc__law_some_text kV__law_some_text dc__law_some_text pm__law_some_text cd__law_some_text ct__law_some_text oc__law_same kV__law_same dc__law_same pm__law_same cd__law_same ct__law_same oc__law_any_reader kV__law_any_reader dc__law_any_reader pm__law_any_reader cd__law_any_reader ct__law_any_reader oc__law_more_signs kV__law_more_signs dc__law_more_signs pm__law_more_signs cd__law_more_signs ct__law_more_signs oc__law_wider kV__law_wider dc__law_wider pm__law_wider cd__law_wider ct__law_wider oc__law_wide_row kV__law_wide_row dc__law_wide_row pm__law_wide_row cd__law_wide_row ct__law_wide_row oc__law_read_on kV__law_read_on dc__law_read_on pm__law_read_on cd__law_read_on ct__law_read_on oc__law_row_on kV__law_row_on dc__law_row_on pm__law_row_on cd__law_row_on ct__law_row_on oc__law_row_end kV__law_row_end dc__law_row_end pm__law_row_end cd__law_row_end ct__law_row_end oc__law_one kV__law_one dc__law_one pm__law_one cd__law_one ct__law_one oc_law kV_law dc_law pm_law cd_law ct_law u_read_on_state u_row_on_states : Value}
    (a_read_on : PySem.W.nsIn K mainGlobals "read_on" = some (some (.ref f_read_on)))
    (l_read_on : K.lookup f_read_on = some ⟨oc_read_on, od_read_on, .func (PySem.W.fnOf "read_on" "read_on" (defArgs s_read_on) (defBody s_read_on) (defScope s_read_on) .none (.ref D_read_on) dc_read_on pm_read_on an_read_on cd_read_on ct_read_on), sl_read_on⟩)
    (c_read_on : PySem.W.codeIn K cd_read_on "read_on" = true)
    (k_read_on : PySem.W.keepIn K (.ref f_read_on) = true)
    (kd_read_on_state : PySem.W.nsIn K D_read_on "state" = some (some u_read_on_state)) (kr_read_on_state : RelV (.int 0) u_read_on_state)
    (a_telling : PySem.W.nsIn K mainGlobals "telling" = some (some (.ref f_telling)))
    (l_telling : K.lookup f_telling = some ⟨oc_telling, od_telling, .func (PySem.W.fnOf "telling" "telling" (defArgs s_telling) (defBody s_telling) (defScope s_telling) .none kV_telling dc_telling pm_telling an_telling cd_telling ct_telling), sl_telling⟩)
    (c_telling : PySem.W.codeIn K cd_telling "telling" = true)
    (k_telling : PySem.W.keepIn K (.ref f_telling) = true)
    (a_row_on : PySem.W.nsIn K mainGlobals "row_on" = some (some (.ref f_row_on)))
    (l_row_on : K.lookup f_row_on = some ⟨oc_row_on, od_row_on, .func (PySem.W.fnOf "row_on" "row_on" (defArgs s_row_on) (defBody s_row_on) (defScope s_row_on) .none (.ref D_row_on) dc_row_on pm_row_on an_row_on cd_row_on ct_row_on), sl_row_on⟩)
    (c_row_on : PySem.W.codeIn K cd_row_on "row_on" = true)
    (k_row_on : PySem.W.keepIn K (.ref f_row_on) = true)
    (kd_row_on_states : PySem.W.nsIn K D_row_on "states" = some (some u_row_on_states)) (kr_row_on_states : RelV (.non) u_row_on_states)
    (a_row_end : PySem.W.nsIn K mainGlobals "row_end" = some (some (.ref f_row_end)))
    (l_row_end : K.lookup f_row_end = some ⟨oc_row_end, od_row_end, .func (PySem.W.fnOf "row_end" "row_end" (defArgs s_row_end) (defBody s_row_end) (defScope s_row_end) .none kV_row_end dc_row_end pm_row_end an_row_end cd_row_end ct_row_end), sl_row_end⟩)
    (c_row_end : PySem.W.codeIn K cd_row_end "row_end" = true)
    (k_row_end : PySem.W.keepIn K (.ref f_row_end) = true)
    (a_as_one : PySem.W.nsIn K mainGlobals "as_one" = some (some (.ref f_as_one)))
    (l_as_one : K.lookup f_as_one = some ⟨oc_as_one, od_as_one, .func (PySem.W.fnOf "as_one" "as_one" (defArgs s_as_one) (defBody s_as_one) (defScope s_as_one) .none kV_as_one dc_as_one pm_as_one an_as_one cd_as_one ct_as_one), sl_as_one⟩)
    (c_as_one : PySem.W.codeIn K cd_as_one "as_one" = true)
    (k_as_one : PySem.W.keepIn K (.ref f_as_one) = true)
    (a__law_open : PySem.W.nsIn K mainGlobals "_law_open" = some (some (.ref f__law_open)))
    (l__law_open : K.lookup f__law_open = some ⟨oc__law_open, od__law_open, .func (PySem.W.fnOf "_law_open" "_law_open" (defArgs s__law_open) (defBody s__law_open) (defScope s__law_open) .none kV__law_open dc__law_open pm__law_open an__law_open cd__law_open ct__law_open), sl__law_open⟩)
    (c__law_open : PySem.W.codeIn K cd__law_open "_law_open" = true)
    (k__law_open : PySem.W.keepIn K (.ref f__law_open) = true)
    (a__law_spread : PySem.W.nsIn K mainGlobals "_law_spread" = some (some (.ref f__law_spread)))
    (l__law_spread : K.lookup f__law_spread = some ⟨oc__law_spread, od__law_spread, .func (PySem.W.fnOf "_law_spread" "_law_spread" (defArgs s__law_spread) (defBody s__law_spread) (defScope s__law_spread) .none kV__law_spread dc__law_spread pm__law_spread an__law_spread cd__law_spread ct__law_spread), sl__law_spread⟩)
    (c__law_spread : PySem.W.codeIn K cd__law_spread "_law_spread" = true)
    (k__law_spread : PySem.W.keepIn K (.ref f__law_spread) = true)
    (a__law_take : PySem.W.nsIn K mainGlobals "_law_take" = some (some (.ref f__law_take)))
    (l__law_take : K.lookup f__law_take = some ⟨oc__law_take, od__law_take, .func (PySem.W.fnOf "_law_take" "_law_take" (defArgs s__law_take) (defBody s__law_take) (defScope s__law_take) .none kV__law_take dc__law_take pm__law_take an__law_take cd__law_take ct__law_take), sl__law_take⟩)
    (c__law_take : PySem.W.codeIn K cd__law_take "_law_take" = true)
    (k__law_take : PySem.W.keepIn K (.ref f__law_take) = true)
    (a__law_some_signs : PySem.W.nsIn K mainGlobals "_law_some_signs" = some (some (.ref f__law_some_signs)))
    (l__law_some_signs : K.lookup f__law_some_signs = some ⟨oc__law_some_signs, od__law_some_signs, .func (PySem.W.fnOf "_law_some_signs" "_law_some_signs" (defArgs s__law_some_signs) (defBody s__law_some_signs) (defScope s__law_some_signs) .none kV__law_some_signs dc__law_some_signs pm__law_some_signs an__law_some_signs cd__law_some_signs ct__law_some_signs), sl__law_some_signs⟩)
    (c__law_some_signs : PySem.W.codeIn K cd__law_some_signs "_law_some_signs" = true)
    (k__law_some_signs : PySem.W.keepIn K (.ref f__law_some_signs) = true)
    (a__law_some_text : PySem.W.nsIn K mainGlobals "_law_some_text" = some (some (.ref f__law_some_text)))
    (l__law_some_text : K.lookup f__law_some_text = some ⟨oc__law_some_text, od__law_some_text, .func (PySem.W.fnOf "_law_some_text" "_law_some_text" (defArgs s__law_some_text) (defBody s__law_some_text) (defScope s__law_some_text) .none kV__law_some_text dc__law_some_text pm__law_some_text an__law_some_text cd__law_some_text ct__law_some_text), sl__law_some_text⟩)
    (c__law_some_text : PySem.W.codeIn K cd__law_some_text "_law_some_text" = true)
    (k__law_some_text : PySem.W.keepIn K (.ref f__law_some_text) = true)
    (a__law_same : PySem.W.nsIn K mainGlobals "_law_same" = some (some (.ref f__law_same)))
    (l__law_same : K.lookup f__law_same = some ⟨oc__law_same, od__law_same, .func (PySem.W.fnOf "_law_same" "_law_same" (defArgs s__law_same) (defBody s__law_same) (defScope s__law_same) .none kV__law_same dc__law_same pm__law_same an__law_same cd__law_same ct__law_same), sl__law_same⟩)
    (c__law_same : PySem.W.codeIn K cd__law_same "_law_same" = true)
    (k__law_same : PySem.W.keepIn K (.ref f__law_same) = true)
    (a__law_any_reader : PySem.W.nsIn K mainGlobals "_law_any_reader" = some (some (.ref f__law_any_reader)))
    (l__law_any_reader : K.lookup f__law_any_reader = some ⟨oc__law_any_reader, od__law_any_reader, .func (PySem.W.fnOf "_law_any_reader" "_law_any_reader" (defArgs s__law_any_reader) (defBody s__law_any_reader) (defScope s__law_any_reader) .none kV__law_any_reader dc__law_any_reader pm__law_any_reader an__law_any_reader cd__law_any_reader ct__law_any_reader), sl__law_any_reader⟩)
    (c__law_any_reader : PySem.W.codeIn K cd__law_any_reader "_law_any_reader" = true)
    (k__law_any_reader : PySem.W.keepIn K (.ref f__law_any_reader) = true)
    (a__law_more_signs : PySem.W.nsIn K mainGlobals "_law_more_signs" = some (some (.ref f__law_more_signs)))
    (l__law_more_signs : K.lookup f__law_more_signs = some ⟨oc__law_more_signs, od__law_more_signs, .func (PySem.W.fnOf "_law_more_signs" "_law_more_signs" (defArgs s__law_more_signs) (defBody s__law_more_signs) (defScope s__law_more_signs) .none kV__law_more_signs dc__law_more_signs pm__law_more_signs an__law_more_signs cd__law_more_signs ct__law_more_signs), sl__law_more_signs⟩)
    (c__law_more_signs : PySem.W.codeIn K cd__law_more_signs "_law_more_signs" = true)
    (k__law_more_signs : PySem.W.keepIn K (.ref f__law_more_signs) = true)
    (a__law_wider : PySem.W.nsIn K mainGlobals "_law_wider" = some (some (.ref f__law_wider)))
    (l__law_wider : K.lookup f__law_wider = some ⟨oc__law_wider, od__law_wider, .func (PySem.W.fnOf "_law_wider" "_law_wider" (defArgs s__law_wider) (defBody s__law_wider) (defScope s__law_wider) .none kV__law_wider dc__law_wider pm__law_wider an__law_wider cd__law_wider ct__law_wider), sl__law_wider⟩)
    (c__law_wider : PySem.W.codeIn K cd__law_wider "_law_wider" = true)
    (k__law_wider : PySem.W.keepIn K (.ref f__law_wider) = true)
    (a__law_wide_row : PySem.W.nsIn K mainGlobals "_law_wide_row" = some (some (.ref f__law_wide_row)))
    (l__law_wide_row : K.lookup f__law_wide_row = some ⟨oc__law_wide_row, od__law_wide_row, .func (PySem.W.fnOf "_law_wide_row" "_law_wide_row" (defArgs s__law_wide_row) (defBody s__law_wide_row) (defScope s__law_wide_row) .none kV__law_wide_row dc__law_wide_row pm__law_wide_row an__law_wide_row cd__law_wide_row ct__law_wide_row), sl__law_wide_row⟩)
    (c__law_wide_row : PySem.W.codeIn K cd__law_wide_row "_law_wide_row" = true)
    (k__law_wide_row : PySem.W.keepIn K (.ref f__law_wide_row) = true)
    (a__law_read_on : PySem.W.nsIn K mainGlobals "_law_read_on" = some (some (.ref f__law_read_on)))
    (l__law_read_on : K.lookup f__law_read_on = some ⟨oc__law_read_on, od__law_read_on, .func (PySem.W.fnOf "_law_read_on" "_law_read_on" (defArgs s__law_read_on) (defBody s__law_read_on) (defScope s__law_read_on) .none kV__law_read_on dc__law_read_on pm__law_read_on an__law_read_on cd__law_read_on ct__law_read_on), sl__law_read_on⟩)
    (c__law_read_on : PySem.W.codeIn K cd__law_read_on "_law_read_on" = true)
    (k__law_read_on : PySem.W.keepIn K (.ref f__law_read_on) = true)
    (a__law_row_on : PySem.W.nsIn K mainGlobals "_law_row_on" = some (some (.ref f__law_row_on)))
    (l__law_row_on : K.lookup f__law_row_on = some ⟨oc__law_row_on, od__law_row_on, .func (PySem.W.fnOf "_law_row_on" "_law_row_on" (defArgs s__law_row_on) (defBody s__law_row_on) (defScope s__law_row_on) .none kV__law_row_on dc__law_row_on pm__law_row_on an__law_row_on cd__law_row_on ct__law_row_on), sl__law_row_on⟩)
    (c__law_row_on : PySem.W.codeIn K cd__law_row_on "_law_row_on" = true)
    (k__law_row_on : PySem.W.keepIn K (.ref f__law_row_on) = true)
    (a__law_row_end : PySem.W.nsIn K mainGlobals "_law_row_end" = some (some (.ref f__law_row_end)))
    (l__law_row_end : K.lookup f__law_row_end = some ⟨oc__law_row_end, od__law_row_end, .func (PySem.W.fnOf "_law_row_end" "_law_row_end" (defArgs s__law_row_end) (defBody s__law_row_end) (defScope s__law_row_end) .none kV__law_row_end dc__law_row_end pm__law_row_end an__law_row_end cd__law_row_end ct__law_row_end), sl__law_row_end⟩)
    (c__law_row_end : PySem.W.codeIn K cd__law_row_end "_law_row_end" = true)
    (k__law_row_end : PySem.W.keepIn K (.ref f__law_row_end) = true)
    (a__law_one : PySem.W.nsIn K mainGlobals "_law_one" = some (some (.ref f__law_one)))
    (l__law_one : K.lookup f__law_one = some ⟨oc__law_one, od__law_one, .func (PySem.W.fnOf "_law_one" "_law_one" (defArgs s__law_one) (defBody s__law_one) (defScope s__law_one) .none kV__law_one dc__law_one pm__law_one an__law_one cd__law_one ct__law_one), sl__law_one⟩)
    (c__law_one : PySem.W.codeIn K cd__law_one "_law_one" = true)
    (k__law_one : PySem.W.keepIn K (.ref f__law_one) = true)
    (a_law : PySem.W.nsIn K mainGlobals "law" = some (some (.ref f_law)))
    (l_law : K.lookup f_law = some ⟨oc_law, od_law, .func (PySem.W.fnOf "law" "law" (defArgs s_law) (defBody s_law) (defScope s_law) .none kV_law dc_law pm_law an_law cd_law ct_law), sl_law⟩)
    (c_law : PySem.W.codeIn K cd_law "law" = true)
    (k_law : PySem.W.keepIn K (.ref f_law) = true)
    (z_bool : PySem.W.nsIn K mainGlobals "bool" = some none)
    (z_enumerate : PySem.W.nsIn K mainGlobals "enumerate" = some none)
    (z_int : PySem.W.nsIn K mainGlobals "int" = some none)
    (z_isinstance : PySem.W.nsIn K mainGlobals "isinstance" = some none)
    (z_len : PySem.W.nsIn K mainGlobals "len" = some none)
    (z_list : PySem.W.nsIn K mainGlobals "list" = some none)
    (z_min : PySem.W.nsIn K mainGlobals "min" = some none)
    (z_range : PySem.W.nsIn K mainGlobals "range" = some none)
    (z_repr : PySem.W.nsIn K mainGlobals "repr" = some none)
    (z_set : PySem.W.nsIn K mainGlobals "set" = some none)
    (z_sorted : PySem.W.nsIn K mainGlobals "sorted" = some none)
    (z_str : PySem.W.nsIn K mainGlobals "str" = some none)
    (z_tuple : PySem.W.nsIn K mainGlobals "tuple" = some none)
    (z_zip : PySem.W.nsIn K mainGlobals "zip" = some none) :
    ∃ fd : FuncData, (∀ (s : Shared) (v : Value), BindsTo s fd ⟨[v], []⟩ [("script", v)]) ∧ ∀ base : Heap, K.In base → base.Ns mainGlobals mg → FnG l.prog w K mg base CX0 7 fa fd ["script"] (sp_law K) := by
  have e := hfa.symm.trans (PySem.W.mg_of X G a_law)
  cases e
  have F_read_on : FunD K "read_on" "read_on" (defArgs s_read_on) (defBody s_read_on) (defScope s_read_on) [] [("state", .int 0)] f_read_on _ := ⟨⟨_, _, _, _, _, _, _, _, _, _, rfl, l_read_on, c_read_on, .inl ⟨rfl, rfl⟩, .inr ⟨_, rfl, fun z hz => by
    rw [List.mem_singleton.mp hz]
    exact ⟨_, kd_read_on_state, kr_read_on_state⟩⟩⟩, k_read_on⟩
  obtain ⟨ds_read_on, v_read_on, b_read_on⟩ := F_read_on.binds0 (ps := ["reader", "text", "state"]) 2 (by decide) rfl fun D doc pm an cdv ct us ks h1 h2 => match us, h1, ks, h2 with | [_, _], _, [_], _ => ⟨_, _, _, _, _, _, rfl, rfl, rfl⟩
  have kb_read_on := kb_of (ps := ["reader", "text", "state"]) (n := 2) (ks := ["state"]) F_read_on fun kV doc pm an cdv ct us ws h1 h2 => match us, h1, ws, h2 with | [_, _], _, [_], _ => rfl
  have F_telling := fun_mk (st := s_telling) l_telling c_telling k_telling
  have b_telling := F_telling.binds (ps := ["reader", "text"]) fun _ _ _ _ _ _ us hl => match us, hl with | [_, _], _ => rfl
  have F_row_on : FunD K "row_on" "row_on" (defArgs s_row_on) (defBody s_row_on) (defScope s_row_on) [] [("states", .non)] f_row_on _ := ⟨⟨_, _, _, _, _, _, _, _, _, _, rfl, l_row_on, c_row_on, .inl ⟨rfl, rfl⟩, .inr ⟨_, rfl, fun z hz => by
    rw [List.mem_singleton.mp hz]
    exact ⟨_, kd_row_on_states, kr_row_on_states⟩⟩⟩, k_row_on⟩
  obtain ⟨ds_row_on, v_row_on, b_row_on⟩ := F_row_on.binds0 (ps := ["row", "text", "states"]) 2 (by decide) rfl fun D doc pm an cdv ct us ks h1 h2 => match us, h1, ks, h2 with | [_, _], _, [_], _ => ⟨_, _, _, _, _, _, rfl, rfl, rfl⟩
  have kb_row_on := kb_of (ps := ["row", "text", "states"]) (n := 2) (ks := ["states"]) F_row_on fun kV doc pm an cdv ct us ws h1 h2 => match us, h1, ws, h2 with | [_, _], _, [_], _ => rfl
  have F_row_end := fun_mk (st := s_row_end) l_row_end c_row_end k_row_end
  have b_row_end := F_row_end.binds (ps := ["row", "states"]) fun _ _ _ _ _ _ us hl => match us, hl with | [_, _], _ => rfl
  have F_as_one := fun_mk (st := s_as_one) l_as_one c_as_one k_as_one
  have b_as_one := F_as_one.binds (ps := ["row"]) fun _ _ _ _ _ _ us hl => match us, hl with | [_], _ => rfl
  have F__law_open := fun_mk (st := s__law_open) l__law_open c__law_open k__law_open
  have b__law_open := F__law_open.binds (ps := ["script"]) fun _ _ _ _ _ _ us hl => match us, hl with | [_], _ => rfl
  have F__law_spread := fun_mk (st := s__law_spread) l__law_spread c__law_spread k__law_spread
  have b__law_spread := F__law_spread.binds (ps := ["cell", "at"]) fun _ _ _ _ _ _ us hl => match us, hl with | [_, _], _ => rfl
  have F__law_take := fun_mk (st := s__law_take) l__law_take c__law_take k__law_take
  have b__law_take := F__law_take.binds (ps := ["pen", "amount"]) fun _ _ _ _ _ _ us hl => match us, hl with | [_, _], _ => rfl
  have F__law_some_signs := fun_mk (st := s__law_some_signs) l__law_some_signs c__law_some_signs k__law_some_signs
  have b__law_some_signs := F__law_some_signs.binds (ps := ["pen", "amount"]) fun _ _ _ _ _ _ us hl => match us, hl with | [_, _], _ => rfl
  have F__law_some_text := fun_mk (st := s__law_some_text) l__law_some_text c__law_some_text k__law_some_text
  have b__law_some_text := F__law_some_text.binds (ps := ["pen", "signs", "most"]) fun _ _ _ _ _ _ us hl => match us, hl with | [_, _, _], _ => rfl
  have F__law_same := fun_mk (st := s__law_same) l__law_same c__law_same k__law_same
  have b__law_same := F__law_same.binds (ps := ["found", "due"]) fun _ _ _ _ _ _ us hl => match us, hl with | [_, _], _ => rfl
  have F__law_any_reader := fun_mk (st := s__law_any_reader) l__law_any_reader c__law_any_reader k__law_any_reader
  have b__law_any_reader := F__law_any_reader.binds (ps := ["pen", "reads", "tells", "size", "most"]) fun _ _ _ _ _ _ us hl => match us, hl with | [_, _, _, _, _], _ => rfl
  have F__law_more_signs := fun_mk (st := s__law_more_signs) l__law_more_signs c__law_more_signs k__law_more_signs
  have b__law_more_signs := F__law_more_signs.binds (ps := ["pen", "reads"]) fun _ _ _ _ _ _ us hl => match us, hl with | [_, _], _ => rfl
  have F__law_wider := fun_mk (st := s__law_wider) l__law_wider c__law_wider k__law_wider
  have b__law_wider := F__law_wider.binds (ps := ["pen", "signs"]) fun _ _ _ _ _ _ us hl => match us, hl with | [_, _], _ => rfl
  have F__law_wide_row := fun_mk (st := s__law_wide_row) l__law_wide_row c__law_wide_row k__law_wide_row
  have b__law_wide_row := F__law_wide_row.binds (ps := ["pen", "reads", "often", "size", "most"]) fun _ _ _ _ _ _ us hl => match us, hl with | [_, _, _, _, _], _ => rfl
  have F__law_read_on := fun_mk (st := s__law_read_on) l__law_read_on c__law_read_on k__law_read_on
  have b__law_read_on := F__law_read_on.binds (ps := ["reader", "seat", "text"]) fun _ _ _ _ _ _ us hl => match us, hl with | [_, _, _], _ => rfl
  have F__law_row_on := fun_mk (st := s__law_row_on) l__law_row_on c__law_row_on k__law_row_on
  have b__law_row_on := F__law_row_on.binds (ps := ["row", "states", "text"]) fun _ _ _ _ _ _ us hl => match us, hl with | [_, _, _], _ => rfl
  have F__law_row_end := fun_mk (st := s__law_row_end) l__law_row_end c__law_row_end k__law_row_end
  have b__law_row_end := F__law_row_end.binds (ps := ["row", "states"]) fun _ _ _ _ _ _ us hl => match us, hl with | [_, _], _ => rfl
  have F__law_one := fun_mk (st := s__law_one) l__law_one c__law_one k__law_one
  have b__law_one := F__law_one.binds (ps := ["row"]) fun _ _ _ _ _ _ us hl => match us, hl with | [_], _ => rfl
  have F_law := fun_mk (st := s_law) l_law c_law k_law
  have b_law := F_law.binds (ps := ["script"]) fun _ _ _ _ _ _ us hl => match us, hl with | [_], _ => rfl
  let T : Top K mg := { f_read_on := _, fd_read_on := _, F_read_on := F_read_on, b_read_on := b_read_on, g_read_on := PySem.W.mg_of X G a_read_on, ds_read_on := ds_read_on, v_read_on := v_read_on, kb_read_on := kb_read_on, f_telling := _, fd_telling := _, F_telling := F_telling, b_telling := b_telling, g_telling := PySem.W.mg_of X G a_telling, f_row_on := _, fd_row_on := _, F_row_on := F_row_on, b_row_on := b_row_on, g_row_on := PySem.W.mg_of X G a_row_on, ds_row_on := ds_row_on, v_row_on := v_row_on, kb_row_on := kb_row_on, f_row_end := _, fd_row_end := _, F_row_end := F_row_end, b_row_end := b_row_end, g_row_end := PySem.W.mg_of X G a_row_end, f_as_one := _, fd_as_one := _, F_as_one := F_as_one, b_as_one := b_as_one, g_as_one := PySem.W.mg_of X G a_as_one, f__law_open := _, fd__law_open := _, F__law_open := F__law_open, b__law_open := b__law_open, g__law_open := PySem.W.mg_of X G a__law_open, f__law_spread := _, fd__law_spread := _, F__law_spread := F__law_spread, b__law_spread := b__law_spread, g__law_spread := PySem.W.mg_of X G a__law_spread, f__law_take := _, fd__law_take := _, F__law_take := F__law_take, b__law_take := b__law_take, g__law_take := PySem.W.mg_of X G a__law_take, f__law_some_signs := _, fd__law_some_signs := _, F__law_some_signs := F__law_some_signs, b__law_some_signs := b__law_some_signs, g__law_some_signs := PySem.W.mg_of X G a__law_some_signs, f__law_some_text := _, fd__law_some_text := _, F__law_some_text := F__law_some_text, b__law_some_text := b__law_some_text, g__law_some_text := PySem.W.mg_of X G a__law_some_text, f__law_same := _, fd__law_same := _, F__law_same := F__law_same, b__law_same := b__law_same, g__law_same := PySem.W.mg_of X G a__law_same, f__law_any_reader := _, fd__law_any_reader := _, F__law_any_reader := F__law_any_reader, b__law_any_reader := b__law_any_reader, g__law_any_reader := PySem.W.mg_of X G a__law_any_reader, f__law_more_signs := _, fd__law_more_signs := _, F__law_more_signs := F__law_more_signs, b__law_more_signs := b__law_more_signs, g__law_more_signs := PySem.W.mg_of X G a__law_more_signs, f__law_wider := _, fd__law_wider := _, F__law_wider := F__law_wider, b__law_wider := b__law_wider, g__law_wider := PySem.W.mg_of X G a__law_wider, f__law_wide_row := _, fd__law_wide_row := _, F__law_wide_row := F__law_wide_row, b__law_wide_row := b__law_wide_row, g__law_wide_row := PySem.W.mg_of X G a__law_wide_row, f__law_read_on := _, fd__law_read_on := _, F__law_read_on := F__law_read_on, b__law_read_on := b__law_read_on, g__law_read_on := PySem.W.mg_of X G a__law_read_on, f__law_row_on := _, fd__law_row_on := _, F__law_row_on := F__law_row_on, b__law_row_on := b__law_row_on, g__law_row_on := PySem.W.mg_of X G a__law_row_on, f__law_row_end := _, fd__law_row_end := _, F__law_row_end := F__law_row_end, b__law_row_end := b__law_row_end, g__law_row_end := PySem.W.mg_of X G a__law_row_end, f__law_one := _, fd__law_one := _, F__law_one := F__law_one, b__law_one := b__law_one, g__law_one := PySem.W.mg_of X G a__law_one, f_law := _, fd_law := _, F_law := F_law, b_law := b_law, g_law := PySem.W.mg_of X G a_law, m_bool := PySem.W.mg_none_of X G z_bool, m_enumerate := PySem.W.mg_none_of X G z_enumerate, m_int := PySem.W.mg_none_of X G z_int, m_isinstance := PySem.W.mg_none_of X G z_isinstance, m_len := PySem.W.mg_none_of X G z_len, m_list := PySem.W.mg_none_of X G z_list, m_min := PySem.W.mg_none_of X G z_min, m_range := PySem.W.mg_none_of X G z_range, m_repr := PySem.W.mg_none_of X G z_repr, m_set := PySem.W.mg_none_of X G z_set, m_sorted := PySem.W.mg_none_of X G z_sorted, m_str := PySem.W.mg_none_of X G z_str, m_tuple := PySem.W.mg_none_of X G z_tuple, m_zip := PySem.W.mg_none_of X G z_zip }
  exact ⟨T.fd_law, fun s v => .of_eq rfl, fun base _ _ => ok_law T⟩
end Kx
open PySem PySem.W PyProof.Rows
set_option maxHeartbeats 0 in
theorem PySem.Challenge.cw_foeholes_k07_rows_as_one_holds : PySem.Challenge.rw_foeholes_k07_rows_as_one.Holds := by
  w_on; o_law; k_head; (case hw => w_witness2)
  k_fill
  refine Fo.walkG (l := PySem.Challenge.rw_foeholes_k07_rows_as_one) (n := 63) (k := 7) (x := "script") (sp := Kx.sp_law) rfl (by decide) rfl
    ⟨rfl, by decide, by decide⟩ (fun w h Y => PySem.W.kIn_of Y) ?F (fun K H a ns hl hS => ⟨a, ns, rfl, hS, hl, fun _ => rfl⟩)
  case F =>
    intro w mg fa h KX G hmg
    refine' Kx.all_mk KX G hmg ?a_read_on ?l_read_on ?c_read_on ?k_read_on ?kd_read_on_state ?kr_read_on_state ?a_telling ?l_telling ?c_telling ?k_telling ?a_row_on ?l_row_on ?c_row_on ?k_row_on ?kd_row_on_states ?kr_row_on_states ?a_row_end ?l_row_end ?c_row_end ?k_row_end ?a_as_one ?l_as_one ?c_as_one ?k_as_one ?a__law_open ?l__law_open ?c__law_open ?k__law_open ?a__law_spread ?l__law_spread ?c__law_spread ?k__law_spread ?a__law_take ?l__law_take ?c__law_take ?k__law_take ?a__law_some_signs ?l__law_some_signs ?c__law_some_signs ?k__law_some_signs ?a__law_some_text ?l__law_some_text ?c__law_some_text ?k__law_some_text ?a__law_same ?l__law_same ?c__law_same ?k__law_same ?a__law_any_reader ?l__law_any_reader ?c__law_any_reader ?k__law_any_reader ?a__law_more_signs ?l__law_more_signs ?c__law_more_signs ?k__law_more_signs ?a__law_wider ?l__law_wider ?c__law_wider ?k__law_wider ?a__law_wide_row ?l__law_wide_row ?c__law_wide_row ?k__law_wide_row ?a__law_read_on ?l__law_read_on ?c__law_read_on ?k__law_read_on ?a__law_row_on ?l__law_row_on ?c__law_row_on ?k__law_row_on ?a__law_row_end ?l__law_row_end ?c__law_row_end ?k__law_row_end ?a__law_one ?l__law_one ?c__law_one ?k__law_one ?a_law ?l_law ?c_law ?k_law ?z_bool ?z_enumerate ?z_int ?z_isinstance ?z_len ?z_list ?z_min ?z_range ?z_repr ?z_set ?z_sorted ?z_str ?z_tuple ?z_zip
    (case a_read_on => k_is)
    (case l_read_on => k_is)
    (case c_read_on => k_is)
    (case k_read_on => k_is)
    (case kd_read_on_state => k_is)
    (case kr_read_on_state => first | exact ⟨_, rfl⟩ | exact rfl)
    (case a_telling => k_is)
    (case l_telling => k_is)
    (case c_telling => k_is)
    (case k_telling => k_is)
    (case a_row_on => k_is)
    (case l_row_on => k_is)
    (case c_row_on => k_is)
    (case k_row_on => k_is)
    (case kd_row_on_states => k_is)
    (case kr_row_on_states => first | exact ⟨_, rfl⟩ | exact rfl)
    (case a_row_end => k_is)
    (case l_row_end => k_is)
    (case c_row_end => k_is)
    (case k_row_end => k_is)
    (case a_as_one => k_is)
    (case l_as_one => k_is)
    (case c_as_one => k_is)
    (case k_as_one => k_is)
    (case a__law_open => k_is)
    (case l__law_open => k_is)
    (case c__law_open => k_is)
    (case k__law_open => k_is)
    (case a__law_spread => k_is)
    (case l__law_spread => k_is)
    (case c__law_spread => k_is)
    (case k__law_spread => k_is)
    (case a__law_take => k_is)
    (case l__law_take => k_is)
    (case c__law_take => k_is)
    (case k__law_take => k_is)
    (case a__law_some_signs => k_is)
    (case l__law_some_signs => k_is)
    (case c__law_some_signs => k_is)
    (case k__law_some_signs => k_is)
    (case a__law_some_text => k_is)
    (case l__law_some_text => k_is)
    (case c__law_some_text => k_is)
    (case k__law_some_text => k_is)
    (case a__law_same => k_is)
    (case l__law_same => k_is)
    (case c__law_same => k_is)
    (case k__law_same => k_is)
    (case a__law_any_reader => k_is)
    (case l__law_any_reader => k_is)
    (case c__law_any_reader => k_is)
    (case k__law_any_reader => k_is)
    (case a__law_more_signs => k_is)
    (case l__law_more_signs => k_is)
    (case c__law_more_signs => k_is)
    (case k__law_more_signs => k_is)
    (case a__law_wider => k_is)
    (case l__law_wider => k_is)
    (case c__law_wider => k_is)
    (case k__law_wider => k_is)
    (case a__law_wide_row => k_is)
    (case l__law_wide_row => k_is)
    (case c__law_wide_row => k_is)
    (case k__law_wide_row => k_is)
    (case a__law_read_on => k_is)
    (case l__law_read_on => k_is)
    (case c__law_read_on => k_is)
    (case k__law_read_on => k_is)
    (case a__law_row_on => k_is)
    (case l__law_row_on => k_is)
    (case c__law_row_on => k_is)
    (case k__law_row_on => k_is)
    (case a__law_row_end => k_is)
    (case l__law_row_end => k_is)
    (case c__law_row_end => k_is)
    (case k__law_row_end => k_is)
    (case a__law_one => k_is)
    (case l__law_one => k_is)
    (case c__law_one => k_is)
    (case k__law_one => k_is)
    (case a_law => k_is)
    (case l_law => k_is)
    (case c_law => k_is)
    (case k_law => k_is)
    (case z_bool => k_is)
    (case z_enumerate => k_is)
    (case z_int => k_is)
    (case z_isinstance => k_is)
    (case z_len => k_is)
    (case z_list => k_is)
    (case z_min => k_is)
    (case z_range => k_is)
    (case z_repr => k_is)
    (case z_set => k_is)
    (case z_sorted => k_is)
    (case z_str => k_is)
    (case z_tuple => k_is)
    (case z_zip => k_is)

