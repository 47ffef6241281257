import PyProof.Rows.All
import Wide.All
import OpenK.AllK
import Wide.FinOn
import HandS.ForMost
import HandS.Star
import HandS.NoneIn
import HandS.Wide
import HandS.Conv
import HandS.More
import HandS.IsInst
import HandS.Strs
import HandS.SetFor
import HandS.SortKw
import KE.GoesMore
import KE.GoesEnumKw
import HandS.OwnEq
import PyProof.ReprBulk
import PyProof.Rows.ReprShort
import HandS.Small
import HandS.WideBits
import HandS.Style
import PyProof.Rows.RegStrFacts
import HandS.SortRule
import HandS.ExcInit
import HandS.ExcField
import HandS.ExcIs
import HandS.WordsExc
import HandS.ExcOwn
import KE.KExcIs
import HandS.Defaults
import PyProof.Rows.ReprOcc
import KE.KIntText
import HandS.TupAny
import HandS.EndBits
import PySem.Challenge.RW_meetbooks_k09_levels_by_an_own_going
set_option Elab.async false
set_option linter.all false
set_option maxRecDepth 100000
set_option maxHeartbeats 2000000
/-! A calculus of weakest readings over the hand layer: eE, eT, eA, eS, eB, and a rule a construct. -/
namespace Mb
open PySem PySem.Spec PyProof.Rows L2

def eE (X : Cx) (e : Expr) : TE := fun σ H Q => ∃ (t : TE) (Q' : VK), PE X e t ∧ t σ H Q' ∧ ∀ v H', Q' v H' → Q v H'
theorem eE.mk {X : Cx} {e : Expr} {t : TE} {σ : L2.St} {H : Hp} {Q : VK} (h : PE X e t) (q : t σ H Q) : eE X e σ H Q := ⟨t, Q, h, q, fun _ _ h => h⟩
theorem eE.mono {X : Cx} {e : Expr} {σ : L2.St} {H : Hp} {Q Q' : VK} (h : eE X e σ H Q') (q : ∀ v H', Q' v H' → Q v H') : eE X e σ H Q := let ⟨t, Q0, h1, h2, h3⟩ := h; ⟨t, Q0, h1, h2, fun v H' z => q v H' (h3 v H' z)⟩
def eT (X : Cx) (e : Expr) : TT := fun σ H Q => ∃ t : TT, PT X e t ∧ t σ H Q
def eW (X : Cx) (e : Expr) : TT := fun σ H Q => ∃ t : TT, PW X e t ∧ t σ H Q
def eTs (X : Cx) (e : List Expr) : TT := fun σ H Q => ∃ t : TT, PTs X e t ∧ t σ H Q
def eA (X : Cx) (e : List Expr) : TA := fun σ H Q => ∃ t : TA, PA X e t ∧ t σ H Q
def eS (X : Cx) (e : Stmt) : TS := fun D σ H => ∃ t : TS, PS X e t ∧ t D σ H
def eB (X : Cx) (e : List Stmt) : TS := fun D σ H => ∃ t : TS, PSs X e t ∧ t D σ H
def eG (X : Cx) (e : Expr) : TG := fun v σ H Q => ∃ t : TG, PG X e t ∧ t v σ H Q
def eGs (X : Cx) (e : List Expr) : TGs := fun v σ H Q => ∃ t : TGs, PGs X e t ∧ t v σ H Q
def eI (X : Cx) (tg e : Expr) : TI := fun σ H R => ∃ t : TI, PI X tg e t ∧ t σ H R
def eO (X : Cx) (e : Option Expr) : TO := fun σ H Q => ∃ t : TO, PO X e t ∧ t σ H Q
section
variable {X : Cx}
theorem pe_e {e : Expr} : PE X e (eE X e) := ⟨fun pins s σ H Q I ⟨t, Q', h, q, m⟩ => thn (h.run pins s σ H Q' I q) fun u s' ⟨v, H', I', r, z⟩ => ⟨v, H', I', r, m v H' z⟩⟩
theorem pt_e {e : Expr} : PT X e (eT X e) := ⟨fun pins s σ H Q I ⟨t, h, q⟩ => h.run pins s σ H Q I q⟩
theorem pw_e {e : Expr} : PW X e (eW X e) := ⟨fun whole pins s σ H Q I ⟨t, h, q⟩ => h.run whole pins s σ H Q I q⟩
theorem pts_e {e : List Expr} : PTs X e (eTs X e) := ⟨fun pins s σ H Q I ⟨t, h, q⟩ => h.run pins s σ H Q I q⟩
theorem pa_e {e : List Expr} : PA X e (eA X e) := ⟨fun pos pins s σ H Q I ⟨t, h, q⟩ => h.run pos pins s σ H Q I q⟩
theorem ps_e {e : Stmt} : PS X e (eS X e) := ⟨fun pins s σ H D I ⟨t, h, q⟩ => h.run pins s σ H D I q⟩
theorem pss_e {e : List Stmt} : PSs X e (eB X e) := ⟨fun pins s σ H D I ⟨t, h, q⟩ => h.run pins s σ H D I q⟩
theorem pg_e {e : Expr} : PG X e (eG X e) := ⟨fun pins s σ H v u Q I r ⟨t, h, q⟩ => h.run pins s σ H v u Q I r q⟩
theorem pgs_e {e : List Expr} : PGs X e (eGs X e) := ⟨fun pins s σ H v u Q I r ⟨t, h, q⟩ => h.run pins s σ H v u Q I r q⟩
theorem pi_e {tg e : Expr} : PI X tg e (eI X tg e) := ⟨fun pins s σ H R I ⟨t, h, q⟩ => h.run pins s σ H R I q⟩
theorem po_e {e : Option Expr} : PO X e (eO X e) := ⟨fun pins s σ H Q I ⟨t, h, q⟩ => h.run pins s σ H Q I q⟩
end

/-! ### expressions -/
section
variable {X : Cx} {σ : L2.St} {H : Hp} {Q : VK} {a b c e : Expr} {pos p p2 : Pos} {v : V} {es : List Expr}
theorem w_var (i : Nat) {x : Str} (hs : σ[i]? = some (some v)) (q : Q v H) (hN : X.N[i]? = some x := by rfl) (hv : Vis X.env.scope x := by first | exact Or.inl rfl | exact Or.inr (Or.inl rfl) | exact Or.inr (Or.inr rfl))
    (hd : (x == ("__debug__" : Str)) = false := by decide) (hcd : (x == ("__classdict__" : Str)) = false := by decide) : eE X (.Name x pos) σ H Q := eE.mk (pe_var hN hv hd hcd) ⟨v, hs, q⟩
theorem w_int {i : Int} {j : Nat} (q : Q (.int i) H) : eE X (.Constant (.int i) j pos) σ H Q := eE.mk (pe_int) q
theorem w_bl {i : Bool} {j : Nat} (q : Q (.bl i) H) : eE X (.Constant (.bool i) j pos) σ H Q := eE.mk (pe_bl) q
theorem w_non {j : Nat} (q : Q .non H) : eE X (.Constant .none j pos) σ H Q := eE.mk (pe_non) q
theorem w_str {i : Str} {j : Nat} (q : Q (.str i) H) : eE X (.Constant (.str i) j pos) σ H Q := eE.mk (pe_str) q
theorem w_glob {x : Str} {u : Value} (hm : X.mg x = some u) (r : RelV v u) (q : Q v H) (hg : Gl X x := by rfl) (hd : (x == ("__debug__" : Str)) = false := by decide) : eE X (.Name x pos) σ H Q := eE.mk (pe_glob hg hm r hd) q
theorem w_bltn {x : Str} {u : Value} (hm : X.mg x = none) (hv : bootBuiltins x = some u) (r : RelV v u) (q : Q v H) (hg : Gl X x := by rfl) (hn : x ≠ "__name__" := by decide) (hd : (x == ("__debug__" : Str)) = false := by decide) :
    eE X (.Name x pos) σ H Q := eE.mk (pe_bltn hg hm hv r hn hd) q
theorem w_bin {op : Operator} {r : R2} (ho : OpR X (binaryOp op) r) (q : eE X a σ H fun x H1 => eE X b σ H1 fun y H2 => r x y H2 Q) : eE X (.BinOp a op b pos) σ H Q := eE.mk (pe_op ho pe_e pe_e) q
theorem w_add (q : eE X a σ H fun x H1 => eE X b σ H1 fun y H2 => ∃ i j, x = V.int i ∧ y = V.int j ∧ Q (.int (i + j)) H2) : eE X (.BinOp a .Add b pos) σ H Q := w_bin op_add q
theorem w_un {op : UnaryOp} {r : V → Hp → VK → Prop} (ho : UnR X (unaryOp op) r) (q : eE X a σ H fun x H1 => r x H1 Q) : eE X (.UnaryOp op a pos) σ H Q := eE.mk (pe_un ho pe_e) q
theorem w_cmp {op : CmpOp} {r : R2} (ho : OpR X (compareOp op) r) (q : eE X a σ H fun x H1 => eE X b σ H1 fun y H2 => r x y H2 Q) (hm : behindInMarks op b = false := by first | exact nomark _ | rfl) : eE X (.Compare a [op] [b] pos) σ H Q :=
  eE.mk (pe_cmpR ho pe_e pe_e hm) q
theorem w_chain {op op' : CmpOp} {r r' : R2} (ho : OpR X (compareOp op) r) (ho' : OpR X (compareOp op') r')
    (q : eE X a σ H fun x H1 => eE X b σ H1 fun y H2 => r x y H2 fun z H3 => ∃ k, z = .bl k ∧ (if k = true then eE X c σ H3 fun w' H4 => r' y w' H4 Q else Q (.bl false) H3))
    (hm : lastMarks [op, op'] [b, c] = false := by with_unfolding_all rfl) : eE X (.Compare a [op, op'] [b, c] pos) σ H Q := eE.mk (pe_chain ho ho' pe_e pe_e pe_e hm) q
theorem w_din (hu : X.A.units + 1 < cLine) (q : eE X a σ H fun y H1 => eE X b σ H1 fun x H2 => ∃ a o, x = .ref a ∧ DGet H2 a y o ∧ Q (.bl o.isSome) H2) : behindInMarks .In b = false → eE X (.Compare a [.In] [b] pos) σ H Q := fun hm => eE.mk (pe_cmp (pc_din hu pe_e pe_e) hm) q
theorem w_dnotin (hu : X.A.units + 1 < cLine) (q : eE X a σ H fun y H1 => eE X b σ H1 fun x H2 => ∃ a o, x = .ref a ∧ DGet H2 a y o ∧ Q (.bl (!o.isSome)) H2) : behindInMarks .NotIn b = false → eE X (.Compare a [.NotIn] [b] pos) σ H Q := fun hm => eE.mk (pe_cmp (pc_dnotin hu pe_e pe_e) hm) q
theorem a_nil {Q : List V → Hp → Prop} (q : Q [] H) : eA X [] σ H Q := ⟨_, pa_nil, q⟩
theorem a_cons {Q : List V → Hp → Prop} (q : eE X e σ H fun x H1 => eA X es σ H1 fun xs H2 => Q (x :: xs) H2) (hs : starEach (e :: es) X.env = (false, eval e X.env) :: starEach es X.env := by rfl) : eA X (e :: es) σ H Q :=
  ⟨_, pa_cons pe_e pa_e hs, q⟩
theorem a_star {Q : List V → Hp → Prop} (q : eE X e σ H fun x H1 => ∃ p xs, x = V.ref p ∧ (SqT X.K H1 p xs ∨ SqL X.K H1 p xs) ∧ eA X es σ H1 fun ys H2 => Q (xs ++ ys) H2)
    (hs : starEach (.Starred e p :: es) X.env = (true, eval e X.env) :: starEach es X.env := by rfl) : eA X (.Starred e p :: es) σ H Q := ⟨_, StX.pa_star pe_e pa_e hs, q⟩
theorem w_tup {k : Nat} (q : eA X es σ H fun xs H1 => xs.length ≤ sizeLine ∧ ∀ p, H1 p = none → Q (.ref p) (upd H1 p (.tup xs))) : eE X (.Tuple es k pos) σ H Q := eE.mk (pe_tup pa_e) q
theorem w_lst (q : eA X es σ H fun xs H1 => xs.length ≤ sizeLine ∧ ∀ p, H1 p = none → Q (.ref p) (upd H1 p (.lst xs))) : eE X (.List es pos) σ H Q := eE.mk (pe_lst pa_e) q
theorem w_ix {r : R2} (hr : IxR X r) (q : eE X a σ H fun x H1 => eE X b σ H1 fun y H2 => r x y H2 Q) (hs : PlainIx b := by exact fun _ _ => rfl) : eE X (.Subscript a b pos) σ H Q := eE.mk (pe_ix hr pe_e pe_e hs) q
theorem w_dget (hu : X.A.units + 1 < cLine) (q : eE X a σ H fun x H1 => eE X b σ H1 fun y H2 => ∃ a v, x = .ref a ∧ DGet H2 a y (some v) ∧ Q v H2) (hs : NoSl b := by exact fun _ _ => rfl) : eE X (.Subscript a b pos) σ H Q := eE.mk (pe_dget hu pe_e pe_e hs) q
theorem w_slice {r : V → Option Int → Option Int → Hp → VK → Prop} {lo hi : Option Expr} (hr : SlR X r) (q : eE X e σ H fun x H1 => eO X lo σ H1 fun l H2 => eO X hi σ H2 fun u H3 => r x l u H3 Q) :
    eE X (.Subscript e (.Slice lo hi none p2) pos) σ H Q := eE.mk (pe_slice hr pe_e po_e po_e) q
theorem o_none {Q : Option Int → Hp → Prop} (q : Q none H) : eO X none σ H Q := ⟨_, po_none, q⟩
theorem o_some {Q : Option Int → Hp → Prop} (q : eE X e σ H fun x H1 => ∃ i, x = .int i ∧ Q (some i) H1) : eO X (some e) σ H Q := ⟨_, po_some pe_e, q⟩
theorem w_if (q : eT X c σ H fun k H1 => if k = true then eE X a σ H1 Q else eE X b σ H1 Q) : eE X (.IfExp c a b pos) σ H Q := eE.mk (pe_ifExp pt_e pe_e pe_e) q
theorem w_and (q : eE X a σ H fun x H1 => ∃ c, x = .bl c ∧ if c = true then eE X (.BoolOp .And (b :: es) pos) σ H1 Q else Q (.bl false) H1) : eE X (.BoolOp .And (a :: b :: es) pos) σ H Q := eE.mk (pe_and pe_e pe_e) q
theorem w_or (q : eE X a σ H fun x H1 => ∃ c, x = .bl c ∧ if c = true then Q (.bl true) H1 else eE X (.BoolOp .Or (b :: es) pos) σ H1 Q) : eE X (.BoolOp .Or (a :: b :: es) pos) σ H Q := eE.mk (pe_or pe_e pe_e) q
theorem w_one {op : BoolOp} (q : eE X a σ H Q) : eE X (.BoolOp op [a] pos) σ H Q := eE.mk (pe_one pe_e) q
theorem w_not (q : eE X a σ H fun x H1 => ∃ c, x = .bl c ∧ Q (.bl (!c)) H1) : eE X (.UnaryOp .Not a pos) σ H Q := eE.mk (pe_not pe_e) q
theorem w_callB {id : String} {x : Str} {r : List V → Hp → VK → Prop} (hc : CallR X (.builtin id) r) (hm : X.mg x = none) (hv : bootBuiltins x = some (.builtin id)) (q : eA X (e :: es) σ H fun vs H1 => r vs H1 Q) (hg : Gl X x := by rfl)
    (hn : x ≠ "__name__" := by decide) (hdb : (x == ("__debug__" : Str)) = false := by decide) (he : starEach (e :: es) X.env = (false, eval e X.env) :: starEach es X.env := by rfl) (hpl : (backTo pos (starEach es X.env)).any (·.1) = false := by rfl) :
    eE X (.Call (.Name x p) (e :: es) [] pos) σ H Q := eE.mk (pe_callB hc hg hm hv pa_e hn hdb he hpl) q
theorem w_callTy {T : String} {x : Str} {r : List V → Hp → VK → Prop} (hc : CallR X (.type T) r) (hm : X.mg x = none) (hv : bootBuiltins x = some (.type T)) (q : eA X (e :: es) σ H fun vs H1 => r vs H1 Q) (hg : Gl X x := by rfl)
    (hn : x ≠ "__name__" := by decide) (hdb : (x == ("__debug__" : Str)) = false := by decide) (he : starEach (e :: es) X.env = (false, eval e X.env) :: starEach es X.env := by rfl) (hpl : (backTo pos (starEach es X.env)).any (·.1) = false := by rfl) :
    eE X (.Call (.Name x p) (e :: es) [] pos) σ H Q := eE.mk (pe_callTy hc hg hm hv pa_e hn hdb he hpl) q
theorem w_bm {T : String} {nm : Str} {id : String} {r : V → List V → Hp → VK → Prop} {apos cpos : Pos} (pa : PlainAttrs T) (slot : Slot T nm id) (hty : typeOf (.builtin id) = pure (.type "method_descriptor")) (hm : MtR X id r)
    (q : eE X a σ H fun x H1 => tyV X.K T x H1 ∧ eA X (e :: es) σ H1 fun xs H2 => r x xs H2 Q) (hbase : attributeBase a nm X.env (eval a X.env) = eval a X.env := by rfl)
    (hfew : ((backTo cpos (starEach (e :: es) X.env)).all (fun x => !x.1) && (backToKw cpos (keywordEach [] X.env)).all (fun x => x.1.isSome)
      && decide ((e :: es).length + ([] : List Keyword).length + (if ([] : List Keyword).isEmpty then 0 else 1) < 30)) = true := by rfl)
    (hline : (apos.endLine == cpos.line) = true := by rfl) (hs : starEach (e :: es) X.env = (false, eval e X.env) :: starEach es X.env := by rfl) (hplain : (backTo cpos (starEach es X.env)).any (·.1) = false := by rfl) :
    eE X (.Call (.Attribute a nm apos) (e :: es) [] cpos) σ H Q := eE.mk (pe_bm pa slot hty hm pe_e pa_e hbase hfew hline hs hplain) q
theorem w_bm0 {T : String} {nm : Str} {id : String} {r : V → List V → Hp → VK → Prop} {apos cpos : Pos} (pa : PlainAttrs T) (slot : Slot T nm id) (hty : typeOf (.builtin id) = pure (.type "method_descriptor")) (hm : MtR X id r)
    (q : eE X a σ H fun x H1 => tyV X.K T x H1 ∧ r x [] H1 Q) (hbase : attributeBase a nm X.env (eval a X.env) = eval a X.env := by rfl)
    (hline : (apos.endLine == cpos.line) = true := by rfl) :
    eE X (.Call (.Attribute a nm apos) [] [] cpos) σ H Q := eE.mk (pe_bm0 pa slot hty hm pe_e hbase hline) q
theorem w_fld {f : Str} (q : eE X e σ H fun x H1 => ∃ a C dx fs v, x = .ref a ∧ H1 a = some (.ins C dx fs) ∧ Cls X.K C ∧ NoAttr X.K C f ∧ fs.lookup f = some v ∧ Q v H1) (hb : attributeBase e f X.env (eval e X.env) = eval e X.env := by rfl) :
    eE X (.Attribute e f pos) σ H Q := eE.mk (pe_fld pe_e hb) q

theorem w_m0 {id : String} {nm : Str} {apos : Pos} {r : V → List V → Hp → VK → Prop} (slot : Slot "str" nm id) (ty : typeOf (.builtin id) = pure (.type "method_descriptor")) (rule : MtR X id r) (q : eE X a σ H fun x H1 => (∃ a, x = .str a) ∧ r x [] H1 Q)
    (hbase : attributeBase a nm X.env (eval a X.env) = eval a X.env := by rfl) (hline : (apos.endLine == pos.line) = true := by rfl) : eE X (.Call (.Attribute a nm apos) [] [] pos) σ H Q := eE.mk (pe_m0 slot ty rule pe_e hbase hline) q
theorem w_m1 {id : String} {nm : Str} {apos : Pos} {r : V → List V → Hp → VK → Prop} (slot : Slot "str" nm id) (ty : typeOf (.builtin id) = pure (.type "method_descriptor")) (rule : MtR X id r) (q : eE X a σ H fun x H1 => (∃ a, x = .str a) ∧ eE X e σ H1 fun y H2 => r x [y] H2 Q)
    (hs : starEach [e] X.env = [(false, eval e X.env)] := by rfl) (hbase : attributeBase a nm X.env (eval a X.env) = eval a X.env := by rfl) (hline : (apos.endLine == pos.line) = true := by rfl) : eE X (.Call (.Attribute a nm apos) [e] [] pos) σ H Q := eE.mk (pe_m1 slot ty rule pe_e pe_e hs hbase hline) q
/-! tests -/
theorem t_val {Q : Bool → Hp → Prop} (q : eE X e σ H fun x H1 => ∃ c, x = .bl c ∧ Q c H1) (he : ∀ whole, isTrue e X.env whole = (do let v ← whole; standAt e.pos; holding [v] (truthy v)) := by intro _; rfl) : eT X e σ H Q := ⟨_, pt_val pe_e he, q⟩
theorem t_truth {Q : Bool → Hp → Prop} (q : eE X e σ H fun x H1 => ∃ k, TruV X.K x H1 k ∧ Q k H1) (he : ∀ whole, isTrue e X.env whole = (do let v ← whole; standAt e.pos; holding [v] (truthy v)) := by intro _; rfl) : eT X e σ H Q := ⟨_, pt_truth pe_e he, q⟩
theorem t_cmp {Q : Bool → Hp → Prop} {op : CmpOp} {r : R2} (ho : OpR X (compareOp op) r) (q : eE X a σ H fun x H1 => eE X b σ H1 fun y H2 => r x y H2 fun z H3 => ∃ k, z = .bl k ∧ Q k H3) (hm : behindInMarks op b = false := by first | exact nomark _ | rfl) :
    eT X (.Compare a [op] [b] pos) σ H Q := ⟨_, pt_cmpR ho pe_e pe_e hm, q⟩
theorem t_chain {Q : Bool → Hp → Prop} {op op' : CmpOp} {r r' : R2} (ho : OpR X (compareOp op) r) (ho' : OpR X (compareOp op') r')
    (q : eE X a σ H fun x H1 => eE X b σ H1 fun y H2 => r x y H2 fun z H3 => ∃ k, z = .bl k ∧ (if k = true then eE X c σ H3 fun w' H4 => r' y w' H4 (fun z H5 => ∃ k, z = .bl k ∧ Q k H5) else ∃ k, V.bl false = .bl k ∧ Q k H3))
    (hm : lastMarks [op, op'] [b, c] = false := by with_unfolding_all rfl) : eT X (.Compare a [op, op'] [b, c] pos) σ H Q := ⟨_, pt_chain ho ho' pe_e pe_e pe_e hm, q⟩
theorem t_not {Q : Bool → Hp → Prop} (q : eT X a σ H fun c H1 => Q (!c) H1) : eT X (.UnaryOp .Not a pos) σ H Q := ⟨_, pt_not pt_e, q⟩
theorem t_w {Q : Bool → Hp → Prop} (q : eW X e σ H Q) : eT X e σ H Q := ⟨_, pw_e.pt, q⟩
theorem t_and {Q : Bool → Hp → Prop} (q : eT X a σ H fun c H1 => if c = true then eW X (.BoolOp .And (b :: es) pos) σ H1 Q else Q false H1) : eW X (.BoolOp .And (a :: b :: es) pos) σ H Q := ⟨_, pw_and pt_e pw_e, q⟩
theorem t_and1 {Q : Bool → Hp → Prop} (q : eT X a σ H Q) : eW X (.BoolOp .And [a] pos) σ H Q := ⟨_, pw_and1 pt_e, q⟩
theorem t_or {Q : Bool → Hp → Prop} (q : eT X a σ H fun c H1 => if c = true then Q true H1 else eW X (.BoolOp .Or (b :: es) pos) σ H1 Q) : eW X (.BoolOp .Or (a :: b :: es) pos) σ H Q := ⟨_, pw_or pt_e pw_e, q⟩
theorem t_or1 {Q : Bool → Hp → Prop} (q : eT X a σ H Q) : eW X (.BoolOp .Or [a] pos) σ H Q := ⟨_, pw_or1 pt_e, q⟩
end
/-! ### statements -/
section
variable {X : Cx} {σ : L2.St} {H : Hp} {D : Ends} {a b c e o tg : Expr} {pos p p2 : Pos} {v : V} {es : List Expr} {st : Stmt} {rest s1 s2 : List Stmt}
theorem b_nil (q : D.nx σ H) : eB X [] D σ H := ⟨_, pss_nil, q⟩
theorem b_cons (q : eS X st { D with nx := fun σ' H' => eB X rest D σ' H' } σ H) : eB X (st :: rest) D σ H := ⟨_, pss_cons ps_e pss_e, q⟩
theorem b_one (q : eS X st D σ H) : eB X [st] D σ H := ⟨_, pss_one ps_e, q⟩
theorem s_expr (q : eE X e σ H fun _ H1 => D.nx σ H1) (hs : swapsWith e none pos.line X.env = pure false := by rfl) : eS X (.Expr e pos) D σ H := ⟨_, ps_expr pe_e hs, q⟩
theorem s_ret (q : eE X e σ H D.rt) : eS X (.Return (some e) pos) D σ H := ⟨_, ps_ret pe_e, q⟩
theorem s_retN (q : D.rt .non H) : eS X (.Return none pos) D σ H := ⟨_, ps_retN, q⟩
theorem s_if (q : eT X c σ H fun k H1 => if k = true then eB X s1 D σ H1 else eB X s2 D σ H1) : eS X (.If c s1 s2 pos) D σ H := ⟨_, ps_if pt_e pss_e pss_e, q⟩
theorem s_pass (q : D.nx σ H) : eS X (.Pass pos) D σ H := ⟨_, ps_pass, q⟩
theorem s_break (q : D.bk σ H) : eS X (.Break pos) D σ H := ⟨_, ps_break, q⟩
theorem s_cont (q : D.ct σ H) : eS X (.Continue pos) D σ H := ⟨_, ps_continue, q⟩
theorem s_set (i : Nat) (hN : X.N.Nodup) {x : Str} {p' : Pos} (q : eE X e σ H fun v H1 => D.nx (σ.set i (some v)) H1) (hi : X.N[i]? = some x := by rfl) (hx : Loc X.env.scope x := by first | exact Or.inl rfl | exact Or.inr rfl)
    (hs : swapsWith e (some (.Name x p')) pos.line X.env = pure false := by rfl) (hf : X.fn x = true ∨ X.env.scope.names.lookup x = some .local := by first | exact .inl rfl | exact .inr rfl | assumption) :
    eS X (.Assign [.Name x p'] e pos) D σ H := ⟨_, ps_set hN hi hx pe_e hs hf, q⟩
theorem s_asg (q : eE X e σ H fun v H1 => eG X tg v σ H1 D.nx) (hs : swapsWithSole [tg] e pos.line X.env = pure false := by rfl) (hw : swappedStores [tg] e X.env = pure none := by rfl)
    (h1 : (assignEach [tg] X.env).map (·.2) = [assign tg X.env] := by rfl) : eS X (.Assign [tg] e pos) D σ H := ⟨_, ps_asg pe_e pg_e hs hw h1, q⟩
theorem s_fld {f : Str} {p' : Pos} (q : eE X e σ H fun y H1 => eE X o σ H1 fun x H2 => ∃ a C dx fs, x = .ref a ∧ H2 a = some (.ins C dx fs) ∧ Cls X.K C ∧ NoAttr X.K C f ∧ fs.length < 1000 ∧ D.nx σ (upd H2 a (.ins C dx (putF f y fs))))
    (hs : swapsWith e (some (.Attribute o f p')) pos.line X.env = pure false := by rfl) : eS X (.Assign [.Attribute o f p'] e pos) D σ H := ⟨_, ps_fld pe_e pe_e hs, q⟩
theorem s_par (i j : Nat) {x y : Str} {px py pt : Pos} {kt k2 : Nat} {pt2 : Pos} (hN : X.N.Nodup) (q : eA X [a, b] σ H fun vs H1 => ∃ v w, vs = [v, w] ∧ D.nx ((σ.set i (some v)).set j (some w)) H1) (hc : X.calm = true := by rfl)
    (hi : X.N[i]? = some x := by rfl) (hj : X.N[j]? = some y := by rfl) (hij : i ≠ j := by decide) (hx : X.env.scope.names.lookup x = some .local := by rfl) (hy : X.env.scope.names.lookup y = some .local := by rfl)
    (hw : swappedStores [.Tuple [.Name x px, .Name y py] kt pt] (.Tuple [a, b] k2 pt2) X.env = pure (some [x, y]) := by rfl)
    (hs : swapsWithSole [.Tuple [.Name x px, .Name y py] kt pt] (.Tuple [a, b] k2 pt2) pos.line X.env = pure false := by rfl) : eS X (.Assign [.Tuple [.Name x px, .Name y py] kt pt] (.Tuple [a, b] k2 pt2) pos) D σ H :=
  ⟨_, ps_par hc hN hi hj hij hx hy pa_e hw hs, q⟩
theorem g_name (i : Nat) (hN : X.N.Nodup) {x : Str} {Q : L2.St → Hp → Prop} (q : Q (σ.set i (some v)) H) (hi : X.N[i]? = some x := by rfl) (hx : Loc X.env.scope x := by first | exact Or.inl rfl | exact Or.inr rfl)
    (hf : X.fn x = true ∨ X.env.scope.names.lookup x = some .local := by first | exact .inl rfl | exact .inr rfl | assumption) : eG X (.Name x pos) v σ H Q := ⟨_, pg_name hN hi hx hf, q⟩
theorem gs_nil {Q : L2.St → Hp → Prop} (q : Q σ H) : eGs X [] [] σ H Q := ⟨_, pgs_nil, rfl, q⟩
theorem gs_cons {Q : L2.St → Hp → Prop} {vs : List V} (q : eG X e v σ H fun σ' H' => eGs X es vs σ' H' Q) (hs : (assignEach (e :: es) X.env).map (·.2) = assign e X.env :: (assignEach es X.env).map (·.2) := by rfl) : eGs X (e :: es) (v :: vs) σ H Q :=
  ⟨_, pgs_cons pg_e pgs_e hs, v, vs, rfl, q⟩
theorem g_tup {Q : L2.St → Hp → Prop} {a : Addr} {xs : List V} {k : Nat} (hq : SqT X.K H a xs) (hl : (assignEach es X.env).length = xs.length) (q : eGs X es xs σ H Q) (hc : X.calm = true := by rfl)
    (hst : (assignEach es X.env).findIdx? (·.1) = none := by rfl) : eG X (.Tuple es k pos) (.ref a) σ H Q := ⟨_, pg_tup hc pgs_e rfl hst, a, xs, rfl, hq, hl.symm, q⟩
theorem g_unl {Q : L2.St → Hp → Prop} {a : Addr} {xs : List V} {k : Nat} (hq : SqL X.K H a xs) (hl : (assignEach es X.env).length = xs.length) (q : eGs X es xs σ H Q) (hc : X.calm = true := by rfl)
    (hst : (assignEach es X.env).findIdx? (·.1) = none := by rfl) : eG X (.Tuple es k pos) (.ref a) σ H Q := ⟨_, pg_unl hc pgs_e rfl hst, a, xs, rfl, hq, hl.symm, q⟩
theorem g_sub {Q : L2.St → Hp → Prop} {i : Expr} (q : eE X o σ H fun x H1 => eE X i σ H1 fun y H2 => rSetL x y v H2 fun H3 => Q σ H3)
    (ha : ∀ v, assign (.Subscript o i pos) X.env v = (do
      let ov ← holding [v] (eval o X.env)
      let iv ← holding [v, ov] (eval i X.env)
      standAt pos
      holding [v, ov, iv] (setItem ov iv v)
      release [v, ov, iv] []) := by intro _; rfl) : eG X (.Subscript o i pos) v σ H Q := ⟨_, pg_sub pe_e pe_e set_list ha, q⟩
theorem s_for {wi : TI} (hi : PI X tg e wi) (q : tFor wi (eG X tg) (eB X s1) D σ H) (hp : PassesOwn (model X.prog X.w) X.A X.env X.xe := by exact PassesOwn.never) (hc : X.calm = true := by rfl) (hs : ∀ x, foldedSetIterable e X.env x = pure x := by intro _; rfl) : eS X (.For tg e s1 [] pos) D σ H :=
  ⟨_, ps_for hp hc hi pg_e pss_e hs, q⟩
theorem s_while (q : tWhile (eT X c) (eB X s1) D σ H) (hp : PassesOwn (model X.prog X.w) X.A X.env X.xe := by exact PassesOwn.never) : eS X (.While c s1 [] pos) D σ H := ⟨_, ps_while hp pt_e pss_e, q⟩
end
end Mb

set_option Elab.async false
set_option linter.all false
set_option maxRecDepth 100000
set_option maxHeartbeats 2000000
/-! Defs by name, steps of the heap, data. -/
namespace Mb
open PySem PySem.Spec PyProof.Rows L2

/-! ### defs by name -/
structure Has (P : Program) (w : World) (K : PySem.W.Frag) (mg : Str → Option Value) (base : Heap) (x : Str) (k : Nat) (n : Nat) (sp : Sp) : Prop where
  ex : ∃ f fd ps, ps.length = n ∧ mg x = some (.ref f) ∧ PySem.W.keepIn K (.ref f) = true ∧ Binds K fd ps [] ∧ FnOk P w K mg base CX0 k f fd ps sp
theorem Has.imp {P : Program} {w : World} {K : PySem.W.Frag} {mg : Str → Option Value} {base : Heap} {x : Str} {k n : Nat} {sp sp' : Sp} (F : Has P w K mg base x k n sp) (h : ∀ vs H Q E, sp' vs H Q E → sp vs H Q E) : Has P w K mg base x k n sp' := by
  obtain ⟨f, fd, ps, h0, h1, h2, h3, h4⟩ := F.ex
  exact ⟨f, fd, ps, h0, h1, h2, h3, h4.imp h⟩
/-- what the top says of a def -/
structure Top1 (K : PySem.W.Frag) (mg : Str → Option Value) (x : Str) (st : Stmt) (ps : List Str) : Prop where
  ex : ∃ f fd, mg x = some (.ref f) ∧ Fun K x x st f fd ∧ Binds K fd ps []
theorem mkHas {P : Program} {w : World} {K : PySem.W.Frag} {mg : Str → Option Value} {base : Heap} {x : Str} {st : Stmt} {N ps : List Str} {k : Nat} {sp : Sp} (T : Top1 K mg x st ps) (S : FnScope N ps (defScope st)) (len : ∀ vs H Q E, sp vs H Q E → vs.length = ps.length)
    (body : ∀ (f : Addr) (cdv : Value) (A : Around) (outer : List Env) (s : Shared) (H : Hp) (vs : List V) (Q : VK) (E : XK), Room k (A.deeper (envOfC x (defScope st) s.heap.objs.size f cdv)) → sp vs H Q E →
      eB (cxOf CX0 P w K mg base N x (defScope st) f cdv A outer s H E).nox (defBody st) { nx := fun _ H' => Q .non H', rt := Q } (start N vs) H) : Has P w K mg base x (k + 1) ps.length sp := by
  obtain ⟨f, fd, h1, F, hb⟩ := T.ex
  refine ⟨f, fd, ps, rfl, h1, F.kp, hb, ?_⟩
  exact F.ok S len fun cdv A outer s H vs Q E hr h => body f cdv A outer s H vs Q E hr h
section
variable {X : Cx} {σ : L2.St} {H : Hp} {Q : VK} {e : Expr} {es : List Expr} {p pos : Pos} {x : Str} {k j n : Nat} {sp : Sp}
theorem w_call (F : Has X.prog X.w X.K X.mg X.base x k n sp) (hr : Room j X.A) (hk : k ≤ j) (q : eA X (e :: es) σ H fun vs H1 => sp vs H1 Q E0) (hg : Gl X x := by rfl)
    (hdb : (x == ("__debug__" : Str)) = false := by decide) (he : starEach (e :: es) X.env = (false, eval e X.env) :: starEach es X.env := by rfl) (hpl : (backTo pos (starEach es X.env)).any (·.1) = false := by rfl) :
    eE X (.Call (.Name x p) (e :: es) [] pos) σ H Q := by
  obtain ⟨f, fd, ps, _, h1, h2, h3, h4⟩ := F.ex
  refine eE.mk (pe_call h4 (hr.mono hk) hg h1 h2 h3 .nil pass0 pa_e hdb he hpl) ?_
  obtain ⟨t, ht, q⟩ := q
  refine ⟨t, ht, ?_⟩
  simpa using q
end

/-! ### steps of the heap: G what is known for good, H all; A: the addresses that may have changed -/
structure Step (A : List Addr) (G H G' H' : Hp) : Prop where
  g : Same G G'
  s : Same G' H'
  fr : ∀ b o, H b = some o → ∃ o', H' b = some o' ∧ (b ∉ A → o' = o)
  new : ∀ b o, G' b = some o → G b = some o ∨ H b = none
section
variable {A B : List Addr} {G H G1 H1 G2 H2 : Hp} {p l : Addr} {o o' : HO}
theorem Step.refl (h : Same G H) : Step A G H G H := ⟨Same.refl G, h, fun _ o e => ⟨o, e, fun _ => rfl⟩, fun _ _ e => .inl e⟩
theorem Step.trans (a : Step A G H G1 H1) (b : Step A G1 H1 G2 H2) : Step A G H G2 H2 where
  g := a.g.trans b.g
  s := b.s
  fr := fun c o e => by
    obtain ⟨o1, e1, h1⟩ := a.fr c o e
    obtain ⟨o2, e2, h2⟩ := b.fr c o1 e1
    exact ⟨o2, e2, fun hn => (h2 hn).trans (h1 hn)⟩
  new := fun c o e => by
    rcases b.new c o e with h | h
    · exact a.new c o h
    · right
      cases q : H c with
      | none => rfl
      | some u =>
        obtain ⟨o1, e1, _⟩ := a.fr c u q
        rw [e1] at h
        cases h
theorem Step.weak (a : Step A G H G1 H1) (h : ∀ x ∈ A, x ∈ B) : Step B G H G1 H1 := ⟨a.g, a.s, fun b o e => by
  obtain ⟨o', e', h'⟩ := a.fr b o e
  exact ⟨o', e', fun hn => h' fun hm => hn (h b hm)⟩, a.new⟩
theorem Step.pure (a : Step [] G H G1 H1) : Step B G H G1 H1 := a.weak fun x h => by cases h
/-- an address that did not stand at the begin may change -/
theorem Step.drop (hl : H l = none) (a : Step (l :: A) G H G1 H1) : Step A G H G1 H1 := ⟨a.g, a.s, fun b o e => by
  obtain ⟨o', e', h'⟩ := a.fr b o e
  refine ⟨o', e', fun hn => h' fun hm => ?_⟩
  rcases List.mem_cons.mp hm with h | h
  · rw [h, hl] at e
    cases e
  · exact hn h, a.new⟩
theorem Same.updG {G H : Hp} (h : Same G H) (hp : H p = none) : Same (upd G p o) (upd H p o) := fun b u e => by
  by_cases hb : b = p
  · subst hb
    rw [upd_same] at e ⊢
    exact e
  · rw [upd_ne hb] at e ⊢
    exact h b u e
theorem Same.toUpd {G : Hp} (hp : G p = none) : Same G (upd G p o) := fun b u e => by rw [upd_ne (ne_of_none e hp)]; exact e
/-- a new thing, known for good -/
theorem Step.alloc (h : Same G H) (hp : H p = none) : Step A G H (upd G p o) (upd H p o) where
  g := Same.toUpd (h.free hp)
  s := Same.updG h hp
  fr := fun b u e => ⟨u, by rw [upd_ne (ne_of_none e hp)]; exact e, fun _ => rfl⟩
  new := fun b u e => by
    by_cases hb : b = p
    · subst hb
      exact .inr hp
    · rw [upd_ne hb] at e
      exact .inl e
/-- a new thing that may change -/
theorem Step.allocM (h : Same G H) (hp : H p = none) : Step A G H G (upd H p o) where
  g := Same.refl G
  s := fun b u e => by rw [upd_ne (ne_of_none (h b u e) hp)]; exact h b u e
  fr := fun b u e => ⟨u, by rw [upd_ne (ne_of_none e hp)]; exact e, fun _ => rfl⟩
  new := fun b u e => .inl e
/-- what may change changes -/
theorem Step.mut (h : Same G H) (hg : G l = none) (hl : H l = some o) (hA : l ∈ A) : Step A G H G (upd H l o') where
  g := Same.refl G
  s := fun b u e => by rw [upd_ne (ne_of_none e hg)]; exact h b u e
  fr := fun b u e => by
    by_cases hb : b = l
    · subst hb
      exact ⟨o', upd_same, fun hn => (hn hA).elim⟩
    · exact ⟨u, by rw [upd_ne hb]; exact e, fun _ => rfl⟩
  new := fun b u e => .inl e
/-- what was made since the begin is now known for good -/
theorem Step.freeze (a : Step A G H G1 H1) (h0 : H l = none) (hl : H1 l = some o) (hg : G1 l = none) : Step A G H (upd G1 l o) H1 where
  g := a.g.trans (Same.toUpd hg)
  s := fun b u e => by
    by_cases hb : b = l
    · subst hb
      rw [upd_same] at e
      rw [hl]
      exact e
    · rw [upd_ne hb] at e
      exact a.s b u e
  fr := a.fr
  new := fun b u e => by
    by_cases hb : b = l
    · subst hb
      exact .inr h0
    · rw [upd_ne hb] at e
      exact a.new b u e
theorem Step.keep (a : Step A G H G1 H1) (hl : H l = some o) (hn : l ∉ A) : H1 l = some o := by
  obtain ⟨o', e, h⟩ := a.fr l o hl
  rw [e, h hn]
theorem Step.out (a : Step A G H G1 H1) (hg : G l = none) (hl : H l = some o) : G1 l = none := by
  cases q : G1 l with
  | none => rfl
  | some u =>
    rcases a.new l u q with h | h
    · rw [hg] at h
      cases h
    · rw [hl] at h
      cases h
theorem Step.free (a : Step A G H G1 H1) (hp : H1 p = none) : H p = none := by
  cases q : H p with
  | none => rfl
  | some u =>
    obtain ⟨o', e, _⟩ := a.fr p u q
    rw [hp] at e
    cases e
end

/-! ### data -/
abbrev Dt := PyData
def keyD : Key → Dt
  | .inl i => .int i
  | .inr x => .str x
def dctD (kds : List (Key × Dt)) : Dt := .dict (kds.map fun p => (keyD p.1, p.2))
mutual
inductive Da (K : PySem.W.Frag) (G : Hp) : V → Dt → Prop
  | non : Da K G .non .none
  | bl (b : Bool) : Da K G (.bl b) (.bool b)
  | int (i : Int) : Da K G (.int i) (.int i)
  | str (x : Str) : Da K G (.str x) (.str x)
  | lst {a : Addr} {xs : List V} {ds : List Dt} : G a = some (.lst xs) → Das K G xs ds → Da K G (.ref a) (.list ds)
  | tup {a : Addr} {xs : List V} {ds : List Dt} : SqT K G a xs → Das K G xs ds → Da K G (.ref a) (.tuple ds)
  | dct {a : Addr} {kvs : List (Key × V)} {kds : List (Key × Dt)} : Rd G a (.dK kvs) → Dks K G kvs kds → Da K G (.ref a) (dctD kds)
inductive Das (K : PySem.W.Frag) (G : Hp) : List V → List Dt → Prop
  | nil : Das K G [] []
  | cons {v : V} {vs : List V} {d : Dt} {ds : List Dt} : Da K G v d → Das K G vs ds → Das K G (v :: vs) (d :: ds)
inductive Dks (K : PySem.W.Frag) (G : Hp) : List (Key × V) → List (Key × Dt) → Prop
  | nil : Dks K G [] []
  | cons {k : Key} {v : V} {vs : List (Key × V)} {d : Dt} {ds : List (Key × Dt)} : Da K G v d → Dks K G vs ds → Dks K G ((k, v) :: vs) ((k, d) :: ds)
end
mutual
def nod : Dt → Bool
  | .list xs => nods xs
  | .tuple xs => nods xs
  | .dict _ => false
  | _ => true
def nods : List Dt → Bool
  | [] => true
  | x :: xs => nod x && nods xs
end
section
variable {K : PySem.W.Frag} {G G' : Hp}
theorem Rd.mono' {a : Addr} {u : HO} (e : Same G G') (h : Rd G a u) : Rd G' a u := h.elim (fun h => .inl (e _ _ h)) fun ⟨o, h⟩ => .inr ⟨o, e _ _ h⟩
theorem SqT.same {a : Addr} {xs : List V} (e : Same G G') (h : SqT K G a xs) : SqT K G' a xs := by
  rcases h with (h | ⟨o, h⟩) | h
  · exact .inl (.inl (e _ _ h))
  · exact .inl (.inr ⟨o, e _ _ h⟩)
  · exact .inr h
mutual
theorem Da.mono (e : Same G G') : ∀ {d : Dt} {v : V}, Da K G v d → Da K G' v d
  | _, _, .non => .non
  | _, _, .bl b => .bl b
  | _, _, .int i => .int i
  | _, _, .str x => .str x
  | _, _, .lst h hs => .lst (e _ _ h) (Das.mono e hs)
  | _, _, .tup h hs => .tup (SqT.same e h) (Das.mono e hs)
  | _, _, .dct h hs => .dct (Rd.mono' e h) (Dks.mono e hs)
theorem Das.mono (e : Same G G') : ∀ {ds : List Dt} {vs : List V}, Das K G vs ds → Das K G' vs ds
  | _, _, .nil => .nil
  | _, _, .cons h hs => .cons (Da.mono e h) (Das.mono e hs)
theorem Dks.mono (e : Same G G') : ∀ {ds : List (Key × Dt)} {vs : List (Key × V)}, Dks K G vs ds → Dks K G' vs ds
  | _, _, .nil => .nil
  | _, _, .cons h hs => .cons (Da.mono e h) (Dks.mono e hs)
end
mutual
theorem Da.dp : ∀ {d : Dt} {v : V}, nod d = true → Da K G v d → Dp K G v d
  | _, _, _, .non => .non
  | _, _, _, .bl b => .bl b
  | _, _, _, .int i => .int i
  | _, _, _, .str x => .str x
  | _, _, n, .lst h hs => .lst (SqL.of h) (Das.dp (by simpa [nod] using n) hs)
  | _, _, n, .tup h hs => .tup h (Das.dp (by simpa [nod] using n) hs)
  | _, _, n, .dct h hs => by simp [dctD, nod] at n
theorem Das.dp : ∀ {ds : List Dt} {vs : List V}, nods ds = true → Das K G vs ds → DpAll K G vs ds
  | _, _, _, .nil => .nil
  | _, _, n, .cons h hs => by
    simp only [nods, Bool.and_eq_true] at n
    exact .cons (Da.dp n.1 h) (Das.dp n.2 hs)
end
theorem Das.length {vs : List V} {ds : List Dt} (h : Das K G vs ds) : vs.length = ds.length := by
  induction vs generalizing ds with
  | nil => cases h; rfl
  | cons v vs ih =>
    cases h with
    | cons h1 h2 => simp [ih h2]
theorem Das.get {vs : List V} {ds : List Dt} (h : Das K G vs ds) {i : Nat} {v : V} (e : vs[i]? = some v) : ∃ d, ds[i]? = some d ∧ Da K G v d := by
  induction vs generalizing ds i with
  | nil => simp at e
  | cons w vs ih =>
    cases h with
    | cons h1 h2 =>
      cases i with
      | zero =>
        simp at e
        subst e
        exact ⟨_, rfl, h1⟩
      | succ i =>
        obtain ⟨d, hd, hh⟩ := ih h2 (i := i) (by simpa using e)
        exact ⟨d, by simpa using hd, hh⟩
theorem Das.get' {vs : List V} {ds : List Dt} (h : Das K G vs ds) {i : Nat} {d : Dt} (e : ds[i]? = some d) : ∃ v, vs[i]? = some v ∧ Da K G v d := by
  induction vs generalizing ds i with
  | nil => cases h; simp at e
  | cons w vs ih =>
    cases h with
    | cons h1 h2 =>
      cases i with
      | zero =>
        simp at e
        subst e
        exact ⟨_, rfl, h1⟩
      | succ i =>
        obtain ⟨d, hd, hh⟩ := ih h2 (i := i) (by simpa using e)
        exact ⟨d, by simpa using hd, hh⟩
theorem Das.append {vs ws : List V} {ds es : List Dt} (h : Das K G vs ds) (h2 : Das K G ws es) : Das K G (vs ++ ws) (ds ++ es) := by
  induction vs generalizing ds with
  | nil => cases h; exact h2
  | cons v vs ih =>
    cases h with
    | cons h1 h3 => exact .cons h1 (ih h3)
theorem Das.one {v : V} {d : Dt} (h : Da K G v d) : Das K G [v] [d] := .cons h .nil
theorem Das.snoc {vs : List V} {ds : List Dt} {v : V} {d : Dt} (h : Das K G vs ds) (h2 : Da K G v d) : Das K G (vs ++ [v]) (ds ++ [d]) := h.append (.one h2)
theorem Das.drop {vs : List V} {ds : List Dt} (n : Nat) (h : Das K G vs ds) : Das K G (vs.drop n) (ds.drop n) := by
  induction n generalizing vs ds with
  | zero => exact h
  | succ n ih =>
    cases h with
    | nil => exact .nil
    | cons h1 h2 => exact ih h2
theorem Das.take {vs : List V} {ds : List Dt} (n : Nat) (h : Das K G vs ds) : Das K G (vs.take n) (ds.take n) := by
  induction n generalizing vs ds with
  | zero => exact .nil
  | succ n ih =>
    cases h with
    | nil => exact .nil
    | cons h1 h2 => exact .cons h1 (ih h2)
theorem Das.erase {vs : List V} {ds : List Dt} (n : Nat) (h : Das K G vs ds) : Das K G (vs.eraseIdx n) (ds.eraseIdx n) := by
  induction n generalizing vs ds with
  | zero =>
    cases h with
    | nil => exact .nil
    | cons h1 h2 => exact h2
  | succ n ih =>
    cases h with
    | nil => exact .nil
    | cons h1 h2 => exact .cons h1 (ih h2)
/-! flat things -/
def ofI (ns : List Int) : List Dt := ns.map PyData.int
def ofS (xs : List Str) : List Dt := xs.map PyData.str
theorem Das.ints {vs : List V} {ns : List Int} (h : Das K G vs (ofI ns)) : vs = ns.map V.int := by
  induction vs generalizing ns with
  | nil =>
    cases ns with
    | nil => rfl
    | cons n ns => cases h
  | cons v vs ih =>
    cases ns with
    | nil => cases h
    | cons n ns =>
      cases h with
      | cons h1 h2 =>
        cases h1
        rw [ih h2]
        rfl
theorem Das.ofInts (ns : List Int) : Das K G (ns.map V.int) (ofI ns) := by
  induction ns with
  | nil => exact .nil
  | cons n ns ih => exact .cons (.int n) ih
theorem Das.strs {vs : List V} {ns : List Str} (h : Das K G vs (ofS ns)) : vs = ns.map V.str := by
  induction vs generalizing ns with
  | nil =>
    cases ns with
    | nil => rfl
    | cons n ns => cases h
  | cons v vs ih =>
    cases ns with
    | nil => cases h
    | cons n ns =>
      cases h with
      | cons h1 h2 =>
        cases h1
        rw [ih h2]
        rfl
theorem Das.ofStrs (ns : List Str) : Das K G (ns.map V.str) (ofS ns) := by
  induction ns with
  | nil => exact .nil
  | cons n ns ih => exact .cons (.str n) ih
theorem Da.int_inv {v : V} {i : Int} (h : Da K G v (.int i)) : v = .int i := by cases h; rfl
theorem Da.str_inv {v : V} {i : Str} (h : Da K G v (.str i)) : v = .str i := by cases h; rfl
theorem Da.bl_inv {v : V} {i : Bool} (h : Da K G v (.bool i)) : v = .bl i := by cases h; rfl
theorem Da.non_inv {v : V} (h : Da K G v .none) : v = .non := by cases h; rfl
theorem Da.lst_inv {v : V} {ds : List Dt} (h : Da K G v (.list ds)) : ∃ a xs, v = .ref a ∧ G a = some (.lst xs) ∧ Das K G xs ds := by
  cases h with
  | lst h hs => exact ⟨_, _, rfl, h, hs⟩
theorem Da.dct_inv {v : V} {kds : List (Key × Dt)} (h : Da K G v (dctD kds)) : ∃ a kvs, v = .ref a ∧ Rd G a (.dK kvs) ∧ Dks K G kvs kds := by
  generalize e : dctD kds = d at h
  cases h with
  | dct h hs =>
    rename_i a kvs kds'
    have : kds = kds' := by
      have e' : kds.map (fun p => (keyD p.1, p.2)) = kds'.map (fun p => (keyD p.1, p.2)) := by
        injection e
      clear e hs h
      induction kds generalizing kds' with
      | nil =>
        cases kds' with
        | nil => rfl
        | cons _ _ => cases e'
      | cons p ps ih =>
        cases kds' with
        | nil => cases e'
        | cons q qs =>
          simp only [List.map_cons, List.cons.injEq, Prod.mk.injEq] at e'
          obtain ⟨⟨e1, e2⟩, e3⟩ := e'
          rw [ih e3]
          obtain ⟨k1, d1⟩ := p
          obtain ⟨k2, d2⟩ := q
          have : k1 = k2 := by
            cases k1 <;> cases k2 <;> simp only [keyD] at e1 <;> first | (injection e1 with e1; rw [e1]) | cases e1
          have e2' : d1 = d2 := e2
          rw [this, e2']
    subst this
    exact ⟨_, _, rfl, h, hs⟩
  | _ => cases e
theorem Dks.keys {vs : List (Key × V)} {ds : List (Key × Dt)} (h : Dks K G vs ds) : vs.map (·.1) = ds.map (·.1) := by
  induction vs generalizing ds with
  | nil => cases h; rfl
  | cons v vs ih =>
    cases h with
    | cons h1 h2 => simp [ih h2]
theorem Dks.get {vs : List (Key × V)} {ds : List (Key × Dt)} (h : Dks K G vs ds) (k : Key) : (∃ v d, valV vs k = some v ∧ (ds.find? fun p => decide (p.1 = k)).map (·.2) = some d ∧ Da K G v d) ∨ (valV vs k = none ∧ (ds.find? fun p => decide (p.1 = k)).map (·.2) = none) := by
  induction vs generalizing ds with
  | nil => cases h; exact .inr ⟨rfl, rfl⟩
  | cons v vs ih =>
    cases h with
    | cons h1 h2 =>
      rename_i k' v d ds
      by_cases e : k' = k
      · exact .inl ⟨v, d, by simp [valV, e], by simp [e], h1⟩
      · have := ih h2
        simpa [valV, e] using this
theorem Da.tup_inv {v : V} {ds : List Dt} (h : Da K G v (.tuple ds)) : ∃ a xs, v = .ref a ∧ SqT K G a xs ∧ Das K G xs ds := by
  cases h with
  | tup h hs => exact ⟨_, _, rfl, h, hs⟩
end
end Mb

set_option Elab.async false
set_option linter.all false
set_option maxRecDepth 100000
set_option maxHeartbeats 2000000
/-! Pure expressions, by the data that they stand for. -/
namespace Mb
open PySem PySem.Spec PyProof.Rows L2

def Pu (X : Cx) (e : Expr) (σ : L2.St) (G : Hp) (d : Dt) : Prop := ∀ G1 H, Same G G1 → Same G1 H → ∀ Q : VK, (∀ v G' H', Step [] G1 H G' H' → Da X.K G' v d → Q v H') → eE X e σ H Q
def PuA (X : Cx) (es : List Expr) (σ : L2.St) (G : Hp) (ds : List Dt) : Prop := ∀ G1 H, Same G G1 → Same G1 H → ∀ Q : List V → Hp → Prop, (∀ vs G' H', Step [] G1 H G' H' → Das X.K G' vs ds → Q vs H') → eA X es σ H Q
def PuT (X : Cx) (e : Expr) (σ : L2.St) (G : Hp) (b : Bool) : Prop := ∀ G1 H, Same G G1 → Same G1 H → ∀ Q : Bool → Hp → Prop, (∀ G' H', Step [] G1 H G' H' → Q b H') → eT X e σ H Q
def PuW (X : Cx) (e : Expr) (σ : L2.St) (G : Hp) (b : Bool) : Prop := ∀ G1 H, Same G G1 → Same G1 H → ∀ Q : Bool → Hp → Prop, (∀ G' H', Step [] G1 H G' H' → Q b H') → eW X e σ H Q
def PuTs (X : Cx) (e : List Expr) (σ : L2.St) (G : Hp) (b : Bool) : Prop := ∀ G1 H, Same G G1 → Same G1 H → ∀ Q : Bool → Hp → Prop, (∀ G' H', Step [] G1 H G' H' → Q b H') → eTs X e σ H Q
section
variable {X : Cx} {σ : L2.St} {G G' H : Hp} {a b c e : Expr} {es : List Expr} {pos p p2 : Pos} {d d1 d2 : Dt} {ds : List Dt}
theorem Pu.mono (h : Pu X e σ G d) (s : Same G G') : Pu X e σ G' d := fun G1 H a b => h G1 H (s.trans a) b
theorem Pu.to (h : Pu X e σ G d) (s : d = d1) : Pu X e σ G d1 := s ▸ h
theorem PuT.to {k k' : Bool} (h : PuT X e σ G k) (s : k = k') : PuT X e σ G k' := s ▸ h
theorem pu_val {v : V} (hd : Da X.K G v d) (h : ∀ H (Q : VK), Q v H → eE X e σ H Q) : Pu X e σ G d := fun G1 H g s Q q => h H Q (q v G1 H (Step.refl s) (hd.mono g))
theorem pu_var (i : Nat) {x : Str} {v : V} (hs : σ[i]? = some (some v)) (hd : Da X.K G v d) (hN : X.N[i]? = some x := by rfl) (hv : Vis X.env.scope x := by first | exact Or.inl rfl | exact Or.inr (Or.inl rfl) | exact Or.inr (Or.inr rfl))
    (h1 : (x == ("__debug__" : Str)) = false := by decide) (h2 : (x == ("__classdict__" : Str)) = false := by decide) : Pu X (.Name x pos) σ G d := pu_val hd fun H Q q => w_var i hs q hN hv h1 h2
theorem pu_int {i : Int} {j : Nat} : Pu X (.Constant (.int i) j pos) σ G (.int i) := pu_val (.int i) fun _ _ q => w_int q
theorem pu_bl {i : Bool} {j : Nat} : Pu X (.Constant (.bool i) j pos) σ G (.bool i) := pu_val (.bl i) fun _ _ q => w_bl q
theorem pu_non {j : Nat} : Pu X (.Constant .none j pos) σ G .none := pu_val .non fun _ _ q => w_non q
theorem pu_str {i : Str} {j : Nat} : Pu X (.Constant (.str i) j pos) σ G (.str i) := pu_val (.str i) fun _ _ q => w_str q
theorem pu_glob {x : Str} {u : Value} {v : V} (hm : X.mg x = some u) (r : RelV v u) (hd : Da X.K G v d) (hg : Gl X x := by rfl) (h1 : (x == ("__debug__" : Str)) = false := by decide) : Pu X (.Name x pos) σ G d := pu_val hd fun _ _ q => w_glob hm r q hg h1
/-- what an operation on values makes -/
def RV (X : Cx) (r : R2) (G : Hp) (d1 d2 d : Dt) : Prop := ∀ G1 H v w, Same G G1 → Same G1 H → Da X.K G1 v d1 → Da X.K G1 w d2 → ∀ Q : VK, (∀ z G' H', Step [] G1 H G' H' → Da X.K G' z d → Q z H') → r v w H Q
theorem pu_two {R : V → V → Hp → VK → Prop} (ha : Pu X a σ G d1) (hb : Pu X b σ G d2) (hr : RV X R G d1 d2 d) (h : ∀ H Q, (eE X a σ H fun x H1 => eE X b σ H1 fun y H2 => R x y H2 Q) → eE X e σ H Q) : Pu X e σ G d := fun G1 H g s Q q => by
  refine h H Q (ha G1 H g s _ fun v G2 H2 s2 hd2 => ?_)
  refine hb G2 H2 (g.trans s2.g) s2.s _ fun w G3 H3 s3 hd3 => ?_
  exact hr G3 H3 v w (g.trans (s2.g.trans s3.g)) s3.s (hd2.mono s3.g) hd3 Q fun z G4 H4 s4 hz => q z G4 H4 ((s2.trans s3).trans s4) hz
theorem pu_bin {op : Operator} {r : R2} (ho : OpR X (binaryOp op) r) (ha : Pu X a σ G d1) (hb : Pu X b σ G d2) (hr : RV X r G d1 d2 d) : Pu X (.BinOp a op b pos) σ G d := pu_two ha hb hr fun _ _ q => w_bin ho q
theorem pu_cmp {op : CmpOp} {r : R2} (ho : OpR X (compareOp op) r) (ha : Pu X a σ G d1) (hb : Pu X b σ G d2) (hr : RV X r G d1 d2 d) (hm : behindInMarks op b = false := by first | exact nomark _ | rfl) : Pu X (.Compare a [op] [b] pos) σ G d :=
  pu_two ha hb hr fun _ _ q => w_cmp ho q hm
/-- a comparison, by its operands' data -/
def PuC (X : Cx) (op : CmpOp) (a b : Expr) (σ : L2.St) (G : Hp) (k : Bool) : Prop := ∃ r d1 d2, OpR X (compareOp op) r ∧ Pu X a σ G d1 ∧ Pu X b σ G d2 ∧ RV X r G d1 d2 (.bool k) ∧ behindInMarks op b = false
theorem pu_c {op : CmpOp} {k : Bool} (h : PuC X op a b σ G k) : Pu X (.Compare a [op] [b] pos) σ G (.bool k) := by
  obtain ⟨r, d1, d2, ho, ha, hb, hr, hm⟩ := h
  exact pu_cmp ho ha hb hr hm
theorem put_c {op : CmpOp} {k : Bool} (h : PuC X op a b σ G k) : PuT X (.Compare a [op] [b] pos) σ G k := by
  obtain ⟨r, d1, d2, ho, ha, hb, hr, hm⟩ := h
  intro G1 H g s Q q
  refine t_cmp ho (ha G1 H g s _ fun v G2 H2 s2 hd2 => hb G2 H2 (g.trans s2.g) s2.s _ fun w G3 H3 s3 hd3 => hr G3 H3 v w (g.trans (s2.g.trans s3.g)) s3.s (hd2.mono s3.g) hd3 _ fun z G4 H4 s4 hz => ?_) hm
  exact ⟨k, hz.bl_inv, q G4 H4 ((s2.trans s3).trans s4)⟩
theorem PuC.to {op : CmpOp} {k k' : Bool} (h : PuC X op a b σ G k) (e : k = k') : PuC X op a b σ G k' := e ▸ h
theorem pu_ixr {r : R2} (ho : IxR X r) (ha : Pu X a σ G d1) (hb : Pu X b σ G d2) (hr : RV X r G d1 d2 d) (hs : PlainIx b := by exact fun _ _ => rfl) : Pu X (.Subscript a b pos) σ G d := pu_two ha hb hr fun _ _ q => w_ix ho q hs
theorem rv_val {r : R2} {v w z : V} (h1 : ∀ G1 v', Same G G1 → Da X.K G1 v' d1 → v' = v) (h2 : ∀ G1 w', Same G G1 → Da X.K G1 w' d2 → w' = w) (hz : ∀ G1, Same G G1 → Da X.K G1 z d) (h : ∀ H (Q : VK), Q z H → r v w H Q) : RV X r G d1 d2 d := fun G1 H v' w' g s hv hw Q q => by
  obtain rfl := h1 G1 v' g hv
  obtain rfl := h2 G1 w' g hw
  exact h H Q (q z G1 H (Step.refl s) (hz G1 g))
theorem rv_I0 {g : Int → Int → V} {i j : Int} (hz : Da X.K G (g i j) d) : RV X (rI0 g) G (.int i) (.int j) d := rv_val (fun _ _ _ h => h.int_inv) (fun _ _ _ h => h.int_inv) (fun _ s => hz.mono s) fun H Q q => ⟨i, j, rfl, rfl, q⟩
theorem rv_I {C : Int → Int → Prop} {g : Int → Int → V} {i j : Int} (hc : C i j) (hz : Da X.K G (g i j) d) : RV X (rI C g) G (.int i) (.int j) d := rv_val (fun _ _ _ h => h.int_inv) (fun _ _ _ h => h.int_inv) (fun _ s => hz.mono s) fun H Q q => ⟨i, j, rfl, rfl, hc, q⟩
theorem pu_add {i j : Int} (ha : Pu X a σ G (.int i)) (hb : Pu X b σ G (.int j)) : Pu X (.BinOp a .Add b pos) σ G (.int (i + j)) := pu_bin op_add ha hb (rv_I0 (.int _))
theorem pu_sub {i j : Int} (ha : Pu X a σ G (.int i)) (hb : Pu X b σ G (.int j)) : Pu X (.BinOp a .Sub b pos) σ G (.int (i - j)) := pu_bin op_sub ha hb (rv_I0 (.int _))
theorem pu_mul {i j : Int} (ha : Pu X a σ G (.int i)) (hb : Pu X b σ G (.int j)) (hc : CMulW i j) : Pu X (.BinOp a .Mult b pos) σ G (.int (i * j)) := pu_bin op_mulW ha hb (rv_I hc (.int _))
theorem pu_mod {i j : Int} (ha : Pu X a σ G (.int i)) (hb : Pu X b σ G (.int j)) (hc : 0 < j) : Pu X (.BinOp a .Mod b pos) σ G (.int (i % j)) := pu_bin op_mod ha hb (rv_I hc (.int _))
theorem pu_div {i j : Int} (ha : Pu X a σ G (.int i)) (hb : Pu X b σ G (.int j)) (hc : CDivW i j) : Pu X (.BinOp a .FloorDiv b pos) σ G (.int (i / j)) := pu_bin op_fdivW ha hb (rv_I hc (.int _))
theorem pu_pow {i j : Int} (ha : Pu X a σ G (.int i)) (hb : Pu X b σ G (.int j)) (hc : CPow i j) : Pu X (.BinOp a .Pow b pos) σ G (.int (i ^ j.toNat)) := pu_bin op_pow ha hb (rv_I hc (.int _))
theorem c_lt {i j : Int} (ha : Pu X a σ G (.int i)) (hb : Pu X b σ G (.int j)) : PuC X .Lt a b σ G ((decide (i < j))) := ⟨_, _, _, op_lt, ha, hb, (rv_I0 (.bl _)), by first | exact nomark _ | rfl⟩
theorem c_le {i j : Int} (ha : Pu X a σ G (.int i)) (hb : Pu X b σ G (.int j)) : PuC X .LtE a b σ G ((decide (i ≤ j))) := ⟨_, _, _, op_le, ha, hb, (rv_I0 (.bl _)), by first | exact nomark _ | rfl⟩
theorem c_gt {i j : Int} (ha : Pu X a σ G (.int i)) (hb : Pu X b σ G (.int j)) : PuC X .Gt a b σ G ((decide (j < i))) := ⟨_, _, _, op_gt, ha, hb, (rv_I0 (.bl _)), by first | exact nomark _ | rfl⟩
theorem c_ge {i j : Int} (ha : Pu X a σ G (.int i)) (hb : Pu X b σ G (.int j)) : PuC X .GtE a b σ G ((decide (j ≤ i))) := ⟨_, _, _, op_ge, ha, hb, (rv_I0 (.bl _)), by first | exact nomark _ | rfl⟩
theorem int_dec {i j : Int} : decide (V.int i = V.int j) = decide (i = j) := by
  by_cases h : i = j
  · subst h
    simp
  · rw [decide_eq_false h]
    exact decide_eq_false fun q => h (V.int.inj q)
theorem str_dec {i j : Str} : decide (V.str i = V.str j) = decide (i = j) := by
  by_cases h : i = j
  · subst h
    simp
  · rw [decide_eq_false h]
    exact decide_eq_false fun q => h (V.str.inj q)
theorem c_eqI {i j : Int} (ha : Pu X a σ G (.int i)) (hb : Pu X b σ G (.int j)) : PuC X .Eq a b σ G ((decide (i = j))) := ⟨_, _, _, op_eq, ha, hb, (rv_val (fun _ _ _ h => h.int_inv) (fun _ _ _ h => h.int_inv) (fun _ _ => .bl _) fun H Q q => ⟨rfl, by rw [int_dec]; exact q⟩), by first | exact nomark _ | rfl⟩
theorem c_neI {i j : Int} (ha : Pu X a σ G (.int i)) (hb : Pu X b σ G (.int j)) : PuC X .NotEq a b σ G ((!decide (i = j))) := ⟨_, _, _, op_ne, ha, hb, (rv_val (fun _ _ _ h => h.int_inv) (fun _ _ _ h => h.int_inv) (fun _ _ => .bl _) fun H Q q => ⟨rfl, by rw [int_dec]; exact q⟩), by first | exact nomark _ | rfl⟩
theorem c_eqS {i j : Str} (ha : Pu X a σ G (.str i)) (hb : Pu X b σ G (.str j)) : PuC X .Eq a b σ G ((decide (i = j))) := ⟨_, _, _, op_eq, ha, hb, (rv_val (fun _ _ _ h => h.str_inv) (fun _ _ _ h => h.str_inv) (fun _ _ => .bl _) fun H Q q => ⟨rfl, by rw [str_dec]; exact q⟩), by first | exact nomark _ | rfl⟩
theorem c_neS {i j : Str} (ha : Pu X a σ G (.str i)) (hb : Pu X b σ G (.str j)) : PuC X .NotEq a b σ G ((!decide (i = j))) := ⟨_, _, _, op_ne, ha, hb, (rv_val (fun _ _ _ h => h.str_inv) (fun _ _ _ h => h.str_inv) (fun _ _ => .bl _) fun H Q q => ⟨rfl, by rw [str_dec]; exact q⟩), by first | exact nomark _ | rfl⟩
theorem c_neB {i j : Bool} (ha : Pu X a σ G (.bool i)) (hb : Pu X b σ G (.bool j)) : PuC X .NotEq a b σ G ((i != j)) := ⟨_, _, _, op_ne, ha, hb, (rv_val (fun _ _ _ h => h.bl_inv) (fun _ _ _ h => h.bl_inv) (fun _ _ => .bl _) fun H Q q => ⟨rfl, by cases i <;> cases j <;> exact q⟩), by first | exact nomark _ | rfl⟩
theorem pu_adds {i j : Str} (ha : Pu X a σ G (.str i)) (hb : Pu X b σ G (.str j)) (hl : i.length + j.length ≤ sizeLine) : Pu X (.BinOp a .Add b pos) σ G (.str (i ++ j)) := pu_bin op_add_str ha hb (rv_val (fun _ _ _ h => h.str_inv) (fun _ _ _ h => h.str_inv) (fun _ _ => .str _) fun H Q q => ⟨i, j, rfl, rfl, hl, q⟩)
theorem pu_cat {xs ys : List Dt} (ha : Pu X a σ G (.list xs)) (hb : Pu X b σ G (.list ys)) (hl : xs.length + ys.length ≤ sizeLine) : Pu X (.BinOp a .Add b pos) σ G (.list (xs ++ ys)) := pu_bin op_cat ha hb fun G1 H v w g s hv hw Q q => by
  obtain ⟨l, vs, rfl, h1, h2⟩ := hv.lst_inv
  obtain ⟨m, ws, rfl, h3, h4⟩ := hw.lst_inv
  refine ⟨l, m, vs, ws, rfl, rfl, s _ _ h1, s _ _ h3, by rw [h2.length, h4.length]; exact hl, fun p hp => ?_⟩
  exact q _ _ _ (Step.alloc s hp) (.lst upd_same ((h2.append h4).mono (Same.toUpd (s.free hp))))
theorem c_isN (k : Bool) (ha : Pu X a σ G d) (hk : ∀ G' v, Same G G' → Da X.K G' v d → decide (v = V.non) = k) : PuC X .Is a (.Constant .none 0 p) σ G k := ⟨_, _, _, op_isN, ha, pu_non, fun G1 H v w g s hv hw Q q => by
  obtain rfl := hw.non_inv
  exact ⟨rfl, by rw [hk G1 v g hv]; exact q _ _ _ (Step.refl s) (.bl k)⟩, by exact nomark _⟩
theorem c_notN (k : Bool) (ha : Pu X a σ G d) (hk : ∀ G' v, Same G G' → Da X.K G' v d → decide (v = V.non) = k) : PuC X .IsNot a (.Constant .none 0 p) σ G (!k) := ⟨_, _, _, op_notN, ha, pu_non, fun G1 H v w g s hv hw Q q => by
  obtain rfl := hw.non_inv
  exact ⟨rfl, by rw [hk G1 v g hv]; exact q _ _ _ (Step.refl s) (.bl _)⟩, by exact nomark _⟩
/-! indices -/
theorem atI_get {xs : List V} {ds : List Dt} {K : PySem.W.Frag} (h : Das K G xs ds) {i : Int} {d : Dt} (hi : 0 ≤ i) (e : ds[i.toNat]? = some d) : ∃ v, atI xs i = some v ∧ Da K G v d := by
  obtain ⟨v, h1, h2⟩ := h.get' e
  have hl := (List.getElem?_eq_some_iff.mp h1).1
  refine ⟨v, ?_, h2⟩
  unfold atI ixN
  rw [if_pos hi, if_pos (by omega)]
  exact h1
theorem pu_ixL {i : Int} (ha : Pu X a σ G (.list ds)) (hb : Pu X b σ G (.int i)) (hi : 0 ≤ i) (e : ds[i.toNat]? = some d) (hs : PlainIx b := by exact fun _ _ => rfl) : Pu X (.Subscript a b pos) σ G d := pu_ixr ix_list ha hb (fun G1 H v w g s hv hw Q q => by
  obtain ⟨l, vs, rfl, h1, h2⟩ := hv.lst_inv
  obtain rfl := hw.int_inv
  obtain ⟨z, h3, h4⟩ := atI_get h2 hi e
  exact ⟨l, vs, i, z, rfl, rfl, SqL.of (s _ _ h1), h3, q _ _ _ (Step.refl s) h4⟩) hs
theorem pu_ixT {i : Int} (ha : Pu X a σ G (.tuple ds)) (hb : Pu X b σ G (.int i)) (hi : 0 ≤ i) (e : ds[i.toNat]? = some d) (hs : PlainIx b := by exact fun _ _ => rfl) : Pu X (.Subscript a b pos) σ G d := pu_ixr ix_tup ha hb (fun G1 H v w g s hv hw Q q => by
  obtain ⟨l, vs, rfl, h1, h2⟩ := hv.tup_inv
  obtain rfl := hw.int_inv
  obtain ⟨z, h3, h4⟩ := atI_get h2 hi e
  exact ⟨l, vs, i, z, rfl, rfl, SqT.same s h1, h3, q _ _ _ (Step.refl s) h4⟩) hs
/-! displays -/
theorem pua_nil : PuA X [] σ G [] := fun G1 H g s Q q => a_nil (q [] G1 H (Step.refl s) .nil)
theorem pua_cons (h1 : Pu X e σ G d) (h2 : PuA X es σ G ds) (hs : starEach (e :: es) X.env = (false, eval e X.env) :: starEach es X.env := by rfl) : PuA X (e :: es) σ G (d :: ds) := fun G1 H g s Q q => by
  refine a_cons (h1 G1 H g s _ fun v G2 H2 s2 hd2 => ?_) hs
  exact h2 G2 H2 (g.trans s2.g) s2.s _ fun vs G3 H3 s3 hd3 => q _ G3 H3 (s2.trans s3) (.cons (hd2.mono s3.g) hd3)
theorem pua_starL {xs : List Dt} (h1 : Pu X e σ G (.list xs)) (h2 : PuA X es σ G ds) (hs : starEach (.Starred e p :: es) X.env = (true, eval e X.env) :: starEach es X.env := by rfl) : PuA X (.Starred e p :: es) σ G (xs ++ ds) := fun G1 H g s Q q => by
  refine a_star (h1 G1 H g s _ fun v G2 H2 s2 hd2 => ?_) hs
  obtain ⟨l, vs, rfl, h3, h4⟩ := hd2.lst_inv
  refine ⟨l, vs, rfl, .inr (SqL.of (s2.s _ _ h3)), ?_⟩
  exact h2 G2 H2 (g.trans s2.g) s2.s _ fun vs G3 H3 s3 hd3 => q _ G3 H3 (s2.trans s3) ((h4.mono s3.g).append hd3)
theorem pua_starT {xs : List Dt} (h1 : Pu X e σ G (.tuple xs)) (h2 : PuA X es σ G ds) (hs : starEach (.Starred e p :: es) X.env = (true, eval e X.env) :: starEach es X.env := by rfl) : PuA X (.Starred e p :: es) σ G (xs ++ ds) := fun G1 H g s Q q => by
  refine a_star (h1 G1 H g s _ fun v G2 H2 s2 hd2 => ?_) hs
  obtain ⟨l, vs, rfl, h3, h4⟩ := hd2.tup_inv
  refine ⟨l, vs, rfl, .inl (SqT.same s2.s h3), ?_⟩
  exact h2 G2 H2 (g.trans s2.g) s2.s _ fun vs G3 H3 s3 hd3 => q _ G3 H3 (s2.trans s3) ((h4.mono s3.g).append hd3)
theorem pu_lst (h : PuA X es σ G ds) (hl : ds.length ≤ sizeLine := by first | decide | (simp only [List.length_cons, List.length_nil, ofS, ofI, List.length_map]; decide)) : Pu X (.List es pos) σ G (.list ds) := fun G1 H g s Q q => by
  refine w_lst (h G1 H g s _ fun vs G2 H2 s2 hd2 => ⟨by rw [hd2.length]; exact hl, fun p hp => ?_⟩)
  exact q _ _ _ (s2.trans (Step.alloc s2.s hp)) (.lst upd_same (hd2.mono (Same.toUpd (s2.s.free hp))))
theorem pu_tup {k : Nat} (h : PuA X es σ G ds) (hl : ds.length ≤ sizeLine := by first | decide | (simp only [List.length_cons, List.length_nil, ofS, ofI, List.length_map]; decide)) : Pu X (.Tuple es k pos) σ G (.tuple ds) := fun G1 H g s Q q => by
  refine w_tup (h G1 H g s _ fun vs G2 H2 s2 hd2 => ⟨by rw [hd2.length]; exact hl, fun p hp => ?_⟩)
  exact q _ _ _ (s2.trans (Step.alloc s2.s hp)) (.tup (SqT.of upd_same) (hd2.mono (Same.toUpd (s2.s.free hp))))
/-! calls of built-ins -/
theorem pu_one {id : String} {x : Str} {r : List V → Hp → VK → Prop} (hc : CallR X (.builtin id) r) (ha : Pu X a σ G d1) (hr : ∀ G1 H v, Same G G1 → Same G1 H → Da X.K G1 v d1 → ∀ Q : VK, (∀ z G' H', Step [] G1 H G' H' → Da X.K G' z d → Q z H') → r [v] H Q)
    (hm : X.mg x = none) (hv : bootBuiltins x = some (.builtin id)) (hg : Gl X x := by rfl) (hn : x ≠ "__name__" := by decide) (hdb : (x == ("__debug__" : Str)) = false := by decide) (he : starEach [a] X.env = [(false, eval a X.env)] := by rfl) :
    Pu X (.Call (.Name x p) [a] [] pos) σ G d := fun G1 H g s Q q => by
  refine w_callB hc hm hv (a_cons (ha G1 H g s _ fun v G2 H2 s2 hd2 => a_nil ?_) he) hg hn hdb he rfl
  exact hr G2 H2 v (g.trans s2.g) s2.s hd2 Q fun z G3 H3 s3 hz => q z G3 H3 (s2.trans s3) hz
theorem pu_oneT {id : String} {x : Str} {r : List V → Hp → VK → Prop} (hc : CallR X (.type id) r) (ha : Pu X a σ G d1) (hr : ∀ G1 H v, Same G G1 → Same G1 H → Da X.K G1 v d1 → ∀ Q : VK, (∀ z G' H', Step [] G1 H G' H' → Da X.K G' z d → Q z H') → r [v] H Q)
    (hm : X.mg x = none) (hv : bootBuiltins x = some (.type id)) (hg : Gl X x := by rfl) (hn : x ≠ "__name__" := by decide) (hdb : (x == ("__debug__" : Str)) = false := by decide) (he : starEach [a] X.env = [(false, eval a X.env)] := by rfl) :
    Pu X (.Call (.Name x p) [a] [] pos) σ G d := fun G1 H g s Q q => by
  refine w_callTy hc hm hv (a_cons (ha G1 H g s _ fun v G2 H2 s2 hd2 => a_nil ?_) he) hg hn hdb he rfl
  exact hr G2 H2 v (g.trans s2.g) s2.s hd2 Q fun z G3 H3 s3 hz => q z G3 H3 (s2.trans s3) hz
theorem pu_lenL {p : Pos} (ha : Pu X a σ G (.list ds)) (hm : X.mg "len" = none) (hg : Gl X "len" := by rfl) (he : starEach [a] X.env = [(false, eval a X.env)] := by rfl) : Pu X (.Call (.Name "len" p) [a] [] pos) σ G (.int ds.length) :=
  pu_one call_len_seq ha (fun G1 H v g s hv Q q => by
    obtain ⟨l, vs, rfl, h1, h2⟩ := hv.lst_inv
    exact ⟨l, vs, rfl, .inl (SqL.of (s _ _ h1)), by rw [h2.length]; exact q _ _ _ (Step.refl s) (.int _)⟩) hm PySem.boot_len hg (by decide) (by decide) he
theorem pu_lenT {p : Pos} (ha : Pu X a σ G (.tuple ds)) (hm : X.mg "len" = none) (hg : Gl X "len" := by rfl) (he : starEach [a] X.env = [(false, eval a X.env)] := by rfl) : Pu X (.Call (.Name "len" p) [a] [] pos) σ G (.int ds.length) :=
  pu_one call_len_seq ha (fun G1 H v g s hv Q q => by
    obtain ⟨l, vs, rfl, h1, h2⟩ := hv.tup_inv
    exact ⟨l, vs, rfl, .inr (SqT.same s h1), by rw [h2.length]; exact q _ _ _ (Step.refl s) (.int _)⟩) hm PySem.boot_len hg (by decide) (by decide) he
theorem pu_lenS {p : Pos} {x : Str} (ha : Pu X a σ G (.str x)) (hl : x.length ≤ sizeLine) (hm : X.mg "len" = none) (hg : Gl X "len" := by rfl) (he : starEach [a] X.env = [(false, eval a X.env)] := by rfl) : Pu X (.Call (.Name "len" p) [a] [] pos) σ G (.int x.length) :=
  pu_one call_len_str ha (fun G1 H v g s hv Q q => by
    obtain rfl := hv.str_inv
    exact ⟨x, rfl, hl, q _ _ _ (Step.refl s) (.int _)⟩) hm PySem.boot_len hg (by decide) (by decide) he
theorem pu_listL {p : Pos} (ha : Pu X a σ G (.list ds)) (hm : X.mg "list" = none) (hg : Gl X "list" := by rfl) (he : starEach [a] X.env = [(false, eval a X.env)] := by rfl) : Pu X (.Call (.Name "list" p) [a] [] pos) σ G (.list ds) :=
  pu_oneT call_list_of ha (fun G1 H v g s hv Q q => by
    obtain ⟨l, vs, rfl, h1, h2⟩ := hv.lst_inv
    exact ⟨l, vs, rfl, .inl (SqL.of (s _ _ h1)), fun p hp => q _ _ _ (Step.alloc s hp) (.lst upd_same (h2.mono (Same.toUpd (s.free hp))))⟩) hm (by decide +kernel) hg (by decide) (by decide) he
theorem pu_listT {p : Pos} (ha : Pu X a σ G (.tuple ds)) (hm : X.mg "list" = none) (hg : Gl X "list" := by rfl) (he : starEach [a] X.env = [(false, eval a X.env)] := by rfl) : Pu X (.Call (.Name "list" p) [a] [] pos) σ G (.list ds) :=
  pu_oneT call_list_of ha (fun G1 H v g s hv Q q => by
    obtain ⟨l, vs, rfl, h1, h2⟩ := hv.tup_inv
    exact ⟨l, vs, rfl, .inr (SqT.same s h1), fun p hp => q _ _ _ (Step.alloc s hp) (.lst upd_same (h2.mono (Same.toUpd (s.free hp))))⟩) hm (by decide +kernel) hg (by decide) (by decide) he
theorem pu_tupleL {p : Pos} (ha : Pu X a σ G (.list ds)) (hm : X.mg "tuple" = none) (hg : Gl X "tuple" := by rfl) (he : starEach [a] X.env = [(false, eval a X.env)] := by rfl) : Pu X (.Call (.Name "tuple" p) [a] [] pos) σ G (.tuple ds) :=
  pu_oneT call_tuple_of ha (fun G1 H v g s hv Q q => by
    obtain ⟨l, vs, rfl, h1, h2⟩ := hv.lst_inv
    exact ⟨l, vs, rfl, .inl ⟨SqL.of (s _ _ h1), fun p hp => q _ _ _ (Step.alloc s hp) (.tup (SqT.of upd_same) (h2.mono (Same.toUpd (s.free hp))))⟩⟩) hm (by decide +kernel) hg (by decide) (by decide) he
theorem pu_tupleT {p : Pos} (ha : Pu X a σ G (.tuple ds)) (hm : X.mg "tuple" = none) (hg : Gl X "tuple" := by rfl) (he : starEach [a] X.env = [(false, eval a X.env)] := by rfl) : Pu X (.Call (.Name "tuple" p) [a] [] pos) σ G (.tuple ds) :=
  pu_oneT call_tuple_of ha (fun G1 H v g s hv Q q => by
    obtain ⟨l, vs, rfl, h1, h2⟩ := hv.tup_inv
    exact ⟨l, vs, rfl, .inr ⟨SqT.same s h1, q _ _ _ (Step.refl s) (.tup h1 h2)⟩⟩) hm (by decide +kernel) hg (by decide) (by decide) he
theorem pu_intI {p : Pos} {i : Int} (ha : Pu X a σ G (.int i)) (hm : X.mg "int" = none) (hg : Gl X "int" := by rfl) (he : starEach [a] X.env = [(false, eval a X.env)] := by rfl) : Pu X (.Call (.Name "int" p) [a] [] pos) σ G (.int i) :=
  pu_oneT call_int1 ha (fun G1 H v g s hv Q q => by
    obtain rfl := hv.int_inv
    exact .inl ⟨i, rfl, q _ _ _ (Step.refl s) (.int _)⟩) hm (by decide +kernel) hg (by decide) (by decide) he
theorem pu_intB {p : Pos} {i : Bool} (ha : Pu X a σ G (.bool i)) (hm : X.mg "int" = none) (hg : Gl X "int" := by rfl) (he : starEach [a] X.env = [(false, eval a X.env)] := by rfl) : Pu X (.Call (.Name "int" p) [a] [] pos) σ G (.int (if i then 1 else 0)) :=
  pu_oneT call_int1 ha (fun G1 H v g s hv Q q => by
    obtain rfl := hv.bl_inv
    exact .inr ⟨i, rfl, q _ _ _ (Step.refl s) (.int _)⟩) hm (by decide +kernel) hg (by decide) (by decide) he
theorem pu_abs {p : Pos} {i : Int} (ha : Pu X a σ G (.int i)) (hm : X.mg "abs" = none) (hg : Gl X "abs" := by rfl) (he : starEach [a] X.env = [(false, eval a X.env)] := by rfl) : Pu X (.Call (.Name "abs" p) [a] [] pos) σ G (.int (if i < 0 then -i else i)) :=
  pu_one call_abs ha (fun G1 H v g s hv Q q => by
    obtain rfl := hv.int_inv
    exact ⟨i, rfl, q _ _ _ (Step.refl s) (.int _)⟩) hm (by decide +kernel) hg (by decide) (by decide) he
/-! tests -/
theorem put_val {k : Bool} (h : Pu X e σ G (.bool k)) (he : ∀ whole, isTrue e X.env whole = (do let v ← whole; standAt e.pos; holding [v] (truthy v)) := by intro _; rfl) : PuT X e σ G k := fun G1 H g s Q q => by
  refine t_val (h G1 H g s _ fun v G2 H2 s2 hd => ?_) he
  exact ⟨k, hd.bl_inv, q G2 H2 s2⟩
theorem put_not {k : Bool} (h : PuT X a σ G k) : PuT X (.UnaryOp .Not a pos) σ G (!k) := fun G1 H g s Q q => t_not (h G1 H g s _ q)
theorem put_w {k : Bool} (h : PuW X e σ G k) : PuT X e σ G k := fun G1 H g s Q q => t_w (h G1 H g s _ q)
theorem puw_and {k k' : Bool} (h : PuT X a σ G k) (h' : k = true → PuW X (.BoolOp .And (b :: es) pos) σ G k') : PuW X (.BoolOp .And (a :: b :: es) pos) σ G (k && k') := fun G1 H g s Q q => by
  refine t_and (h G1 H g s _ fun G2 H2 s2 => ?_)
  cases k with
  | true =>
    rw [if_pos rfl]
    exact h' rfl G2 H2 (g.trans s2.g) s2.s _ fun G3 H3 s3 => q G3 H3 (s2.trans s3)
  | false =>
    rw [if_neg Bool.false_ne_true]
    exact q G2 H2 s2
theorem puw_and1 {k : Bool} (h : PuT X a σ G k) : PuW X (.BoolOp .And [a] pos) σ G k := fun G1 H g s Q q => t_and1 (h G1 H g s _ q)
theorem puw_or {k k' : Bool} (h : PuT X a σ G k) (h' : k = false → PuW X (.BoolOp .Or (b :: es) pos) σ G k') : PuW X (.BoolOp .Or (a :: b :: es) pos) σ G (k || k') := fun G1 H g s Q q => by
  refine t_or (h G1 H g s _ fun G2 H2 s2 => ?_)
  cases k with
  | true =>
    rw [if_pos rfl]
    exact q G2 H2 s2
  | false =>
    rw [if_neg Bool.false_ne_true]
    exact h' rfl G2 H2 (g.trans s2.g) s2.s _ fun G3 H3 s3 => q G3 H3 (s2.trans s3)
theorem puw_or1 {k : Bool} (h : PuT X a σ G k) : PuW X (.BoolOp .Or [a] pos) σ G k := fun G1 H g s Q q => t_or1 (h G1 H g s _ q)
theorem puts_nil : PuTs X [] σ G true := fun G1 H g s Q q => ⟨_, pts_nil, q G1 H (Step.refl s)⟩
theorem puts_one {k : Bool} (h : PuT X e σ G k) : PuTs X [e] σ G k := fun G1 H g s Q q => ⟨_, pts_one pt_e, h G1 H g s Q q⟩
theorem pu_if {k : Bool} (hc : PuT X c σ G k) (ha : k = true → Pu X a σ G d) (hb : k = false → Pu X b σ G d) : Pu X (.IfExp c a b pos) σ G d := fun G1 H g s Q q => by
  refine w_if (hc G1 H g s _ fun G2 H2 s2 => ?_)
  cases k with
  | true =>
    rw [if_pos rfl]
    exact ha rfl G2 H2 (g.trans s2.g) s2.s _ fun v G3 H3 s3 hd => q v G3 H3 (s2.trans s3) hd
  | false =>
    rw [if_neg Bool.false_ne_true]
    exact hb rfl G2 H2 (g.trans s2.g) s2.s _ fun v G3 H3 s3 hd => q v G3 H3 (s2.trans s3) hd
theorem pu_not {k : Bool} (ha : Pu X a σ G (.bool k)) : Pu X (.UnaryOp .Not a pos) σ G (.bool (!k)) := fun G1 H g s Q q => by
  refine w_not (ha G1 H g s _ fun v G2 H2 s2 hd => ?_)
  exact ⟨k, hd.bl_inv, q _ _ _ s2 (.bl _)⟩
theorem pu_and {k k' : Bool} (ha : Pu X a σ G (.bool k)) (hb : k = true → Pu X (.BoolOp .And (b :: es) pos) σ G (.bool k')) : Pu X (.BoolOp .And (a :: b :: es) pos) σ G (.bool (k && k')) := fun G1 H g s Q q => by
  refine w_and (ha G1 H g s _ fun v G2 H2 s2 hd => ?_)
  refine ⟨k, hd.bl_inv, ?_⟩
  cases k with
  | true =>
    rw [if_pos rfl]
    exact hb rfl G2 H2 (g.trans s2.g) s2.s _ fun v G3 H3 s3 hd => q v G3 H3 (s2.trans s3) hd
  | false =>
    rw [if_neg Bool.false_ne_true]
    exact q _ G2 H2 s2 (.bl _)
theorem pu_or {k k' : Bool} (ha : Pu X a σ G (.bool k)) (hb : k = false → Pu X (.BoolOp .Or (b :: es) pos) σ G (.bool k')) : Pu X (.BoolOp .Or (a :: b :: es) pos) σ G (.bool (k || k')) := fun G1 H g s Q q => by
  refine w_or (ha G1 H g s _ fun v G2 H2 s2 hd => ?_)
  refine ⟨k, hd.bl_inv, ?_⟩
  cases k with
  | true =>
    rw [if_pos rfl]
    exact q _ G2 H2 s2 (.bl _)
  | false =>
    rw [if_neg Bool.false_ne_true]
    exact hb rfl G2 H2 (g.trans s2.g) s2.s _ fun v G3 H3 s3 hd => q v G3 H3 (s2.trans s3) hd
theorem pu_bo1 {op : BoolOp} (ha : Pu X a σ G d) : Pu X (.BoolOp op [a] pos) σ G d := fun G1 H g s Q q => w_one (ha G1 H g s Q q)
end
end Mb

set_option Elab.async false
set_option linter.all false
set_option maxRecDepth 100000
set_option maxHeartbeats 2000000
/-! What is walked; loops and comprehensions. -/
namespace Mb
open PySem PySem.Spec PyProof.Rows L2

def Walks (K : PySem.W.Frag) (J : It) (G : Hp) (ds : List Dt) : Prop := ∀ i G1 H, Same G G1 → Same G1 H →
  (∀ d, ds[i]? = some d → J.go i H ∧ ∀ x H', J.yld i H x H' → ∃ G', Step [] G1 H G' H' ∧ Da K G' x d) ∧ (ds.length ≤ i → J.stop i H)
def Src (X : Cx) (tg e : Expr) (σ : L2.St) (G : Hp) (ds : List Dt) : Prop := ∀ G1 H, Same G G1 → Same G1 H → ∀ R : It → Hp → Prop, (∀ J G' H', Step [] G1 H G' H' → Walks X.K J G' ds → R J H') → eI X tg e σ H R
def rangeD (lo : Int) (n : Nat) : List Dt := (List.range n).map fun i => .int (lo + (i : Nat))
theorem rangeD_len (lo : Int) (n : Nat) : (rangeD lo n).length = n := by simp [rangeD]
theorem rangeD_get {lo : Int} {n i : Nat} {d : Dt} (h : (rangeD lo n)[i]? = some d) : i < n ∧ d = .int (lo + (i : Nat)) := by
  have hl := (List.getElem?_eq_some_iff.mp h).1
  rw [rangeD_len] at hl
  refine ⟨hl, ?_⟩
  unfold rangeD at h
  rw [List.getElem?_map, List.getElem?_range hl] at h
  exact (Option.some.inj h).symm
section
variable {X : Cx} {σ : L2.St} {G G' H : Hp} {a b c e tg : Expr} {es : List Expr} {pos p p2 : Pos} {d d1 d2 : Dt} {ds : List Dt}
theorem walks_list {K : PySem.W.Frag} {l : Addr} {vs : List V} (h : G l = some (.lst vs)) (hd : Das K G vs ds) : Walks K (Itl K l) G ds := fun i G1 H g s => by
  have hq : SqL K H l vs := SqL.of (s _ _ (g _ _ h))
  refine ⟨fun d hd' => ?_, fun hi => ⟨vs, hq, by rw [hd.length]; exact hi⟩⟩
  obtain ⟨v, hv, hv2⟩ := hd.get' hd'
  refine ⟨⟨vs, v, hq, hv⟩, fun x H' hy => ?_⟩
  obtain ⟨rfl, hx⟩ := hy
  have e := hx vs hq
  rw [hv] at e
  cases e
  exact ⟨G1, Step.refl s, hv2.mono g⟩
theorem walks_tup {K : PySem.W.Frag} {l : Addr} {vs : List V} (h : SqT K G l vs) (hd : Das K G vs ds) : Walks K (Itt K l) G ds := fun i G1 H g s => by
  have hq : SqT K H l vs := SqT.same s (SqT.same g h)
  refine ⟨fun d hd' => ?_, fun hi => ⟨vs, hq, by rw [hd.length]; exact hi⟩⟩
  obtain ⟨v, hv, hv2⟩ := hd.get' hd'
  refine ⟨⟨vs, v, hq, hv⟩, fun x H' hy => ?_⟩
  obtain ⟨rfl, hx⟩ := hy
  have e := hx vs hq
  rw [hv] at e
  cases e
  exact ⟨G1, Step.refl s, hv2.mono g⟩
theorem walks_range {K : PySem.W.Frag} {lo : Int} {n : Nat} : Walks K (Itr lo n) G (rangeD lo n) := fun i G1 H g s => by
  refine ⟨fun d hd' => ?_, fun hi => by rw [rangeD_len] at hi; exact hi⟩
  obtain ⟨h1, rfl⟩ := rangeD_get hd'
  refine ⟨h1, fun x H' hy => ?_⟩
  obtain ⟨rfl, rfl⟩ := hy
  exact ⟨G1, Step.refl s, .int _⟩
def signsD (x : Str) : List Dt := x.cps.toList.map fun c => .str ⟨#[c]⟩
theorem walks_str {K : PySem.W.Frag} {x : Str} : Walks K (Its x) G (signsD x) := fun i G1 H g s => by
  refine ⟨fun d hd' => ?_, fun hi => by
    unfold signsD at hi
    rw [List.length_map, Array.length_toList] at hi
    exact hi⟩
  unfold signsD at hd'
  rw [List.getElem?_map] at hd'
  cases hc : x.cps.toList[i]? with
  | none => rw [hc] at hd'; cases hd'
  | some c =>
    rw [hc] at hd'
    obtain rfl := Option.some.inj hd'
    have h1 : i < x.cps.size := by
      have := (List.getElem?_eq_some_iff.mp hc).1
      simpa using this
    refine ⟨h1, fun y H' hy => ?_⟩
    obtain ⟨rfl, c', hc', rfl⟩ := hy
    have : c' = c := by
      rw [Array.getElem?_toList] at hc
      rw [hc] at hc'
      exact (Option.some.inj hc').symm
    subst this
    exact ⟨G1, Step.refl s, .str _⟩
theorem src_list (ha : Pu X a σ G (.list ds)) : Src X tg a σ G ds := fun G1 H g s R q => by
  refine ⟨_, pi_list pe_e, ha G1 H g s _ fun v G2 H2 s2 hd => ?_⟩
  obtain ⟨l, vs, rfl, h1, h2⟩ := hd.lst_inv
  exact ⟨l, rfl, ⟨vs, SqL.of (s2.s _ _ h1)⟩, q _ G2 H2 s2 (walks_list h1 h2)⟩
theorem src_tup (ha : Pu X a σ G (.tuple ds)) : Src X tg a σ G ds := fun G1 H g s R q => by
  refine ⟨_, pi_tup pe_e, ha G1 H g s _ fun v G2 H2 s2 hd => ?_⟩
  obtain ⟨l, vs, rfl, h1, h2⟩ := hd.tup_inv
  exact ⟨l, rfl, ⟨vs, SqT.same s2.s h1⟩, q _ G2 H2 s2 (walks_tup h1 h2)⟩
theorem src_str {x : Str} (ha : Pu X a σ G (.str x)) : Src X tg a σ G (signsD x) := fun G1 H g s R q => by
  refine ⟨_, pi_str pe_e, ha G1 H g s _ fun v G2 H2 s2 hd => ?_⟩
  exact ⟨x, hd.str_inv, q _ G2 H2 s2 walks_str⟩
theorem src_range {n : Int} (ha : Pu X a σ G (.int n)) (h1 : -(2 ^ 62) ≤ n) (h2 : n < 2 ^ 62) (hm : X.mg "range" = none) (hg : Gl X "range" := by rfl) (hs : starEach [a] X.env = [(false, eval a X.env)] := by rfl) :
    Src X tg (.Call (.Name "range" p) [a] [] pos) σ G (rangeD 0 n.toNat) := fun G1 H g s R q => by
  refine ⟨_, pi_range1 hg hm pa_e hs, a_cons (ha G1 H g s _ fun v G2 H2 s2 hd => a_nil ?_) hs⟩
  exact ⟨n, by rw [hd.int_inv], h1, h2, q _ G2 H2 s2 walks_range⟩
theorem src_range2 {m n : Int} (ha : Pu X a σ G (.int m)) (hb : Pu X b σ G (.int n)) (h : -(2 ^ 62) ≤ m ∧ m < 2 ^ 62 ∧ -(2 ^ 62) ≤ n ∧ n < 2 ^ 62) (hm : X.mg "range" = none) (hg : Gl X "range" := by rfl)
    (hs : starEach [a, b] X.env = [(false, eval a X.env), (false, eval b X.env)] := by rfl) (hs2 : starEach [b] X.env = [(false, eval b X.env)] := by rfl) :
    Src X tg (.Call (.Name "range" p) [a, b] [] pos) σ G (rangeD m (n - m).toNat) := fun G1 H g s R q => by
  refine ⟨_, pi_range2 hg hm pa_e hs hs2, a_cons (ha G1 H g s _ fun v G2 H2 s2 hd => a_cons (hb G2 H2 (g.trans s2.g) s2.s _ fun w G3 H3 s3 hd3 => a_nil ?_) hs2) (by rw [hs, hs2])⟩
  exact ⟨m, n, by rw [hd.int_inv, hd3.int_inv], h, q _ G3 H3 (s2.trans s3) walks_range⟩
theorem SqL.same {K : PySem.W.Frag} {a : Addr} {xs : List V} (e : Same G G') (h : SqL K G a xs) : SqL K G' a xs := Same.seq e h
def zipD (xs ys : List Dt) : List Dt := List.zipWith (fun x y => .tuple [x, y]) xs ys
theorem zipD_get {xs ys : List Dt} {i : Nat} {d : Dt} (h : (zipD xs ys)[i]? = some d) : ∃ x y, xs[i]? = some x ∧ ys[i]? = some y ∧ d = .tuple [x, y] := by
  unfold zipD at h
  rw [List.getElem?_zipWith] at h
  cases hx : xs[i]? with
  | none => rw [hx] at h; cases h
  | some x =>
    cases hy : ys[i]? with
    | none => rw [hx, hy] at h; cases h
    | some y =>
      rw [hx, hy] at h
      exact ⟨x, y, rfl, rfl, (Option.some.inj h).symm⟩
theorem walks_zip {K : PySem.W.Frag} {l m : Addr} {vs ws : List V} {xs ys : List Dt} (h : G l = some (.lst vs)) (hd : Das K G vs xs) (h' : G m = some (.lst ws)) (hd' : Das K G ws ys) : Walks K (Itz K l m) G (zipD xs ys) := fun i G1 H g s => by
  have hq : SqL K H l vs := SqL.of (s _ _ (g _ _ h))
  have hq' : SqL K H m ws := SqL.of (s _ _ (g _ _ h'))
  refine ⟨fun d hz => ?_, fun hi => ⟨vs, ws, hq, hq', ?_⟩⟩
  · obtain ⟨x, y, hx, hy, rfl⟩ := zipD_get hz
    obtain ⟨v, hv, hv2⟩ := hd.get' hx
    obtain ⟨w, hw, hw2⟩ := hd'.get' hy
    refine ⟨⟨vs, ws, v, w, hq, hq', hv, hw⟩, fun z H' hz' => ?_⟩
    obtain ⟨T, x', y', rfl, hT, rfl, k1, k2⟩ := hz'
    have e1 := k1 vs hq
    have e2 := k2 ws hq'
    rw [hv] at e1
    rw [hw] at e2
    cases e1
    cases e2
    refine ⟨_, Step.alloc s hT, .tup (SqT.of upd_same) (.cons ((hv2.mono g).mono (Same.toUpd (s.free hT))) (.one ((hw2.mono g).mono (Same.toUpd (s.free hT)))))⟩
  · unfold zipD at hi
    rw [List.length_zipWith] at hi
    rw [hd.length, hd'.length]
    omega
theorem src_zip {xs ys : List Dt} {elts : List Expr} {kk : Nat} {tpos : Pos} (ha : Pu X a σ G (.list xs)) (hb : Pu X b σ G (.list ys)) (hm : X.mg "zip" = none) (hg : Gl X "zip" := by rfl)
    (hs : starEach [a, b] X.env = (false, eval a X.env) :: starEach [b] X.env := by rfl) (hpl : (backTo pos (starEach [b] X.env)).any (·.1) = false := by rfl) (hs2 : starEach [b] X.env = (false, eval b X.env) :: starEach [] X.env := by rfl) :
    Src X (.Tuple elts kk tpos) (.Call (.Name "zip" p) [a, b] [] pos) σ G (zipD xs ys) := fun G1 H g s R q => by
  refine ⟨_, pi_zip hg hm pa_e hs hpl, a_cons (ha G1 H g s _ fun v G2 H2 s2 hd => a_cons (hb G2 H2 (g.trans s2.g) s2.s _ fun w G3 H3 s3 hd3 => a_nil ?_) hs2) hs⟩
  obtain ⟨l, vs, rfl, h1, h2⟩ := hd.lst_inv
  obtain ⟨m, ws, rfl, h3, h4⟩ := hd3.lst_inv
  exact ⟨l, m, vs, ws, rfl, SqL.of (s3.s _ _ (s3.g _ _ h1)), SqL.of (s3.s _ _ h3), q _ G3 H3 (s2.trans s3) (walks_zip (s3.g _ _ h1) (h2.mono s3.g) h3 h4)⟩

/-! ### for -/
/-- a for over what is walked as known data; I: what holds ahead of turn i -/
theorem s_forI {s1 : List Stmt} {D : Ends}
    (hI : eI X tg e σ H fun J H1 => ∃ (G1 : Hp) (ds : List Dt) (I : Nat → L2.St → Hp → Prop), Walks X.K J G1 ds ∧ I 0 σ H1 ∧ (∀ i σ H, I i σ H → Same G1 H) ∧
      (∀ i d x σ H H', ds[i]? = some d → I i σ H → (∀ G2, Same G1 G2 → Same G2 H → ∃ G', Step [] G2 H G' H' ∧ Da X.K G' x d) → eG X tg x σ H' fun σ2 H2 => eB X s1 { D with nx := I (i + 1), ct := I (i + 1), bk := D.nx } σ2 H2) ∧
      ∀ σ H, I ds.length σ H → D.nx σ H) (hp : PassesOwn (model X.prog X.w) X.A X.env X.xe := by exact PassesOwn.never) (hc : X.calm = true := by rfl) (hsi : ∀ x, foldedSetIterable e X.env x = pure x := by intro _; rfl) : eS X (.For tg e s1 [] pos) D σ H := by
  obtain ⟨w, hw0, hI⟩ := hI
  refine ⟨_, ps_for hp hc (wi := fun σ H R => ∃ R' : It → Hp → Prop, w σ H R' ∧ ∀ J H', R' J H' → R J H') ⟨fun pins s σ H R I0 ⟨R', h1, h2⟩ => ?_⟩ pg_e pss_e hsi, _, hI, ?_⟩
  · refine thn (hw0.run pins s σ H R' I0 h1) fun v s1 q => thn q fun it s2 ⟨a1, a2, a3, a4, a5, a6, a7, a8, a9, a10, a11⟩ => ?_
    exact ⟨a1, a2, a3, a4, a5, a6, a7, a8, a9, a10, h2 _ _ a11⟩
  rintro J H1 ⟨G1, ds, I, hw, h0, hG, step, done⟩
  refine ⟨fun i m σ H => I i σ H ∧ i ≤ ds.length ∧ m = ds.length - i, ⟨ds.length, h0, Nat.zero_le _, by omega⟩, ?_⟩
  rintro i m σ H ⟨hI, hi, rfl⟩
  have hs1 := hG i σ H hI
  obtain ⟨w1, w2⟩ := hw i G1 H (Same.refl G1) hs1
  by_cases hlt : i < ds.length
  · right
    have hd : ds[i]? = some ds[i] := List.getElem?_eq_getElem hlt
    obtain ⟨go, yl⟩ := w1 _ hd
    refine ⟨go, I (i + 1), fun σ' H' h => ⟨ds.length - (i + 1), by omega, h, by omega, rfl⟩, fun x H' hy => ?_⟩
    refine step i _ x σ H H' hd hI fun G2 g2 s2 => ?_
    obtain ⟨w3, _⟩ := hw i G2 H g2 s2
    exact (w3 _ hd).2 x H' hy
  · left
    have : i = ds.length := by omega
    subst this
    exact ⟨w2 (Nat.le_refl _), done σ H hI⟩
/-- a for over known data -/
theorem s_forD {s1 : List Stmt} {D : Ends} (hs : Src X tg e σ G ds) (g : Same G H)
    (k : ∀ G1 H1, Step [] G H G1 H1 → ∃ I : Nat → L2.St → Hp → Prop, I 0 σ H1 ∧ (∀ i σ H, I i σ H → Same G1 H) ∧
      (∀ i d x σ H H', ds[i]? = some d → I i σ H → (∀ G2, Same G1 G2 → Same G2 H → ∃ G', Step [] G2 H G' H' ∧ Da X.K G' x d) → eG X tg x σ H' fun σ2 H2 => eB X s1 { D with nx := I (i + 1), ct := I (i + 1), bk := D.nx } σ2 H2) ∧
      ∀ σ H, I ds.length σ H → D.nx σ H) (hp : PassesOwn (model X.prog X.w) X.A X.env X.xe := by exact PassesOwn.never) (hc : X.calm = true := by rfl) (hsi : ∀ x, foldedSetIterable e X.env x = pure x := by intro _; rfl) : eS X (.For tg e s1 [] pos) D σ H :=
  s_forI (hs G H (Same.refl G) g _ fun J G1 H1 s1' hw => by
    obtain ⟨I, h0, hG, step, done⟩ := k G1 H1 s1'
    exact ⟨G1, ds, I, hw, h0, hG, step, done⟩) hp hc hsi

/-! ### comprehensions -/
def Bk (X : Cx) (scope : Scope) (P : Cx → Prop) : Prop := ∀ (s0 : Shared) (H0 : Hp) (C : Addr) (cl : List (Str × Addr)) (fp : List Addr), P (X.blk s0 H0 scope (compEnvC scope cl C X.env) fp)
def bG (X : Cx) (scope : Scope) (tg : Expr) : TG := fun v σ H Q => Bk X scope fun X' => eG X' tg v σ H Q
def bTs (X : Cx) (scope : Scope) (es : List Expr) : TT := fun σ H Q => Bk X scope fun X' => eTs X' es σ H Q
def bE (X : Cx) (scope : Scope) (e : Expr) : TE := fun σ H Q => Bk X scope fun X' => eE X' e σ H Q
/-- a comprehension, by its reading -/
def eLc (X : Cx) (elt tg iter : Expr) (ifs : List Expr) (scope : Scope) (vs : List Nat) : TE := fun σ H Q => ∃ wi, PI X tg iter wi ∧ tLc wi (bG X scope tg) (bTs X scope ifs) (bE X scope elt) vs σ H Q
theorem w_lc {elt iter : Expr} {ifs : List Expr} {scope : Scope} (own : List (Str × Nat)) {Q : VK} (ok : BlkOk X.N X.env.scope scope own) (hN : X.N.Nodup) (q : eLc X elt tg iter ifs scope (own.map (·.2)) σ H Q)
    (hc : X.calm = true := by rfl) (hsi : ∀ x, foldedSetIterable iter X.env x = pure x := by intro _; rfl) : eE X (.ListComp elt [⟨tg, iter, ifs, 0⟩] scope pos) σ H Q := by
  obtain ⟨wi, hw, q⟩ := q
  exact eE.mk (pe_lc hc hN hw ok (fun s0 H0 C cl fp => ⟨fun pins s σ H v u Q I r h => pg_e.run pins s σ H v u Q I r (h s0 H0 C cl fp)⟩)
    (fun s0 H0 C cl fp => ⟨fun pins s σ H Q I h => pts_e.run pins s σ H Q I (h s0 H0 C cl fp)⟩) (fun s0 H0 C cl fp => ⟨fun pins s σ H Q I h => pe_e.run pins s σ H Q I (h s0 H0 C cl fp)⟩) hsi) q
/-- name = a comprehension -/
theorem s_setLc (i : Nat) {elt iter : Expr} {ifs : List Expr} {scope : Scope} (own : List (Str × Nat)) {D : Ends} {y : Str} {py spos : Pos} (ok : BlkOk X.N X.env.scope scope own) (hN : X.N.Nodup) (q : eLc X elt tg iter ifs scope (own.map (·.2)) σ H fun v H1 => D.nx (σ.set i (some v)) H1)
    (hc : X.calm = true := by rfl) (hy : X.N[i]? = some y := by rfl) (hyl : X.env.scope.names.lookup y = some .local := by rfl) (hsw : swapsWith (.ListComp elt [⟨tg, iter, ifs, 0⟩] scope pos) (some (.Name y py)) spos.line X.env = pure true := by exact sw_true rfl rfl rfl (by decide +kernel))
    (hsi : ∀ x, foldedSetIterable iter X.env x = pure x := by intro _; rfl) : eS X (.Assign [.Name y py] (.ListComp elt [⟨tg, iter, ifs, 0⟩] scope pos) spos) D σ H := by
  obtain ⟨wi, hw, q⟩ := q
  exact ⟨_, ps_setLc hc hN hy hyl hsw hw ok (fun s0 H0 C cl fp => ⟨fun pins s σ H v u Q I r h => pg_e.run pins s σ H v u Q I r (h s0 H0 C cl fp)⟩)
    (fun s0 H0 C cl fp => ⟨fun pins s σ H Q I h => pts_e.run pins s σ H Q I (h s0 H0 C cl fp)⟩) (fun s0 H0 C cl fp => ⟨fun pins s σ H Q I h => pe_e.run pins s σ H Q I (h s0 H0 C cl fp)⟩) hsi, q⟩
theorem lcIM {elt iter : Expr} {ifs : List Expr} {scope : Scope} (own : List (Str × Nat)) {Q : VK}
    (hI : eI X tg iter σ H fun J H1 => ∃ (G1 : Hp) (ds : List Dt) (A : List Addr) (M : Nat → Hp → Prop) (Rel : Nat → List Dt → Prop), Same G1 H1 ∧ Walks X.K J G1 ds ∧ M 0 H1 ∧ Rel 0 [] ∧ (∀ i H H', M i H → (∀ a ∈ A, H' a = H a) → M i H') ∧ (∀ a ∈ A, G1 a = none ∧ H1 a ≠ none) ∧ (∀ i acc, Rel i acc → acc.length < 100000) ∧
      (∀ i d x G2 H2 acc, ds[i]? = some d → Same G1 G2 → Same G2 H2 → M i H2 → Rel i acc → Da X.K G2 x d → (∀ a ∈ A, G2 a = none ∧ H2 a ≠ none) → ∃ σ2, wipe σ2 (own.map (·.2)) = wipe σ (own.map (·.2)) ∧ (∀ Q, Q σ2 H2 → bG X scope tg x (wipe σ (own.map (·.2))) H2 Q) ∧
        ∃ b, (Bk X scope fun X' => PuTs X' ifs σ2 G2 b) ∧ (b = false → Rel (i + 1) acc ∧ M (i + 1) H2) ∧
          (b = true → ∀ G3 H3, Step [] G2 H2 G3 H3 → M i H3 → ∀ Q, (∀ y d' G4 H4, Step A G3 H3 G4 H4 → Da X.K G4 y d' → M (i + 1) H4 → Rel (i + 1) (acc ++ [d']) → Q y H4) → bE X scope elt σ2 H3 Q)) ∧
      ∀ l xs G' H' acc, Step A G1 H1 G' H' → G' l = none → H1 l = none → H' l = some (.lst xs) → Das X.K G' xs acc → Rel ds.length acc → M ds.length H' → Q (.ref l) H') : eLc X elt tg iter ifs scope (own.map (·.2)) σ H Q := by
  obtain ⟨w, hw0, hI⟩ := hI
  refine ⟨fun σ H R => ∃ R' : It → Hp → Prop, w σ H R' ∧ ∀ J H', R' J H' → R J H', ⟨fun pins s σ H R I0 ⟨R', h1, h2⟩ => ?_⟩, _, hI, ?_⟩
  · refine thn (hw0.run pins s σ H R' I0 h1) fun v s1 q => thn q fun it s2 ⟨a1, a2, a3, a4, a5, a6, a7, a8, a9, a10, a11⟩ => ?_
    exact ⟨a1, a2, a3, a4, a5, a6, a7, a8, a9, a10, h2 _ _ a11⟩
  rintro J H1 ⟨G1, ds, A, M, Rel, g1, hw, m0, r0, mst, hA, rlen, step, done⟩
  intro D hD
  have nA : ∀ a ∈ A, a ≠ D := fun a ha e => (hA a ha).2 (e ▸ hD)
  refine ⟨fun i m H => ∃ G2 xs acc, Step (D :: A) G1 H1 G2 H ∧ G2 D = none ∧ H D = some (.lst xs) ∧ Das X.K G2 xs acc ∧ Rel i acc ∧ M i H ∧ i ≤ ds.length ∧ m = ds.length - i,
    ⟨ds.length, G1, [], [], Step.allocM g1 hD, g1.free hD, upd_same, .nil, r0, mst 0 H1 _ m0 (fun a ha => upd_ne (nA a ha)), Nat.zero_le _, by omega⟩, ?_⟩
  rintro i m H2 ⟨G2, xs, acc, s2, gD, hHD, hda, hR, hM, hi, rfl⟩
  obtain ⟨w1, w2⟩ := hw i G2 H2 s2.g s2.s
  by_cases hlt : i < ds.length
  · right
    have hd : ds[i]? = some ds[i] := List.getElem?_eq_getElem hlt
    obtain ⟨go, yl⟩ := w1 _ hd
    refine ⟨go, fun H => ∃ G2 xs acc, Step (D :: A) G1 H1 G2 H ∧ G2 D = none ∧ H D = some (.lst xs) ∧ Das X.K G2 xs acc ∧ Rel (i + 1) acc ∧ M (i + 1) H, fun H' h => ?_, fun x H3 hy => ?_⟩
    · obtain ⟨G2, xs, acc, a1, a2, a3, a4, a5, a6⟩ := h
      exact ⟨ds.length - (i + 1), by omega, G2, xs, acc, a1, a2, a3, a4, a5, a6, by omega, rfl⟩
    · obtain ⟨G3, s3, hx⟩ := yl x H3 hy
      have hM3 : M i H3 := mst i H2 H3 hM fun a ha => by
        obtain ⟨o, ho⟩ : ∃ o, H2 a = some o := by
          cases q : H1 a with
          | none => exact ((hA a ha).2 q).elim
          | some u =>
            obtain ⟨o', e, _⟩ := s2.fr a u q
            exact ⟨o', e⟩
        rw [ho]
        exact s3.keep ho (by simp)
      have hA3 : ∀ a ∈ A, G3 a = none ∧ H3 a ≠ none := fun a ha => by
        cases q : H1 a with
        | none => exact ((hA a ha).2 q).elim
        | some u =>
          have s13 := s2.trans s3.pure
          obtain ⟨o', e, _⟩ := s13.fr a u q
          exact ⟨s13.out (hA a ha).1 q, by rw [e]; simp⟩
      obtain ⟨σ2, hw2, htg, b, hb, hbf, hbt⟩ := step i _ x G3 H3 acc hd (s2.g.trans s3.g) s3.s hM3 hR hx hA3
      refine htg _ ⟨hw2, ?_⟩
      have hHD3 := s3.keep hHD (by simp)
      have gD3 := s3.out gD hHD
      intro s0 H0 C cl fp
      refine hb s0 H0 C cl fp G3 H3 (Same.refl G3) s3.s _ fun G4 H4 s4 => ?_
      have hHD4 := s4.keep hHD3 (by simp)
      have gD4 := s4.out gD3 hHD3
      have hM4 : M i H4 := mst i H3 H4 hM3 fun a ha => by
        cases q : H3 a with
        | none => exact ((hA3 a ha).2 q).elim
        | some u => exact s4.keep q (by simp)
      cases b with
      | true =>
        rw [if_pos rfl]
        refine hbt rfl G4 H4 s4 hM4 _ fun y d' G5 H5 s5 hy5 hM5 hR5 => ?_
        have hDA : D ∉ A := fun h => (hA D h).2 hD
        have hHD5 := s5.keep hHD4 hDA
        have gD5 := s5.out gD4 hHD4
        have hda5 : Das X.K G5 xs acc := hda.mono (s3.g.trans (s4.g.trans s5.g))
        refine ⟨xs, hHD5, by rw [hda5.length]; exact Nat.lt_trans (rlen i acc hR) (by decide), G5, xs ++ [y], acc ++ [d'], ?_, gD5, upd_same, hda5.snoc hy5, hR5, ?_⟩
        · exact (s2.trans (s3.pure.trans (s4.pure.trans (s5.weak fun x h => List.mem_cons_of_mem _ h)))).trans (Step.mut s5.s gD5 hHD5 List.mem_cons_self)
        · exact mst _ H5 _ hM5 fun a ha => upd_ne (nA a ha)
      | false =>
        rw [if_neg Bool.false_ne_true]
        obtain ⟨hRf, hMf⟩ := hbf rfl
        refine ⟨G4, xs, acc, s2.trans (s3.pure.trans s4.pure), gD4, hHD4, hda.mono (s3.g.trans s4.g), hRf, mst _ H3 _ hMf fun a ha => ?_⟩
        cases q : H3 a with
        | none => exact ((hA3 a ha).2 q).elim
        | some u => exact s4.keep q (by simp)
  · left
    have : i = ds.length := by omega
    subst this
    refine ⟨w2 (Nat.le_refl _), ?_⟩
    exact done D xs G2 H2 acc (Step.drop hD s2) gD hD hHD hda hR hM
theorem lcI {elt iter : Expr} {ifs : List Expr} {scope : Scope} (own : List (Str × Nat)) {Q : VK}
    (hI : eI X tg iter σ H fun J H1 => ∃ (G1 : Hp) (ds : List Dt) (A : List Addr) (M : Nat → Hp → Prop) (Rel : Nat → List Dt → Prop), Same G1 H1 ∧ Walks X.K J G1 ds ∧ M 0 H1 ∧ Rel 0 [] ∧ (∀ i H H', M i H → (∀ a ∈ A, H' a = H a) → M i H') ∧ (∀ a ∈ A, G1 a = none ∧ H1 a ≠ none) ∧ (∀ i acc, Rel i acc → acc.length < 100000) ∧
      (∀ i d x G2 H2 acc, ds[i]? = some d → Same G1 G2 → Same G2 H2 → M i H2 → Rel i acc → Da X.K G2 x d → (∀ a ∈ A, G2 a = none ∧ H2 a ≠ none) → ∃ σ2, wipe σ2 (own.map (·.2)) = wipe σ (own.map (·.2)) ∧ (∀ Q, Q σ2 H2 → bG X scope tg x (wipe σ (own.map (·.2))) H2 Q) ∧
        ∃ b, (Bk X scope fun X' => PuTs X' ifs σ2 G2 b) ∧ (b = false → Rel (i + 1) acc ∧ M (i + 1) H2) ∧
          (b = true → ∀ G3 H3, Step [] G2 H2 G3 H3 → M i H3 → ∀ Q, (∀ y d' G4 H4, Step A G3 H3 G4 H4 → Da X.K G4 y d' → M (i + 1) H4 → Rel (i + 1) (acc ++ [d']) → Q y H4) → bE X scope elt σ2 H3 Q)) ∧
      ∀ v G' H' acc, Step A G1 H1 G' H' → Da X.K G' v (.list acc) → Rel ds.length acc → M ds.length H' → Q v H') : eLc X elt tg iter ifs scope (own.map (·.2)) σ H Q := by
  refine lcIM own ?_
  obtain ⟨w, hw0, hI⟩ := hI
  refine ⟨fun σ H R => ∃ R' : It → Hp → Prop, w σ H R' ∧ ∀ J H', R' J H' → R J H', ⟨fun pins s σ H R I0 ⟨R', h1, h2⟩ => ?_⟩, _, hI, ?_⟩
  · refine thn (hw0.run pins s σ H R' I0 h1) fun v s1 q => thn q fun it s2 ⟨a1, a2, a3, a4, a5, a6, a7, a8, a9, a10, a11⟩ => ?_
    exact ⟨a1, a2, a3, a4, a5, a6, a7, a8, a9, a10, h2 _ _ a11⟩
  rintro J H1 ⟨G1, ds, A, M, Rel, g1, hw, m0, r0, mst, hA, rlen, step, done⟩
  exact ⟨G1, ds, A, M, Rel, g1, hw, m0, r0, mst, hA, rlen, step, fun l xs G' H' acc st gl h1 hl hd hR hM => done _ (upd G' l (.lst xs)) H' acc (st.freeze h1 hl gl) (.lst upd_same (hd.mono (Same.toUpd gl))) hR hM⟩
theorem lcG {elt iter : Expr} {ifs : List Expr} {scope : Scope} (own : List (Str × Nat)) {Q : VK} (hs : Src X tg iter σ G ds) (g : Same G H) (A : List Addr)
    (k : ∀ G1 H1, Step [] G H G1 H1 → ∃ (M : Nat → Hp → Prop) (Rel : Nat → List Dt → Prop), M 0 H1 ∧ Rel 0 [] ∧ (∀ i H H', M i H → (∀ a ∈ A, H' a = H a) → M i H') ∧ (∀ a ∈ A, G1 a = none ∧ H1 a ≠ none) ∧ (∀ i acc, Rel i acc → acc.length < 100000) ∧
      (∀ i d x G2 H2 acc, ds[i]? = some d → Same G1 G2 → Same G2 H2 → M i H2 → Rel i acc → Da X.K G2 x d → (∀ a ∈ A, G2 a = none ∧ H2 a ≠ none) → ∃ σ2, wipe σ2 (own.map (·.2)) = wipe σ (own.map (·.2)) ∧ (∀ Q, Q σ2 H2 → bG X scope tg x (wipe σ (own.map (·.2))) H2 Q) ∧
        ∃ b, (Bk X scope fun X' => PuTs X' ifs σ2 G2 b) ∧ (b = false → Rel (i + 1) acc ∧ M (i + 1) H2) ∧
          (b = true → ∀ G3 H3, Step [] G2 H2 G3 H3 → M i H3 → ∀ Q, (∀ y d' G4 H4, Step A G3 H3 G4 H4 → Da X.K G4 y d' → M (i + 1) H4 → Rel (i + 1) (acc ++ [d']) → Q y H4) → bE X scope elt σ2 H3 Q)) ∧
      ∀ l xs G' H' acc, Step A G1 H1 G' H' → G' l = none → H1 l = none → H' l = some (.lst xs) → Das X.K G' xs acc → Rel ds.length acc → M ds.length H' → Q (.ref l) H') : eLc X elt tg iter ifs scope (own.map (·.2)) σ H Q :=
  lcIM own (hs G H (Same.refl G) g _ fun J G1 H1 s1 hw => by
    obtain ⟨M, Rel, m0, r0, mst, hA, rlen, step, done⟩ := k G1 H1 s1
    exact ⟨G1, ds, A, M, Rel, s1.s, hw, m0, r0, mst, hA, rlen, step, done⟩)
end
end Mb

set_option Elab.async false
set_option linter.all false
set_option maxRecDepth 100000
set_option maxHeartbeats 2000000
/-! Comprehensions over known data; more pure expressions; promises. -/
namespace Mb
open PySem PySem.Spec PyProof.Rows L2
section
variable {X : Cx} {σ : L2.St} {G G' H : Hp} {a b c e tg : Expr} {es : List Expr} {pos p p2 : Pos} {d d1 d2 : Dt} {ds : List Dt} {α : Type}
def PuLc (X : Cx) (elt tg iter : Expr) (ifs : List Expr) (scope : Scope) (vs : List Nat) (σ : L2.St) (G : Hp) (ds : List Dt) : Prop := ∀ G1 H, Same G G1 → Same G1 H → ∀ Q : VK, (∀ l xs G' H', Step [] G1 H G' H' → G' l = none → H l = none → H' l = some (.lst xs) → Das X.K G' xs ds → Q (.ref l) H') → eLc X elt tg iter ifs scope vs σ H Q
theorem pu_lc {elt iter : Expr} {ifs : List Expr} {scope : Scope} (own : List (Str × Nat)) (hN : X.N.Nodup) (h : PuLc X elt tg iter ifs scope (own.map (·.2)) σ G ds) (ok : BlkOk X.N X.env.scope scope own := by exact blkOk_by (by kernel_rfl))
    (hc : X.calm = true := by rfl) (hsi : ∀ x, foldedSetIterable iter X.env x = pure x := by intro _; rfl) : Pu X (.ListComp elt [⟨tg, iter, ifs, 0⟩] scope pos) σ G (.list ds) := fun G1 H g s Q k => w_lc own ok hN (h G1 H g s Q fun l xs G' H' st gl h1 hl hd => k _ (upd G' l (.lst xs)) H' (st.freeze h1 hl gl) (.lst upd_same (hd.mono (Same.toUpd gl)))) hc hsi
theorem lcA {elt iter : Expr} {ifs : List Expr} {scope : Scope} (own : List (Str × Nat)) {cd : α → Dt} {ns : List α} (hs : Src X tg iter σ G (ns.map cd)) (f : α → Dt) (q : α → Bool) (hl : ns.length < 100000)
    (body : ∀ n ∈ ns, ∀ x G2, Same G G2 → Da X.K G2 x (cd n) → ∃ σ2, wipe σ2 (own.map (·.2)) = wipe σ (own.map (·.2)) ∧ (∀ H, Same G2 H → ∀ Q, Q σ2 H → bG X scope tg x (wipe σ (own.map (·.2))) H Q) ∧
      (Bk X scope fun X' => PuTs X' ifs σ2 G2 (q n)) ∧ (q n = true → Bk X scope fun X' => Pu X' elt σ2 G2 (f n))) : PuLc X elt tg iter ifs scope (own.map (·.2)) σ G ((ns.filter q).map f) := fun G1 H g s Q k => by
  refine lcG own (fun G2 H2 g2 s2 R hR => hs G2 H2 (g.trans g2) s2 R hR) s [] (fun G2 H2 s2 => ⟨fun _ _ => True, fun i acc => acc = ((ns.take i).filter q).map f, trivial, rfl, fun _ _ _ _ _ => trivial, (by simp), fun i acc e => ?_, ?_, ?_⟩)
  · rw [e, List.length_map]
    refine Nat.lt_of_le_of_lt (List.length_filter_le _ _) (Nat.lt_of_le_of_lt ?_ hl)
    rw [List.length_take]
    omega
  · intro i d x G3 H3 acc hd g3 s3 _ e hx _
    rw [List.getElem?_map] at hd
    cases hn : ns[i]? with
    | none => rw [hn] at hd; cases hd
    | some n =>
      rw [hn] at hd
      obtain rfl := Option.some.inj hd
      have hlt := (List.getElem?_eq_some_iff.mp hn).1
      have hmem : n ∈ ns := List.mem_of_getElem? hn
      have hstep : ns.take (i + 1) = ns.take i ++ [n] := by
        rw [List.take_add_one, hn]
        rfl
      obtain ⟨σ2, h1, h2, h3, h4⟩ := body n hmem x G3 (g.trans (s2.g.trans g3)) hx
      refine ⟨σ2, h1, fun Q => h2 H3 s3 Q, q n, h3, fun hf => ⟨?_, trivial⟩, fun ht G4 H4 s4 _ Q k => ?_⟩
      · show acc = ((ns.take (i + 1)).filter q).map f
        rw [e, hstep, List.filter_append, List.filter_cons_of_neg (by rw [hf]; exact Bool.false_ne_true), List.filter_nil, List.append_nil]
      · intro s0 H0 C cl fp
        refine h4 ht s0 H0 C cl fp G4 H4 s4.g s4.s _ fun v G5 H5 s5 hd5 => ?_
        refine k v _ G5 H5 s5 hd5 trivial ?_
        show acc ++ [f n] = ((ns.take (i + 1)).filter q).map f
        rw [e, hstep, List.filter_append, List.filter_cons_of_pos ht, List.filter_nil, List.map_append]
        rfl
  · intro l xs G' H' acc s3 gl h1 hl hv e _
    rw [List.length_map, List.take_length] at e
    exact k l xs G' H' (s2.trans s3) gl (s2.free h1) hl (e ▸ hv)
theorem wipe_set1 {σ : L2.St} {k : Nat} {v : Option V} : wipe ((wipe σ [k]).set k v) [k] = wipe σ [k] := by
  show ((σ.set k none).set k v).set k none = σ.set k none
  rw [List.set_set, List.set_set]
theorem wipe_set1' {σ : L2.St} {k : Nat} {v : Option V} : (wipe σ [k]).set k v = σ.set k v := by
  show (σ.set k none).set k v = σ.set k v
  rw [List.set_set]
/-- one name -/
theorem lc1 {elt iter : Expr} {ifs : List Expr} {scope : Scope} (k : Nat) {x : Str} {px : Pos} {cd : α → Dt} {ns : List α} (hs : Src X (.Name x px) iter σ G (ns.map cd)) (f : α → Dt) (q : α → Bool) (hN : X.N.Nodup)
    (ht : ∀ n ∈ ns, ∀ v G2, Same G G2 → Da X.K G2 v (cd n) → Bk X scope fun X' => PuTs X' ifs (σ.set k (some v)) G2 (q n)) (hel : ∀ n ∈ ns, q n = true → ∀ v G2, Same G G2 → Da X.K G2 v (cd n) → Bk X scope fun X' => Pu X' elt (σ.set k (some v)) G2 (f n))
    (hl : ns.length < 100000) (hk : X.N[k]? = some x := by rfl) (hx : scope.names.lookup x = some .local := by rfl) : PuLc X elt (.Name x px) iter ifs scope [k] σ G ((ns.filter q).map f) := by
  refine lcA (own := [(x, k)]) hs f q hl (fun n hn v G2 g hv => ?_)
  refine ⟨(wipe σ [k]).set k (some v), wipe_set1, fun H _ Q h s0 H0 C cl fp => ?_, ?_, fun h => ?_⟩
  · exact g_name (X := X.blk s0 H0 scope (compEnvC scope cl C X.env) fp) k hN h hk (Or.inl (lookup_relabel_local (env := X.env) hx)) (Or.inr (lookup_relabel_local (env := X.env) hx))
  · rw [wipe_set1']
    exact ht n hn v G2 g hv
  · rw [wipe_set1']
    exact hel n hn h v G2 g hv
theorem pu_lc1 {elt iter : Expr} {ifs : List Expr} {scope : Scope} (k : Nat) {x : Str} {px : Pos} {cd : α → Dt} {ns : List α} (hs : Src X (.Name x px) iter σ G (ns.map cd)) (f : α → Dt) (q : α → Bool) (hN : X.N.Nodup)
    (ht : ∀ n ∈ ns, ∀ v G2, Same G G2 → Da X.K G2 v (cd n) → Bk X scope fun X' => PuTs X' ifs (σ.set k (some v)) G2 (q n)) (hel : ∀ n ∈ ns, q n = true → ∀ v G2, Same G G2 → Da X.K G2 v (cd n) → Bk X scope fun X' => Pu X' elt (σ.set k (some v)) G2 (f n))
    (hl : ns.length < 100000) (ok : BlkOk X.N X.env.scope scope [(x, k)] := by exact blkOk_by (by kernel_rfl)) (hk : X.N[k]? = some x := by rfl) (hx : scope.names.lookup x = some .local := by rfl)
    (hc : X.calm = true := by rfl) (hsi : ∀ x, foldedSetIterable iter X.env x = pure x := by intro _; rfl) : Pu X (.ListComp elt [⟨.Name x px, iter, ifs, 0⟩] scope pos) σ G (.list ((ns.filter q).map f)) :=
  pu_lc [(x, k)] hN (lc1 k hs f q hN ht hel hl hk hx) ok hc hsi
theorem s_setPo (i : Nat) (own : List (Str × Nat)) {elt iter : Expr} {ifs : List Expr} {scope : Scope} {D : Ends} {y : Str} {py spos : Pos} (h : PuLc X elt tg iter ifs scope (own.map (·.2)) σ G ds) (g : Same G H) (hN : X.N.Nodup) (q : ∀ v G' H', Step [] G H G' H' → Da X.K G' v (.list ds) → D.nx (σ.set i (some v)) H')
    (ok : BlkOk X.N X.env.scope scope own := by exact blkOk_by (by kernel_rfl)) (hc : X.calm = true := by rfl) (hy : X.N[i]? = some y := by rfl) (hyl : X.env.scope.names.lookup y = some .local := by rfl)
    (hsw : swapsWith (.ListComp elt [⟨tg, iter, ifs, 0⟩] scope pos) (some (.Name y py)) spos.line X.env = pure true := by exact sw_true rfl rfl rfl (by decide +kernel))
    (hsi : ∀ x, foldedSetIterable iter X.env x = pure x := by intro _; rfl) : eS X (.Assign [.Name y py] (.ListComp elt [⟨tg, iter, ifs, 0⟩] scope pos) spos) D σ H :=
  s_setLc i own ok hN (h G H (Same.refl G) g _ fun l xs G' H' st gl h1 hl hd => q _ (upd G' l (.lst xs)) H' (st.freeze h1 hl gl) (.lst upd_same (hd.mono (Same.toUpd gl)))) hc hy hyl hsw hsi
/-- name = a pure comprehension; its list may change later -/
theorem s_setPM (i k : Nat) {elt iter : Expr} {ifs : List Expr} {scope : Scope} {D : Ends} {x y : Str} {px py spos : Pos} (h : PuLc X elt (.Name x px) iter ifs scope [k] σ G ds) (g : Same G H) (hN : X.N.Nodup)
    (q : ∀ l xs G' H', Step [] G H G' H' → G' l = none → H l = none → H' l = some (.lst xs) → Das X.K G' xs ds → D.nx (σ.set i (some (.ref l))) H')
    (ok : BlkOk X.N X.env.scope scope [(x, k)] := by exact blkOk_by (by kernel_rfl)) (hc : X.calm = true := by rfl) (hy : X.N[i]? = some y := by rfl) (hyl : X.env.scope.names.lookup y = some .local := by rfl)
    (hsw : swapsWith (.ListComp elt [⟨.Name x px, iter, ifs, 0⟩] scope pos) (some (.Name y py)) spos.line X.env = pure true := by exact sw_true rfl rfl rfl (by decide +kernel))
    (hsi : ∀ x, foldedSetIterable iter X.env x = pure x := by intro _; rfl) : eS X (.Assign [.Name y py] (.ListComp elt [⟨.Name x px, iter, ifs, 0⟩] scope pos) spos) D σ H :=
  s_setLc i [(x, k)] ok hN (h G H (Same.refl G) g _ q) hc hy hyl hsw hsi
/-- name = a pure comprehension -/
theorem s_setP (i k : Nat) {elt iter : Expr} {ifs : List Expr} {scope : Scope} {D : Ends} {x y : Str} {px py spos : Pos} (h : PuLc X elt (.Name x px) iter ifs scope [k] σ G ds) (g : Same G H) (hN : X.N.Nodup) (q : ∀ v G' H', Step [] G H G' H' → Da X.K G' v (.list ds) → D.nx (σ.set i (some v)) H')
    (ok : BlkOk X.N X.env.scope scope [(x, k)] := by exact blkOk_by (by kernel_rfl)) (hc : X.calm = true := by rfl) (hy : X.N[i]? = some y := by rfl) (hyl : X.env.scope.names.lookup y = some .local := by rfl)
    (hsw : swapsWith (.ListComp elt [⟨.Name x px, iter, ifs, 0⟩] scope pos) (some (.Name y py)) spos.line X.env = pure true := by exact sw_true rfl rfl rfl (by decide +kernel))
    (hsi : ∀ x, foldedSetIterable iter X.env x = pure x := by intro _; rfl) : eS X (.Assign [.Name y py] (.ListComp elt [⟨.Name x px, iter, ifs, 0⟩] scope pos) spos) D σ H :=
  s_setPM i k h g hN (fun l xs G' H' st gl h1 hl hd => q _ (upd G' l (.lst xs)) H' (st.freeze h1 hl gl) (.lst upd_same (hd.mono (Same.toUpd gl)))) ok hc hy hyl hsw hsi
/-- two names, of pairs -/
theorem wipe_set2 {σ : L2.St} {k1 k2 : Nat} (h : k1 ≠ k2) {v w : Option V} : wipe (((wipe σ [k1, k2]).set k1 v).set k2 w) [k1, k2] = wipe σ [k1, k2] := by
  show (((((σ.set k2 none).set k1 none).set k1 v).set k2 w).set k2 none).set k1 none = (σ.set k2 none).set k1 none
  rw [List.set_set, List.set_set, List.set_comm _ _ h, List.set_set, List.set_set]
theorem lc2 {elt iter : Expr} {ifs : List Expr} {scope : Scope} (k1 k2 : Nat) {x y : Str} {px py tp : Pos} {kk : Nat} {c1 c2 : α → Dt} {ns : List α} (hs : Src X (.Tuple [.Name x px, .Name y py] kk tp) iter σ G (ns.map fun n => .tuple [c1 n, c2 n])) (f : α → Dt) (q : α → Bool) (hN : X.N.Nodup)
    (ht : ∀ n ∈ ns, ∀ v w G2, Same G G2 → Da X.K G2 v (c1 n) → Da X.K G2 w (c2 n) → Bk X scope fun X' => PuTs X' ifs (((wipe σ [k1, k2]).set k1 (some v)).set k2 (some w)) G2 (q n))
    (hel : ∀ n ∈ ns, q n = true → ∀ v w G2, Same G G2 → Da X.K G2 v (c1 n) → Da X.K G2 w (c2 n) → Bk X scope fun X' => Pu X' elt (((wipe σ [k1, k2]).set k1 (some v)).set k2 (some w)) G2 (f n))
    (hl : ns.length < 100000) (hk : X.N[k1]? = some x := by rfl) (hk2 : X.N[k2]? = some y := by rfl) (hx : scope.names.lookup x = some .local := by rfl) (hy : scope.names.lookup y = some .local := by rfl) (hne : k1 ≠ k2 := by decide) (hc : X.calm = true := by rfl) :
    PuLc X elt (.Tuple [.Name x px, .Name y py] kk tp) iter ifs scope [k1, k2] σ G ((ns.filter q).map f) := by
  refine lcA (own := [(x, k1), (y, k2)]) hs f q hl (fun n hn v G2 g hv => ?_)
  obtain ⟨t, vs, rfl, h1, h2⟩ := hv.tup_inv
  cases h2 with
  | cons d1 h3 =>
    cases h3 with
    | cons d2 h4 =>
      cases h4
      rename_i v w
      refine ⟨((wipe σ [k1, k2]).set k1 (some v)).set k2 (some w), wipe_set2 hne, fun H sg Q h s0 H0 C cl fp => ?_, ht n hn v w G2 g d1 d2, fun h => hel n hn h v w G2 g d1 d2⟩
      have l1 := lookup_relabel_local (env := X.env) hx
      have l2 := lookup_relabel_local (env := X.env) hy
      exact g_tup (X := X.blk s0 H0 scope (compEnvC scope cl C X.env) fp) (SqT.same sg h1) rfl (gs_cons (g_name (X := X.blk s0 H0 scope (compEnvC scope cl C X.env) fp) k1 hN (gs_cons (g_name (X := X.blk s0 H0 scope (compEnvC scope cl C X.env) fp) k2 hN (gs_nil h) hk2 (Or.inl l2) (Or.inr l2))) hk (Or.inl l1) (Or.inr l1))) hc rfl
/-! promises -/
def spPure (K : PySem.W.Frag) (m : Nat) (R : List Dt → Dt → Prop) : Sp := fun vs H Q _ => ∃ G ds d, ds.length = m ∧ Same G H ∧ Das K G vs ds ∧ R ds d ∧ ∀ v G' H', Step [] G H G' H' → Da K G' v d → Q v H'
theorem spPure_len {K : PySem.W.Frag} {m : Nat} {R : List Dt → Dt → Prop} : ∀ vs H Q E, spPure K m R vs H Q E → vs.length = m := fun vs H Q E ⟨G, ds, d, h1, h2, h3, _⟩ => by rw [h3.length, h1]
theorem pu_call {x : Str} {k j n m : Nat} {R : List Dt → Dt → Prop} (F : Has X.prog X.w X.K X.mg X.base x k n (spPure X.K m R)) (hr : Room j X.A) (hk : k ≤ j) (ha : PuA X (e :: es) σ G ds) (hR : R ds d) (hm : ds.length = m) (hg : Gl X x := by rfl)
    (hdb : (x == ("__debug__" : Str)) = false := by decide) (he : starEach (e :: es) X.env = (false, eval e X.env) :: starEach es X.env := by rfl) (hpl : (backTo pos (starEach es X.env)).any (·.1) = false := by rfl) :
    Pu X (.Call (.Name x p) (e :: es) [] pos) σ G d := fun G1 H g s Q q =>
  w_call F hr hk (ha G1 H g s _ fun vs G2 H2 s2 hd => ⟨G2, ds, d, hm, s2.s, hd, hR, fun v G3 H3 s3 hv => q v G3 H3 (s2.trans s3) hv⟩) hg hdb he hpl
/-- using a pure expression where heaps are told -/
theorem w_pu {Q : VK} (h : Pu X e σ G d) (g : Same G H) (q : ∀ v G' H', Step [] G H G' H' → Da X.K G' v d → Q v H') : eE X e σ H Q := h G H (Same.refl G) g Q q
theorem t_pu {Q : Bool → Hp → Prop} {k : Bool} (h : PuT X e σ G k) (g : Same G H) (q : ∀ G' H', Step [] G H G' H' → Q k H') : eT X e σ H Q := h G H (Same.refl G) g Q q
/-! in -/
theorem inV_ints {n : Int} {ns : List Int} : inV (.int n) (ns.map V.int) = decide (n ∈ ns) := by
  induction ns with
  | nil => rfl
  | cons m ns ih =>
    unfold inV at ih ⊢
    rw [List.map_cons, List.any_cons, ih]
    by_cases h : m = n
    · subst h
      simp [eqV]
    · have h' : ¬ n = m := fun e => h e.symm
      simp [eqV, h, h']
theorem inV_strs {n : Str} {ns : List Str} : inV (.str n) (ns.map V.str) = decide (n ∈ ns) := by
  induction ns with
  | nil => rfl
  | cons m ns ih =>
    unfold inV at ih ⊢
    rw [List.map_cons, List.any_cons, ih]
    by_cases h : m = n
    · subst h
      simp [eqV]
    · have h' : ¬ n = m := fun e => h e.symm
      simp [eqV, h, h']
theorem flat_ints {ns : List Int} : (ns.map V.int).all flatV = true := by
  rw [List.all_map, List.all_eq_true]
  intro x _
  rfl
theorem flat_strs' {ns : List Str} : (ns.map V.str).all flatV = true := by
  rw [List.all_map, List.all_eq_true]
  intro x _
  rfl
theorem rv_in {neg : Bool} {v0 : V} {vs0 : List V} {k : Bool} (h1 : ∀ G1 v', Same G G1 → Da X.K G1 v' d1 → v' = v0) (h2 : ∀ G1 v', Same G G1 → Da X.K G1 v' d2 → ∃ l vs, v' = .ref l ∧ (SqL X.K G1 l vs ∨ SqT X.K G1 l vs) ∧ vs = vs0)
    (hf : flatV v0 = true) (hfs : vs0.all flatV = true) (hk : inV v0 vs0 = k) : RV X (rIn X.K neg) G d1 d2 (.bool (if neg then !k else k)) := fun G1 H v w g s hv hw Q q => by
  obtain rfl := h1 G1 v g hv
  obtain ⟨l, vs, rfl, hl, rfl⟩ := h2 G1 w g hw
  refine ⟨l, vs, rfl, ?_, hf, hfs, ?_⟩
  · rcases hl with h | h
    · exact .inl (SqL.same s h)
    · exact .inr (SqT.same s h)
  · rw [hk]
    exact q _ G1 H (Step.refl s) (.bl _)
theorem c_inI {n : Int} {ns : List Int} (ha : Pu X a σ G (.int n)) (hb : Pu X b σ G (.list (ofI ns))) (hm : behindInMarks .In b = false := by rfl) : PuC X .In a b σ G (decide (n ∈ ns)) :=
  ⟨_, _, _, op_in_seq, ha, hb, (rv_in (neg := false) (fun _ _ _ h => h.int_inv) (fun G1 v _ h => by
    obtain ⟨l, vs, rfl, h1, h2⟩ := h.lst_inv
    exact ⟨l, vs, rfl, .inl (SqL.of h1), h2.ints⟩) rfl flat_ints inV_ints), hm⟩
theorem c_inIT {n : Int} {ns : List Int} (ha : Pu X a σ G (.int n)) (hb : Pu X b σ G (.tuple (ofI ns))) (hm : behindInMarks .In b = false := by rfl) : PuC X .In a b σ G (decide (n ∈ ns)) :=
  ⟨_, _, _, op_in_seq, ha, hb, (rv_in (neg := false) (fun _ _ _ h => h.int_inv) (fun G1 v _ h => by
    obtain ⟨l, vs, rfl, h1, h2⟩ := h.tup_inv
    exact ⟨l, vs, rfl, .inr h1, h2.ints⟩) rfl flat_ints inV_ints), hm⟩
theorem c_ninI {n : Int} {ns : List Int} (ha : Pu X a σ G (.int n)) (hb : Pu X b σ G (.list (ofI ns))) (hm : behindInMarks .NotIn b = false := by rfl) : PuC X .NotIn a b σ G (!decide (n ∈ ns)) :=
  ⟨_, _, _, op_notIn_seq, ha, hb, (rv_in (neg := true) (fun _ _ _ h => h.int_inv) (fun G1 v _ h => by
    obtain ⟨l, vs, rfl, h1, h2⟩ := h.lst_inv
    exact ⟨l, vs, rfl, .inl (SqL.of h1), h2.ints⟩) rfl flat_ints inV_ints), hm⟩
theorem c_ninIT {n : Int} {ns : List Int} (ha : Pu X a σ G (.int n)) (hb : Pu X b σ G (.tuple (ofI ns))) (hm : behindInMarks .NotIn b = false := by rfl) : PuC X .NotIn a b σ G (!decide (n ∈ ns)) :=
  ⟨_, _, _, op_notIn_seq, ha, hb, (rv_in (neg := true) (fun _ _ _ h => h.int_inv) (fun G1 v _ h => by
    obtain ⟨l, vs, rfl, h1, h2⟩ := h.tup_inv
    exact ⟨l, vs, rfl, .inr h1, h2.ints⟩) rfl flat_ints inV_ints), hm⟩
theorem c_inS {n : Str} {ns : List Str} (ha : Pu X a σ G (.str n)) (hb : Pu X b σ G (.list (ofS ns))) (hm : behindInMarks .In b = false := by rfl) : PuC X .In a b σ G (decide (n ∈ ns)) :=
  ⟨_, _, _, op_in_seq, ha, hb, (rv_in (neg := false) (fun _ _ _ h => h.str_inv) (fun G1 v _ h => by
    obtain ⟨l, vs, rfl, h1, h2⟩ := h.lst_inv
    exact ⟨l, vs, rfl, .inl (SqL.of h1), h2.strs⟩) rfl flat_strs' inV_strs), hm⟩
theorem c_inST {n : Str} {ns : List Str} (ha : Pu X a σ G (.str n)) (hb : Pu X b σ G (.tuple (ofS ns))) (hm : behindInMarks .In b = false := by rfl) : PuC X .In a b σ G (decide (n ∈ ns)) :=
  ⟨_, _, _, op_in_seq, ha, hb, (rv_in (neg := false) (fun _ _ _ h => h.str_inv) (fun G1 v _ h => by
    obtain ⟨l, vs, rfl, h1, h2⟩ := h.tup_inv
    exact ⟨l, vs, rfl, .inr h1, h2.strs⟩) rfl flat_strs' inV_strs), hm⟩
theorem c_ninS {n : Str} {ns : List Str} (ha : Pu X a σ G (.str n)) (hb : Pu X b σ G (.list (ofS ns))) (hm : behindInMarks .NotIn b = false := by rfl) : PuC X .NotIn a b σ G (!decide (n ∈ ns)) :=
  ⟨_, _, _, op_notIn_seq, ha, hb, (rv_in (neg := true) (fun _ _ _ h => h.str_inv) (fun G1 v _ h => by
    obtain ⟨l, vs, rfl, h1, h2⟩ := h.lst_inv
    exact ⟨l, vs, rfl, .inl (SqL.of h1), h2.strs⟩) rfl flat_strs' inV_strs), hm⟩
theorem c_ninST {n : Str} {ns : List Str} (ha : Pu X a σ G (.str n)) (hb : Pu X b σ G (.tuple (ofS ns))) (hm : behindInMarks .NotIn b = false := by rfl) : PuC X .NotIn a b σ G (!decide (n ∈ ns)) :=
  ⟨_, _, _, op_notIn_seq, ha, hb, (rv_in (neg := true) (fun _ _ _ h => h.str_inv) (fun G1 v _ h => by
    obtain ⟨l, vs, rfl, h1, h2⟩ := h.tup_inv
    exact ⟨l, vs, rfl, .inr h1, h2.strs⟩) rfl flat_strs' inV_strs), hm⟩
/-! slices -/
def PuO (X : Cx) (e : Option Expr) (σ : L2.St) (G : Hp) (o : Option Int) : Prop := ∀ G1 H, Same G G1 → Same G1 H → ∀ Q : Option Int → Hp → Prop, (∀ G' H', Step [] G1 H G' H' → Q o H') → eO X e σ H Q
theorem puo_none : PuO X none σ G none := fun G1 H g s Q q => o_none (q G1 H (Step.refl s))
theorem puo_some {i : Int} (h : Pu X e σ G (.int i)) : PuO X (some e) σ G (some i) := fun G1 H g s Q q => o_some (h G1 H g s _ fun v G2 H2 s2 hd => ⟨i, hd.int_inv, q G2 H2 s2⟩)
def cutD (xs : List Dt) (lo hi : Option Int) : List Dt := (xs.drop (HT.sIx xs.length 0 lo)).take (HT.sIx xs.length xs.length hi - HT.sIx xs.length 0 lo)
theorem Das.cut {K : PySem.W.Frag} {vs : List V} {xs : List Dt} {lo hi : Option Int} (h : Das K G vs xs) : Das K G (cutV vs lo hi) (cutD xs lo hi) := by
  unfold cutV cutD
  rw [h.length]
  exact (h.drop _).take _
theorem pu_slL {lo hi : Option Expr} {l u : Option Int} (ha : Pu X e σ G (.list ds)) (hl : PuO X lo σ G l) (hh : PuO X hi σ G u) : Pu X (.Subscript e (.Slice lo hi none p2) pos) σ G (.list (cutD ds l u)) := fun G1 H g s Q q => by
  refine w_slice sl_list (ha G1 H g s _ fun v G2 H2 s2 hd2 => hl G2 H2 (g.trans s2.g) s2.s _ fun G3 H3 s3 => hh G3 H3 (g.trans (s2.g.trans s3.g)) s3.s _ fun G4 H4 s4 => ?_)
  obtain ⟨m, vs, rfl, h1, h2⟩ := hd2.lst_inv
  have h5 := s4.s _ _ ((s3.g.trans s4.g) _ _ h1)
  refine ⟨m, vs, rfl, SqL.of h5, fun p hp => ?_⟩
  exact q _ _ _ ((s2.trans (s3.trans s4)).trans (Step.alloc s4.s hp)) (.lst upd_same ((h2.mono (s3.g.trans s4.g)).cut.mono (Same.toUpd (s4.s.free hp))))
theorem pu_slS {lo hi : Option Expr} {l u : Option Int} {x : Str} (ha : Pu X e σ G (.str x)) (hl : PuO X lo σ G l) (hh : PuO X hi σ G u) (hz : x.length ≤ sizeLine) : Pu X (.Subscript e (.Slice lo hi none p2) pos) σ G (.str (cutS x l u)) := fun G1 H g s Q q => by
  refine w_slice sl_str (ha G1 H g s _ fun v G2 H2 s2 hd2 => hl G2 H2 (g.trans s2.g) s2.s _ fun G3 H3 s3 => hh G3 H3 (g.trans (s2.g.trans s3.g)) s3.s _ fun G4 H4 s4 => ?_)
  obtain rfl := hd2.str_inv
  exact ⟨x, rfl, hz, q _ _ _ (s2.trans (s3.trans s4)) (.str _)⟩
/-! texts -/
theorem pu_join {apos : Pos} {s1 : Str} {ys : List Str} (ha : Pu X a σ G (.str s1)) (hb : Pu X b σ G (.list (ofS ys))) (hz : (ys.map (·.length)).sum + ys.length * s1.length ≤ 16777216)
    (hs : starEach [b] X.env = [(false, eval b X.env)] := by rfl) (hbase : attributeBase a "join" X.env (eval a X.env) = eval a X.env := by rfl) (hline : (apos.endLine == pos.line) = true := by rfl) :
    Pu X (.Call (.Attribute a "join" apos) [b] [] pos) σ G (.str (Txt.join s1 ys)) := fun G1 H g s Q q => by
  refine w_m1 F.slot_str_join F.type_str_join mt_join (ha G1 H g s _ fun v G2 H2 s2 hd2 => ⟨⟨s1, hd2.str_inv⟩, hb G2 H2 (g.trans s2.g) s2.s _ fun w G3 H3 s3 hd3 => ?_⟩) hs hbase hline
  obtain ⟨l, vs, rfl, h1, h2⟩ := hd3.lst_inv
  refine ⟨s1, l, ys, hd2.str_inv, rfl, .inl ?_, hz, q _ _ _ (s2.trans s3) (.str _)⟩
  rw [← h2.strs]
  exact SqL.of (s3.s _ _ h1)
theorem pu_split {apos : Pos} {s1 x : Str} (ha : Pu X a σ G (.str x)) (hb : Pu X b σ G (.str s1)) (h0 : (s1.length == 0) = false) (hz : x.length + 2 ≤ sizeLine)
    (hs : starEach [b] X.env = [(false, eval b X.env)] := by rfl) (hbase : attributeBase a "split" X.env (eval a X.env) = eval a X.env := by rfl) (hline : (apos.endLine == pos.line) = true := by rfl) :
    Pu X (.Call (.Attribute a "split" apos) [b] [] pos) σ G (.list (ofS (Txt.split x s1))) := fun G1 H g s Q q => by
  refine w_m1 F.slot_str_split F.type_str_split mt_split (ha G1 H g s _ fun v G2 H2 s2 hd2 => ⟨⟨x, hd2.str_inv⟩, hb G2 H2 (g.trans s2.g) s2.s _ fun w G3 H3 s3 hd3 => ?_⟩) hs hbase hline
  obtain rfl := hd2.str_inv
  obtain rfl := hd3.str_inv
  exact ⟨x, s1, rfl, rfl, h0, hz, fun p hp => q _ _ _ ((s2.trans s3).trans (Step.alloc s3.s hp)) (.lst upd_same (Das.ofStrs _))⟩
/-! all, any -/
theorem Das.bools {K : PySem.W.Frag} {vs : List V} {bs : List Bool} (h : Das K G vs (bs.map PyData.bool)) : vs = bs.map V.bl := by
  induction vs generalizing bs with
  | nil =>
    cases bs with
    | nil => rfl
    | cons n ns => cases h
  | cons v vs ih =>
    cases bs with
    | nil => cases h
    | cons n ns =>
      cases h with
      | cons h1 h2 =>
        cases h1
        rw [ih h2]
        rfl
theorem pu_all {bs : List Bool} (ha : Pu X a σ G (.list (bs.map PyData.bool))) (hm : X.mg "all" = none) (hc : X.calm = true := by rfl) (hg : Gl X "all" := by rfl) (he : starEach [a] X.env = [(false, eval a X.env)] := by rfl) : Pu X (.Call (.Name "all" p) [a] [] pos) σ G (.bool (bs.all id)) :=
  pu_one (cr_all hc) ha (fun G1 H v g s hv Q q => by
    obtain ⟨l, vs, rfl, h1, h2⟩ := hv.lst_inv
    exact ⟨l, bs, rfl, by rw [← h2.bools]; exact SqL.of (s _ _ h1), q _ _ _ (Step.refl s) (.bl _)⟩) hm (by decide +kernel) hg (by decide) (by decide) he
theorem pu_any {bs : List Bool} (ha : Pu X a σ G (.list (bs.map PyData.bool))) (hm : X.mg "any" = none) (hc : X.calm = true := by rfl) (hg : Gl X "any" := by rfl) (he : starEach [a] X.env = [(false, eval a X.env)] := by rfl) : Pu X (.Call (.Name "any" p) [a] [] pos) σ G (.bool (bs.any id)) :=
  pu_one (cr_any hc) ha (fun G1 H v g s hv Q q => by
    obtain ⟨l, vs, rfl, h1, h2⟩ := hv.lst_inv
    exact ⟨l, bs, rfl, by rw [← h2.bools]; exact SqL.of (s _ _ h1), q _ _ _ (Step.refl s) (.bl _)⟩) hm (by decide +kernel) hg (by decide) (by decide) he
end
end Mb

set_option Elab.async false
namespace Mb
open PySem L2
def tp (i : Nat) : Stmt := PySem.Challenge.pw_meetbooks_k09_levels_by_an_own_going.main.body.getD i (.Pass ⟨0, 0, 0, 0⟩)
abbrev sPot : Stmt := tp 40
abbrev sTake : Stmt := tp 41
abbrev sOf : Stmt := tp 42
abbrev sSome : Stmt := tp 43
abbrev sCells : Stmt := tp 44
abbrev sName : Stmt := tp 45
abbrev sNames : Stmt := tp 46
abbrev sShape : Stmt := tp 47
abbrev sStill : Stmt := tp 48
abbrev sOthers : Stmt := tp 49
abbrev sMoves : Stmt := tp 50
abbrev sMoving : Stmt := tp 51
abbrev sLawHall : Stmt := tp 52
abbrev sKindLine : Stmt := tp 53
abbrev sHallText : Stmt := tp 54
abbrev sFirst : Stmt := tp 55
abbrev sIsName : Stmt := tp 9
abbrev sIsAsc : Stmt := tp 10
abbrev sCalled : Stmt := tp 19
abbrev sStanding : Stmt := tp 20
abbrev sTakesLine : Stmt := tp 22
abbrev sTakesHands : Stmt := tp 23
abbrev sTakesTaken : Stmt := tp 24
abbrev sTakesRight : Stmt := tp 25
abbrev sTakesMeet : Stmt := tp 26
abbrev sComersTold : Stmt := tp 27
abbrev sTogether : Stmt := tp 28
abbrev sLotTold : Stmt := tp 29
abbrev cDraft : Stmt := tp 21
abbrev cHall : Stmt := tp 30
abbrev t_MeetError : Stmt := tp 1
abbrev t_BadHall : Stmt := tp 2
abbrev t_BadWeaving : Stmt := tp 3
abbrev t_is_integer : Stmt := tp 7
abbrev t_is_below : Stmt := tp 8
abbrev t_is_meeting : Stmt := tp 11
abbrev t_told_refusal : Stmt := tp 32
abbrev t_hand_out_of_reach : Stmt := tp 33
abbrev t_holders_behind : Stmt := tp 34
abbrev t_walked : Stmt := tp 35
abbrev t_holders_of : Stmt := tp 36
abbrev t_story_levels : Stmt := tp 38
abbrev t_law_refused : Stmt := tp 56
abbrev t_law_behind : Stmt := tp 57
abbrev t_law_next : Stmt := tp 58
abbrev t_law_lot : Stmt := tp 59
abbrev t_law_are_apart : Stmt := tp 60
abbrev t_law_load : Stmt := tp 61
abbrev t_law_picked : Stmt := tp 62
abbrev t_law_weaving : Stmt := tp 63
abbrev t_law_woven_anew : Stmt := tp 64
abbrev t_law_hand_rows : Stmt := tp 65
abbrev t_law_levels : Stmt := tp 66
abbrev t_law_right : Stmt := tp 67
abbrev t_law : Stmt := tp 68
end Mb

set_option Elab.async false
set_option linter.all false
set_option maxRecDepth 100000
set_option maxHeartbeats 2000000
/-! Draws. -/
namespace Mb
open PySem PySem.Spec PyProof.Rows L2
structure Blt (mg : Str → Option Value) : Prop where
  len : mg "len" = none
  range : mg "range" = none
  list : mg "list" = none
  tuple : mg "tuple" = none
  int : mg "int" = none
  abs : mg "abs" = none
  min : mg "min" = none
  max : mg "max" = none
  sum : mg "sum" = none
  sorted : mg "sorted" = none
  dict : mg "dict" = none
  zip : mg "zip" = none
  all : mg "all" = none
  any : mg "any" = none
  set : mg "set" = none
  enumerate : mg "enumerate" = none
  isinstance : mg "isinstance" = none
  str : mg "str" = none
  repr : mg "repr" = none
/-- the pot: three numbers, the last one counts -/
def PotAt (H : Hp) (a : Addr) (c : Nat) : Prop := ∃ p0 p1 p2 : Int, H a = some (.lst [.int p0, .int p1, .int p2]) ∧ 0 ≤ p0 ∧ p0 < 2 ^ 1000 ∧ 0 ≤ p1 ∧ p1 < 2 ^ 61 ∧ 0 ≤ p2 ∧ p2 ≤ c
theorem PotAt.some {H : Hp} {a : Addr} {c : Nat} (h : PotAt H a c) : ∃ o, H a = some o := let ⟨_, _, _, e, _⟩ := h; ⟨_, e⟩
theorem PotAt.ne {H : Hp} {a : Addr} {c : Nat} (h : PotAt H a c) : H a ≠ none := by
  obtain ⟨o, e⟩ := h.some
  rw [e]
  simp
theorem PotAt.of {H H' : Hp} {a : Addr} {c : Nat} (h : PotAt H a c) (e : H' a = H a) : PotAt H' a c := by
  obtain ⟨p0, p1, p2, h1, h2⟩ := h
  exact ⟨p0, p1, p2, by rw [e]; exact h1, h2⟩
theorem PotAt.up {H : Hp} {a : Addr} {c c' : Nat} (h : PotAt H a c) (e : c ≤ c') : PotAt H a c' := by
  obtain ⟨p0, p1, p2, h1, h2, h3, h4, h5, h6, h7⟩ := h
  exact ⟨p0, p1, p2, h1, h2, h3, h4, h5, h6, by omega⟩
theorem PotAt.step {A : List Addr} {G H G' H' : Hp} {a : Addr} {c : Nat} (h : PotAt H a c) (s : Step A G H G' H') (hn : a ∉ A) : PotAt H' a c := by
  obtain ⟨o, e⟩ := h.some
  exact h.of (by rw [s.keep e hn, e])
/-- a draw: what it takes besides the pot, how often it draws at most, what it hands back -/
def spDraw (K : PySem.W.Frag) (n m : Nat) (Pre : List Dt → Prop) (Post : List Dt → Dt → Prop) : Sp := fun vs H Q _ => ∃ a ws G ds c, vs = .ref a :: ws ∧ ds.length = m ∧ Same G H ∧ G a = none ∧ PotAt H a c ∧ c + n ≤ 1000000 ∧ Das K G ws ds ∧ Pre ds ∧
  ∀ d v G' H', Post ds d → Step [a] G H G' H' → PotAt H' a (c + n) → Da K G' v d → Q v H'
theorem spDraw_len {K : PySem.W.Frag} {n m : Nat} {Pre : List Dt → Prop} {Post : List Dt → Dt → Prop} : ∀ vs H Q E, spDraw K n m Pre Post vs H Q E → vs.length = m + 1 := fun vs H Q E ⟨a, ws, G, ds, c, h1, h2, h3, h4, h5, h6, h7, _⟩ => by rw [h1, List.length_cons, h7.length, h2]
section
variable {X : Cx} {σ : L2.St} {G G1 H : Hp} {a b c e : Expr} {es : List Expr} {pos p p2 : Pos} {d d1 d2 : Dt} {ds : List Dt} {Q : VK}
theorem Step.same {A : List Addr} {H' : Hp} (g : Same G H) (h : Same H H') : Step A G H G H' := ⟨Same.refl G, g.trans h, fun b o e => ⟨o, h b o e, fun _ => rfl⟩, fun _ _ e => .inl e⟩
theorem Step.sameH {G' H' : Hp} (s : Step [] G H G' H') : Same H H' := fun b o e => s.keep e (by simp)
theorem w_puI {i : Int} (h : Pu X e σ G1 (.int i)) (g1 : Same G1 H) (q : ∀ H', Same H H' → Q (.int i) H') : eE X e σ H Q := w_pu h g1 fun v G' H' s hd => by
  rw [hd.int_inv]
  exact q H' s.sameH
theorem t_puK {k : Bool} {Q : Bool → Hp → Prop} (h : PuT X e σ G1 k) (g1 : Same G1 H) (q : ∀ H', Same H H' → Q k H') : eT X e σ H Q := t_pu h g1 fun G' H' s => q H' s.sameH
/-- a draw whose other arguments are pure -/
theorem w_draw {x : Str} {k j n m r : Nat} {Pre : List Dt → Prop} {Post : List Dt → Dt → Prop} {pa : Pos} {ap : Str} {c0 : Nat} {A : Addr} (F : Has X.prog X.w X.K X.mg X.base x k r (spDraw X.K n m Pre Post)) (hr : Room j X.A) (hk : k ≤ j) (i : Nat) (hi : σ[i]? = some (some (.ref A)))
    (ha : PuA X es σ G ds) (g : Same G H) (hA : G A = none) (hP : PotAt H A c0) (hc : c0 + n ≤ 1000000) (hpre : Pre ds)
    (q : ∀ d v G' H', Post ds d → Step [A] G H G' H' → PotAt H' A (c0 + n) → Da X.K G' v d → Q v H') (hm : ds.length = m := by rfl) (hg : Gl X x := by rfl)
    (hN : X.N[i]? = some ap := by rfl) (hv : Vis X.env.scope ap := by first | exact Or.inl rfl | exact Or.inr (Or.inl rfl) | exact Or.inr (Or.inr rfl)) (h1 : (ap == ("__debug__" : Str)) = false := by decide) (h2 : (ap == ("__classdict__" : Str)) = false := by decide)
    (hdb : (x == ("__debug__" : Str)) = false := by decide) (he : starEach (.Name ap pa :: es) X.env = (false, eval (.Name ap pa) X.env) :: starEach es X.env := by rfl) (hpl : (backTo pos (starEach es X.env)).any (·.1) = false := by rfl) :
    eE X (.Call (.Name x p) (.Name ap pa :: es) [] pos) σ H Q := by
  refine w_call F hr hk (a_cons (w_var i hi ?_ hN hv h1 h2) he) hg hdb he hpl
  refine ha G H (Same.refl G) g _ fun vs G2 H2 s2 hd => ?_
  obtain ⟨o, ho⟩ := hP.some
  exact ⟨A, vs, G2, ds, c0, rfl, hm, s2.s, s2.out hA ho, hP.step s2 (by simp), hc, hd, hpre, fun d v G3 H3 hp s3 hP3 hv => q d v G3 H3 hp (s2.pure.trans s3) hP3 hv⟩
end

/-! ### _law_take -/
def preTake : List Dt → Prop := fun ds => ∃ u : Int, ds = [.int u] ∧ 0 < u ∧ u < 2 ^ 60
def postTake : List Dt → Dt → Prop := fun ds d => ∃ u r : Int, ds = [.int u] ∧ d = .int r ∧ 0 ≤ r ∧ r < u
section
variable {P : Program} {w : World} {K : PySem.W.Frag} {mg : Str → Option Value} {base : Heap}
theorem scTake : FnScope ["pot", "upto", "digit", "prime", "blend"] ["pot", "upto"] (defScope sTake) := ⟨rfl, rfl, rfl, by decide +kernel, rfl, by decide +kernel, by decide +kernel⟩
theorem has_take (T : Top1 K mg "_law_take" sTake ["pot", "upto"]) (B : Blt mg) : Has P w K mg base "_law_take" 1 2 (spDraw K 1 1 preTake postTake) := by
  refine mkHas (k := 0) T scTake spDraw_len fun f cdv A outer s H vs Q E hr h => ?_
  obtain ⟨a, ws, G, ds, c, rfl, _, g, ga, hP, hc, hds, ⟨u, rfl, u0, u1⟩, k⟩ := h
  obtain rfl : ws = [.int u] := by
    cases hds with
    | cons h1 h2 =>
      cases h1
      cases h2
      rfl
  obtain ⟨p0, p1, p2, ha, hp0, hp0', hp1, hp1', hp2, hp2'⟩ := hP
  have g1 : Same (upd G a (.lst [.int p0, .int p1, .int p2])) H := by
    intro b o e
    by_cases hb : b = a
    · subst hb
      rw [upd_same] at e
      rw [ha]
      exact e
    · rw [upd_ne hb] at e
      exact g b o e
  have kp : ∀ H1, Same H H1 → H1 a = some (.lst [.int p0, .int p1, .int p2]) := fun H1 s => s _ _ ha
  have dp : Da K (upd G a (.lst [.int p0, .int p1, .int p2])) (.ref a) (.list (ofI [p0, p1, p2])) := .lst upd_same (Das.ofInts [p0, p1, p2])
  have hup : 0 < u ∧ u.natAbs < 2 ^ 60 := ⟨u0, by omega⟩
  refine b_cons (s_if (t_puK (k := decide (0 < p0)) (put_c (c_gt (pu_ixL (i := 0) (pu_var 0 rfl dp) pu_int (by decide) rfl) pu_int)) g1 fun H1 s1 => ?_))
  have g2 := g1.trans s1
  refine ite2 (fun hc => ?_) (fun hc => ?_)
  · have h0 : 0 < p0 := of_decide_eq_true hc
    refine b_cons (s_set 2 scTake.nd (w_puI (pu_mod (pu_intI (pu_ixL (i := 0) (pu_var 0 rfl dp) pu_int (by decide) rfl) B.int) (pu_var 1 rfl (.int u)) u0) g2 fun H2 s2 => ?_))
    have g3 := g2.trans s2
    refine b_cons (s_asg (w_puI (pu_div (pu_ixL (i := 0) (pu_var 0 rfl dp) pu_int (by decide) rfl) (pu_var 1 rfl (.int u)) (wide_div u0 hup.2 (by decide) (by decide))) g3 fun H3 s3 => ?_))
    have s4 := s1.trans (s2.trans s3)
    refine g_sub (w_var 0 rfl (w_int ⟨a, _, 0, 0, rfl, rfl, kp H3 s4, rfl, ?_⟩))
    refine b_one (s_ret (w_var 2 rfl ?_))
    refine k (.int (p0 % u)) _ G _ ⟨u, p0 % u, rfl, rfl, Int.emod_nonneg _ (by omega), Int.emod_lt_of_pos _ u0⟩ ((Step.same g s4).trans (Step.mut (g.trans s4) ga (kp H3 s4) (by simp))) ⟨p0 / u, p1, p2, upd_same, ?_, ?_, hp1, hp1', hp2, by omega⟩ (.int _)
    · exact Int.ediv_nonneg hp0 (by omega)
    · exact Int.lt_of_le_of_lt (Int.ediv_le_self _ hp0) hp0'
  · refine b_nil ?_
    refine b_cons (s_asg (w_puI (pu_add (pu_ixL (i := 2) (pu_var 0 rfl dp) pu_int (by decide) rfl) pu_int) g2 fun H2 s2 => ?_))
    refine g_sub (w_var 0 rfl (w_int ⟨a, _, 2, 2, rfl, rfl, kp H2 (s1.trans s2), rfl, ?_⟩))
    have s3 := s1.trans s2
    -- behind the count
    have st : Step [a] G H G (upd H2 a (.lst [.int p0, .int p1, .int (p2 + 1)])) := (Step.same g s3).trans (Step.mut (g.trans s3) ga (kp H2 s3) (by simp))
    have g4 : Same (upd G a (.lst [.int p0, .int p1, .int (p2 + 1)])) (upd H2 a (.lst [.int p0, .int p1, .int (p2 + 1)])) := by
      intro b o e
      by_cases hb : b = a
      · subst hb
        rw [upd_same] at e ⊢
        exact e
      · rw [upd_ne hb] at e ⊢
        exact s3 _ _ (g b o e)
    have dq : Da K (upd G a (.lst [.int p0, .int p1, .int (p2 + 1)])) (.ref a) (.list (ofI [p0, p1, p2 + 1])) := .lst upd_same (Das.ofInts [p0, p1, p2 + 1])
    generalize hr2 : p2 + 1 = r at st g4 dq
    have hr0 : 0 ≤ r ∧ r ≤ 1000000 ∧ r ≤ c + 1 := by omega
    have cube : ∀ x : Int, 0 ≤ x → x < 2 ^ 62 → CPow x 3 := fun x h1 h2 => ⟨by decide, by decide, by omega⟩
    obtain ⟨q5, hq5, hq5'⟩ : ∃ q5 : Int, q5 = r % 5 ∧ 0 ≤ q5 ∧ q5 < 5 := ⟨r % 5, rfl, by omega, by omega⟩
    obtain ⟨pr, hpr, hpr'⟩ : ∃ pr : Int, [(2147483647 : Int), 2147483629, 2147483587, 2147483579, 2147483563][q5.toNat]? = some pr ∧ 2147483563 ≤ pr ∧ pr ≤ 2147483647 := by
      have : q5 = 0 ∨ q5 = 1 ∨ q5 = 2 ∨ q5 = 3 ∨ q5 = 4 := by omega
      rcases this with h | h | h | h | h <;> subst h
      · exact ⟨2147483647, rfl, by decide, by decide⟩
      · exact ⟨2147483629, rfl, by decide, by decide⟩
      · exact ⟨2147483587, rfl, by decide, by decide⟩
      · exact ⟨2147483579, rfl, by decide, by decide⟩
      · exact ⟨2147483563, rfl, by decide, by decide⟩
    refine b_cons (s_set 3 scTake.nd (w_puI (i := pr) (pu_ixL (i := q5) (ds := ofI [2147483647, 2147483629, 2147483587, 2147483579, 2147483563])
      (pu_lst (pua_cons pu_int (pua_cons pu_int (pua_cons pu_int (pua_cons pu_int (pua_cons pu_int pua_nil))))) (by decide))
      ((pu_mod (pu_intI (pu_ixL (i := 2) (pu_var 0 rfl dq) pu_int (by decide) rfl) B.int) pu_int (by decide)).to (by rw [hq5])) hq5'.1 (by
        show (List.map PyData.int [2147483647, 2147483629, 2147483587, 2147483579, 2147483563])[q5.toNat]? = _
        rw [List.getElem?_map, hpr]; rfl)) g4 fun H3 t1 => ?_))
    have g5 := g4.trans t1
    have mulb : ∀ {x y : Int}, -(2 ^ 62) < x → x < 2 ^ 62 → -(2 ^ 62) < y → y < 2 ^ 62 → CMulW x y := fun {x y} h1 h2 h3 h4 => wide_mul (a := 62) (b := 62) (by omega) (by omega) (by decide) (by decide) (by decide)
    have hC : (0 : Int) ≤ 98413 * r ∧ (98413 : Int) * r ≤ 98413 * 1000000 := by omega
    have hCC : (0 : Int) ≤ 98413 * r * r ∧ (98413 : Int) * r * r ≤ 98413 * 1000000 * 1000000 := ⟨Int.mul_nonneg hC.1 hr0.1, Int.mul_le_mul hC.2 hr0.2.1 hr0.1 (by decide)⟩
    have pot1x : True := trivial
    --∀ {σ' pos pos' p p2 j}, σ'[0]? = some (some (V.ref a)) → Pu (cxOf CX0 P w K mg base ["pot", "upto", "digit", "prime", "blend"] "_law_take" (defScope sTake) f cdv A outer s H E).nox (.Subscript (.Name "pot" pos) (.Constant (.int 1) j p) pos') σ' (upd G a (.lst [.int p0, .int p1, .int r])) (.int p1) := fun h => pu_ixL (i := 1) (pu_var 0 h dq) pu_int (by decide) rfl
    --∀ {σ' pos pos' p p2 j}, σ'[0]? = some (some (V.ref a)) → Pu (cxOf CX0 P w K mg base ["pot", "upto", "digit", "prime", "blend"] "_law_take" (defScope sTake) f cdv A outer s H E).nox (.Subscript (.Name "pot" pos) (.Constant (.int 2) j p) pos') σ' (upd G a (.lst [.int p0, .int p1, .int r])) (.int r) := fun h => pu_ixL (i := 2) (pu_var 0 h dq) pu_int (by decide) rfl
    refine b_cons (s_set 4 scTake.nd (w_puI (pu_mod (pu_intI (pu_pow (pu_intI (pu_add (pu_add (pu_ixL (i := 1) (pu_var 0 rfl dq) pu_int (by decide) rfl) (pu_mul (pu_mul pu_int (pu_ixL (i := 2) (pu_var 0 rfl dq) pu_int (by decide) rfl) ?m1) (pu_ixL (i := 2) (pu_var 0 rfl dq) pu_int (by decide) rfl) ?m2)) pu_int) B.int) pu_int ?m3) B.int) (pu_var 3 rfl (.int pr)) (by omega)) g5 fun H4 t2 => ?_))
    case m1 => exact mulb (by decide) (by decide) (by omega) (by omega)
    case m2 => exact mulb (by omega) (by omega) (by omega) (by omega)
    case m3 => exact cube _ (by omega) (by omega)
    have g6 := g5.trans t2
    generalize hb1 : ((p1 + 98413 * r * r + 526) ^ (3 : Int).toNat) % pr = b1 at *
    have hb1' : 0 ≤ b1 ∧ b1 < 2 ^ 31 := by
      rw [← hb1]
      exact ⟨Int.emod_nonneg _ (by omega), Int.lt_of_lt_of_le (Int.emod_lt_of_pos _ (by omega)) (by omega)⟩
    refine b_cons (s_set 4 scTake.nd (w_puI (pu_mod (pu_intI (pu_mul (pu_var 4 rfl (.int b1)) (pu_add (pu_mod (pu_intI (pu_var 4 rfl (.int b1)) B.int) pu_int (by decide)) (pu_mul pu_int (pu_ixL (i := 2) (pu_var 0 rfl dq) pu_int (by decide) rfl) ?m4)) ?m5) B.int) pu_int (by decide)) g6 fun H5 t3 => ?_))
    case m4 => exact mulb (by decide) (by decide) (by omega) (by omega)
    case m5 => exact mulb (by omega) (by omega) (by omega) (by omega)
    have g7 := g6.trans t3
    generalize hb2 : (b1 * (b1 % 10025 + 119 * r)) % 2305843009213693907 = b2 at *
    refine b_one (s_ret (w_puI (pu_mod (pu_intI (pu_div (pu_var 4 rfl (.int b2)) pu_int (wide_div (b := 8) (by decide) (by decide) (by decide) (by decide))) B.int) (pu_var 1 rfl (.int u)) u0) g7 fun H6 t4 => ?_))
    have t5 : Same (upd H2 a (.lst [.int p0, .int p1, .int r])) H6 := t1.trans (t2.trans (t3.trans t4))
    refine k (.int (b2 / 167 % u)) _ G H6 ⟨u, _, rfl, rfl, Int.emod_nonneg _ (by omega), Int.emod_lt_of_pos _ u0⟩ (st.trans (Step.same st.s t5)) ⟨p0, p1, r, t5 _ _ upd_same, hp0, hp0', hp1, hp1', hr0.1, by omega⟩ (.int _)
end
end Mb

set_option Elab.async false
set_option linter.all false
set_option maxRecDepth 100000
set_option maxHeartbeats 2000000
/-! Lists that change. -/
namespace Mb
open PySem PySem.Spec PyProof.Rows L2
section
variable {X : Cx} {σ : L2.St} {G G1 H : Hp} {a b c e : Expr} {es : List Expr} {pos p p2 : Pos} {d d1 d2 : Dt} {ds : List Dt} {Q : VK} {l : Addr} {vs : List V}
theorem w_listM (ha : Pu X a σ G (.list ds)) (g : Same G H) (hm : X.mg "list" = none) (q : ∀ l vs G' H', Step [] G H G' H' → G' l = none → H' l = some (.lst vs) → H l = none → Das X.K G' vs ds → Q (.ref l) H')
    (hg : Gl X "list" := by rfl) (he : starEach [a] X.env = [(false, eval a X.env)] := by rfl) : eE X (.Call (.Name "list" p) [a] [] pos) σ H Q := by
  refine w_callTy call_list_of hm (by decide +kernel) (a_cons (ha G H (Same.refl G) g _ fun v G2 H2 s2 hd2 => a_nil ?_) he) hg (by decide) (by decide) he rfl
  obtain ⟨m, vs, rfl, h1, h2⟩ := hd2.lst_inv
  exact ⟨m, vs, rfl, .inl (SqL.of (s2.s _ _ h1)), fun l hl => q l vs G2 _ (s2.trans (Step.allocM s2.s hl)) (s2.s.free hl) upd_same (s2.free hl) h2⟩
theorem w_emptyM (q : ∀ l, H l = none → Q (.ref l) (upd H l (.lst []))) : eE X (.List [] pos) σ H Q := w_lst (a_nil ⟨by decide, q⟩)
theorem w_append {apos cpos px : Pos} {x : Str} (i : Nat) (hi : σ[i]? = some (some (.ref l))) (h0 : H l = some (.lst vs)) (q : eE X e σ H fun y H2 => eA X [] σ H2 fun xs H3 => rAppend (.ref l) (y :: xs) H3 Q)
    (hN : X.N[i]? = some x := by rfl) (hv : Vis X.env.scope x := by first | exact Or.inl rfl | exact Or.inr (Or.inl rfl) | exact Or.inr (Or.inr rfl)) (h1 : (x == ("__debug__" : Str)) = false := by decide) (h2 : (x == ("__classdict__" : Str)) = false := by decide)
    (hbase : attributeBase (.Name x px) "append" X.env (eval (.Name x px) X.env) = eval (.Name x px) X.env := by rfl)
    (hfew : ((backTo cpos (starEach (e :: []) X.env)).all (fun x => !x.1) && (backToKw cpos (keywordEach [] X.env)).all (fun x => x.1.isSome)
      && decide ((e :: ([] : List Expr)).length + ([] : List Keyword).length + (if ([] : List Keyword).isEmpty then 0 else 1) < 30)) = true := by rfl)
    (hline : (apos.endLine == cpos.line) = true := by rfl) (hs : starEach (e :: []) X.env = (false, eval e X.env) :: starEach [] X.env := by rfl) (hplain : (backTo cpos (starEach [] X.env)).any (·.1) = false := by rfl) :
    eE X (.Call (.Attribute (.Name x px) "append" apos) [e] [] cpos) σ H Q :=
  w_bm PySem.F.plainAttrs_list PySem.F.slot_list_append PySem.F.type_list_append mt_append (w_var i hi ⟨.inl ⟨rfl, _, SqL.of h0⟩, a_cons q hs⟩ hN hv h1 h2) hbase hfew hline hs hplain
theorem w_popAt {apos cpos px : Pos} {x : Str} (i : Nat) (hi : σ[i]? = some (some (.ref l))) (h0 : H l = some (.lst vs)) (q : eE X e σ H fun y H2 => eA X [] σ H2 fun xs H3 => rPopAt (.ref l) (y :: xs) H3 Q)
    (hN : X.N[i]? = some x := by rfl) (hv : Vis X.env.scope x := by first | exact Or.inl rfl | exact Or.inr (Or.inl rfl) | exact Or.inr (Or.inr rfl)) (h1 : (x == ("__debug__" : Str)) = false := by decide) (h2 : (x == ("__classdict__" : Str)) = false := by decide)
    (hbase : attributeBase (.Name x px) "pop" X.env (eval (.Name x px) X.env) = eval (.Name x px) X.env := by rfl)
    (hfew : ((backTo cpos (starEach (e :: []) X.env)).all (fun x => !x.1) && (backToKw cpos (keywordEach [] X.env)).all (fun x => x.1.isSome)
      && decide ((e :: ([] : List Expr)).length + ([] : List Keyword).length + (if ([] : List Keyword).isEmpty then 0 else 1) < 30)) = true := by rfl)
    (hline : (apos.endLine == cpos.line) = true := by rfl) (hs : starEach (e :: []) X.env = (false, eval e X.env) :: starEach [] X.env := by rfl) (hplain : (backTo cpos (starEach [] X.env)).any (·.1) = false := by rfl) :
    eE X (.Call (.Attribute (.Name x px) "pop" apos) [e] [] cpos) σ H Q :=
  w_bm PySem.F.plainAttrs_list PySem.F.slot_list_pop PySem.F.type_list_pop mt_popAt (w_var i hi ⟨.inl ⟨rfl, _, SqL.of h0⟩, a_cons q hs⟩ hN hv h1 h2) hbase hfew hline hs hplain
theorem w_extend {apos cpos px : Pos} {x : Str} (i : Nat) (hi : σ[i]? = some (some (.ref l))) (h0 : H l = some (.lst vs)) (q : eE X e σ H fun y H2 => eA X [] σ H2 fun xs H3 => rExtend (.ref l) (y :: xs) H3 Q)
    (hN : X.N[i]? = some x := by rfl) (hv : Vis X.env.scope x := by first | exact Or.inl rfl | exact Or.inr (Or.inl rfl) | exact Or.inr (Or.inr rfl)) (h1 : (x == ("__debug__" : Str)) = false := by decide) (h2 : (x == ("__classdict__" : Str)) = false := by decide)
    (hbase : attributeBase (.Name x px) "extend" X.env (eval (.Name x px) X.env) = eval (.Name x px) X.env := by rfl)
    (hfew : ((backTo cpos (starEach (e :: []) X.env)).all (fun x => !x.1) && (backToKw cpos (keywordEach [] X.env)).all (fun x => x.1.isSome)
      && decide ((e :: ([] : List Expr)).length + ([] : List Keyword).length + (if ([] : List Keyword).isEmpty then 0 else 1) < 30)) = true := by rfl)
    (hline : (apos.endLine == cpos.line) = true := by rfl) (hs : starEach (e :: []) X.env = (false, eval e X.env) :: starEach [] X.env := by rfl) (hplain : (backTo cpos (starEach [] X.env)).any (·.1) = false := by rfl) :
    eE X (.Call (.Attribute (.Name x px) "extend" apos) [e] [] cpos) σ H Q :=
  w_bm PySem.F.plainAttrs_list PySem.F.slot_list_extend PySem.F.type_list_extend mt_extend (w_var i hi ⟨.inl ⟨rfl, _, SqL.of h0⟩, a_cons q hs⟩ hN hv h1 h2) hbase hfew hline hs hplain
theorem rAppend_q {xs : List V} {y : V} (h : H l = some (.lst xs)) (hl : xs.length < 100000) (q : Q .non (upd H l (.lst (xs ++ [y])))) : rAppend (.ref l) [y] H Q := ⟨l, xs, y, rfl, rfl, h, Nat.lt_trans hl (by decide), q⟩
theorem rPopAt_q {xs : List V} {i : Int} {y : V} (h : H l = some (.lst xs)) (i0 : 0 ≤ i) (i1 : i < xs.length) (i2 : i < 2 ^ 60) (hy : xs[i.toNat]? = some y) (q : Q y (upd H l (.lst (xs.eraseIdx i.toNat)))) : rPopAt (.ref l) [.int i] H Q :=
  ⟨l, xs, i, i.toNat, y, rfl, rfl, h, by omega, by omega, seqIndex_of i0 i1, hy, q⟩
end
section
variable {A : List Addr} {G H G1 H1 G2 H2 : Hp} {p l : Addr} {o o' : HO}
/-- what was made since the begin changes -/
theorem Step.mutF (st : Step A G H G1 H1) (h0 : H l = none) (gl : G1 l = none) (hl : H1 l = some o) : Step A G H G1 (upd H1 l o') :=
  ((st.weak (B := l :: A) fun x h => List.mem_cons_of_mem _ h).trans (Step.mut st.s gl hl List.mem_cons_self)).drop h0
/-- a new thing that may change -/
theorem Step.allocF (st : Step A G H G1 H1) (hp : H1 p = none) : Step A G H G1 (upd H1 p o) := st.trans (Step.allocM st.s hp)
end
section
variable {X : Cx} {σ : L2.St} {G H : Hp} {a b : Expr} {p p2 pos pos2 : Pos}
theorem pu_listR {n : Nat} (ha : Pu X a σ G (.int n)) (hn : n ≤ 1000) (hm : X.mg "list" = none) (hm2 : X.mg "range" = none) (hc : X.calm = true := by rfl) (hg : Gl X "list" := by rfl) (hg2 : Gl X "range" := by rfl)
    (he : starEach [.Call (.Name "range" p2) [a] [] pos2] X.env = (false, eval (.Call (.Name "range" p2) [a] [] pos2) X.env) :: starEach [] X.env := by rfl) (he2 : starEach [a] X.env = (false, eval a X.env) :: starEach [] X.env := by rfl) :
    Pu X (.Call (.Name "list" p) [.Call (.Name "range" p2) [a] [] pos2] [] pos) σ G (.list (rangeD 0 n)) := fun G1 H g s Q q => by
  refine eE.mk (pe_listRg hc hg hm (prg_1 hg2 hm2 pe_e he2) he) (ha G1 H g s _ fun v G2 H2 s2 hd => ?_)
  refine ⟨n, hd.int_inv, RgOk.of_le (by omega) (by omega) (by omega) (by omega), fun l hl => ?_⟩
  refine q _ _ _ (s2.trans (Step.alloc s2.s hl)) (.lst upd_same ?_)
  have e : rgV 0 (n : Int) = (((List.range n).map fun (i : Nat) => (i : Int))).map V.int := by simp [rgV]
  have e2 : rangeD 0 n = ofI ((List.range n).map fun (i : Nat) => (i : Int)) := by simp [rangeD, ofI]
  rw [e, e2]
  exact Das.ofInts _
end
end Mb

set_option Elab.async false
set_option linter.all false
set_option maxRecDepth 100000
set_option maxHeartbeats 2000000
namespace Mb
open PySem PySem.Spec PyProof.Rows L2
theorem Step.reG {A : List Addr} {G G1 G1' H H' : Hp} (s : Step A G1 H G1' H') (g : Same G H) (hA : ∀ x ∈ A, G x = none) : Step A G H G H' := ⟨Same.refl G, fun b o e => by
  obtain ⟨o', e', h⟩ := s.fr b o (g b o e)
  rw [e', h fun hm => by rw [hA b hm] at e; cases e], s.fr, fun _ _ e => .inl e⟩
section
variable {X : Cx} {σ : L2.St} {G G1 H : Hp} {a b c e : Expr} {es : List Expr} {pos p p2 : Pos} {d d1 d2 : Dt} {ds : List Dt} {Q : VK}
/-- a draw of a number -/
theorem w_take {j r k : Nat} {pa : Pos} {ap : Str} {c0 : Nat} {A : Addr} {u : Int} (F : Has X.prog X.w X.K X.mg X.base "_law_take" k r (spDraw X.K 1 1 preTake postTake)) (hr : Room j X.A) (hk : k ≤ j) (i : Nat) (hi : σ[i]? = some (some (.ref A)))
    (ha : Pu X e σ G1 (.int u)) (g1 : Same G1 H) (hA1 : G1 A = none) (g : Same G H) (hA : G A = none) (hP : PotAt H A c0) (hc : c0 + 1 ≤ 1000000) (u0 : 0 < u) (u1 : u < 2 ^ 60)
    (q : ∀ r H', 0 ≤ r → r < u → Step [A] G H G H' → PotAt H' A (c0 + 1) → Q (.int r) H') (hg : Gl X "_law_take" := by rfl)
    (hN : X.N[i]? = some ap := by rfl) (hv : Vis X.env.scope ap := by first | exact Or.inl rfl | exact Or.inr (Or.inl rfl) | exact Or.inr (Or.inr rfl)) (h1 : (ap == ("__debug__" : Str)) = false := by decide) (h2 : (ap == ("__classdict__" : Str)) = false := by decide)
    (he : starEach (.Name ap pa :: [e]) X.env = (false, eval (.Name ap pa) X.env) :: starEach [e] X.env := by rfl) (hpl : (backTo pos (starEach [e] X.env)).any (·.1) = false := by rfl) (he2 : starEach [e] X.env = (false, eval e X.env) :: starEach [] X.env := by rfl) :
    eE X (.Call (.Name "_law_take" p) (.Name ap pa :: [e]) [] pos) σ H Q :=
  w_draw F hr hk i hi (pua_cons ha pua_nil he2) g1 hA1 hP hc ⟨u, rfl, u0, u1⟩ (fun d v G' H' hp s hP' hv' => by
    obtain ⟨u', r, e1, rfl, r0, r1⟩ := hp
    obtain rfl : u = u' := by
      injection e1 with e2
      injection e2
    rw [hv'.int_inv]
    exact q r H' r0 r1 (s.reG g (by intro x hx; rw [List.mem_singleton.mp hx]; exact hA)) hP') rfl hg hN hv h1 h2 (by decide) he hpl
end

section
variable {X : Cx} {σ : L2.St} {G H : Hp} {elt iter : Expr} {scope : Scope} {pos : Pos}
theorem filter_tt {α : Type} (l : List α) : l.filter (fun _ => true) = l := List.filter_eq_self.mpr fun _ _ => rfl
/-- a comprehension whose element draws n times -/
theorem lc1P (k : Nat) {x : Str} {px : Pos} {Q : VK} (a : Addr) (c0 n : Nat) (hN : X.N.Nodup) 
    (hI : eI X (.Name x px) iter σ H fun J H1 => ∃ (G1 : Hp) (ds : List Dt) (Rel : Nat → List Dt → Prop), Same G1 H1 ∧ Walks X.K J G1 ds ∧ G1 a = none ∧ PotAt H1 a c0 ∧ Rel 0 [] ∧ (∀ i acc, Rel i acc → acc.length < 100000) ∧
      (∀ i d x G2 H2 acc, ds[i]? = some d → Same G1 G2 → Same G2 H2 → G2 a = none → PotAt H2 a (c0 + i * n) → Rel i acc → Da X.K G2 x d →
        Bk X scope fun X' => ∀ Q, (∀ y d' G4 H4, Step [a] G2 H2 G4 H4 → Da X.K G4 y d' → PotAt H4 a (c0 + (i + 1) * n) → Rel (i + 1) (acc ++ [d']) → Q y H4) → eE X' elt (σ.set k (some x)) H2 Q) ∧
      ∀ v G' H' acc, Step [a] G1 H1 G' H' → Da X.K G' v (.list acc) → Rel ds.length acc → PotAt H' a (c0 + ds.length * n) → Q v H')
    (hk : X.N[k]? = some x := by rfl) (hx : scope.names.lookup x = some .local := by rfl) : eLc X elt (.Name x px) iter [] scope [k] σ H Q := by
  refine lcI (own := [(x, k)]) ?_
  obtain ⟨w, hw0, hI⟩ := hI
  refine ⟨fun σ H R => ∃ R' : It → Hp → Prop, w σ H R' ∧ ∀ J H', R' J H' → R J H', ⟨fun pins s σ H R I0 ⟨R', h1, h2⟩ => ?_⟩, _, hI, ?_⟩
  · refine thn (hw0.run pins s σ H R' I0 h1) fun v s1 q => thn q fun it s2 ⟨a1, a2, a3, a4, a5, a6, a7, a8, a9, a10, a11⟩ => ?_
    exact ⟨a1, a2, a3, a4, a5, a6, a7, a8, a9, a10, h2 _ _ a11⟩
  rintro J H1 ⟨G1, ds, Rel, g1, hw, ga, hP, r0, rl, step, done⟩
  refine ⟨G1, ds, [a], fun i H => PotAt H a (c0 + i * n), Rel, g1, hw, by simpa using hP, r0, fun i H H' h e => h.of (e a (by simp)), fun b hb => by
    obtain rfl := List.mem_singleton.mp hb
    exact ⟨ga, hP.ne⟩, rl, ?_, done⟩
  intro i d v G2 H2 acc hd g2 s2 hM hR hv hA
  refine ⟨(wipe σ [k]).set k (some v), wipe_set1, fun Q h s0 H0 C cl fp => ?_, true, fun _ _ _ _ _ => puts_nil, (fun e => by cases e), fun _ G3 H3 s3 hM3 Q q s0 H0 C cl fp => ?_⟩
  · exact g_name (X := X.blk s0 H0 scope (compEnvC scope cl C X.env) fp) k hN h hk (Or.inl (lookup_relabel_local (env := X.env) hx)) (Or.inr (lookup_relabel_local (env := X.env) hx))
  · rw [wipe_set1']
    obtain ⟨o, ho⟩ := hM.some
    exact step i d v G3 H3 acc hd (g2.trans s3.g) s3.s (s3.out (hA a (by simp)).1 ho) hM3 hR (hv.mono s3.g) s0 H0 C cl fp Q q
end
/-! ### _law_of -/
def preOf : List Dt → Prop := fun ds => (∃ xs : List Dt, ds = [.list xs] ∧ 0 < xs.length ∧ xs.length < 1000) ∨ ∃ x : Str, ds = [.str x] ∧ 0 < x.length ∧ x.length < 1000
def postOf : List Dt → Dt → Prop := fun ds d => (∃ xs : List Dt, ds = [.list xs] ∧ d ∈ xs) ∨ ∃ (x : Str) (c : Nat), ds = [.str x] ∧ d = .str ⟨#[c]⟩ ∧ c ∈ x.cps.toList
section
variable {P : Program} {w : World} {K : PySem.W.Frag} {mg : Str → Option Value} {base : Heap}
theorem scOf : FnScope ["pot", "some"] ["pot", "some"] (defScope sOf) := ⟨rfl, rfl, rfl, by decide +kernel, rfl, by decide +kernel, by decide +kernel⟩
theorem has_of (T : Top1 K mg "_law_of" sOf ["pot", "some"]) (B : Blt mg) (hT : Has P w K mg base "_law_take" 1 2 (spDraw K 1 1 preTake postTake)) : Has P w K mg base "_law_of" 2 2 (spDraw K 1 1 preOf postOf) := by
  refine mkHas (k := 1) T scOf spDraw_len fun f cdv A outer s H vs Q E hr h => ?_
  obtain ⟨a, ws, G, ds, c, rfl, hl, g, ga, hP, hc, hds, hpre, k⟩ := h
  cases hds with
  | nil => cases hl
  | cons hd hn =>
    cases hn with
    | cons _ _ => cases hl
    | nil =>
      rename_i v d
      rcases hpre with ⟨xs, e1, x0, x1⟩ | ⟨x, e1, x0, x1⟩
      · obtain rfl : d = .list xs := by injection e1
        obtain ⟨l, vs, rfl, h1, h2⟩ := hd.lst_inv
        refine b_one (s_ret (w_ix ix_seq (w_var 1 rfl (w_take hT hr (by decide) 0 rfl (pu_lenL (pu_var 1 rfl hd) B.len) g ga g ga hP hc (by omega) (by omega) fun r H' r0 r1 st hP' => ?_))))
        have hrl : r.toNat < xs.length := by omega
        obtain ⟨z, hz, hz2⟩ := atI_get h2 r0 (List.getElem?_eq_getElem hrl)
        exact .inl ⟨l, vs, r, z, rfl, rfl, SqL.of (st.s _ _ h1), hz, k xs[r.toNat] z G H' (.inl ⟨xs, rfl, List.getElem_mem hrl⟩) st hP' hz2⟩
      · obtain rfl : d = .str x := by injection e1
        obtain rfl := hd.str_inv
        refine b_one (s_ret (w_ix ix_seq (w_var 1 rfl (w_take hT hr (by decide) 0 rfl (pu_lenS (pu_var 1 rfl hd) (Nat.le_of_lt (Nat.lt_trans x1 (by decide))) B.len) g ga g ga hP hc (by omega) (by omega) fun r H' r0 r1 st hP' => ?_))))
        have hrl : r.toNat < x.cps.toList.length := by
          have : x.length = x.cps.size := rfl
          rw [Array.length_toList]
          omega
        refine .inr (.inr ⟨x, r, x.cps.toList[r.toNat], rfl, rfl, Nat.le_of_lt (Nat.lt_trans x1 (by decide)), ?_, ?_⟩)
        · unfold atI ixN
          rw [if_pos r0, if_pos (by omega)]
          exact List.getElem?_eq_getElem hrl
        · exact k _ _ G H' (.inr ⟨x, _, rfl, rfl, List.getElem_mem hrl⟩) st hP' (.str _)
end

theorem perm_erase {α : Type} : ∀ (l : List α) (i : Nat) (h : i < l.length), (l[i] :: l.eraseIdx i).Perm l
  | [], i, h => by simp at h
  | x :: l, 0, h => List.Perm.refl _
  | x :: l, i + 1, h => by
    have hi : i < l.length := by simpa using h
    have ih := perm_erase l i hi
    show (l[i] :: x :: l.eraseIdx i).Perm (x :: l)
    exact (List.Perm.swap x l[i] (l.eraseIdx i)).trans (List.Perm.cons x ih)
/-! ### _law_some -/
def preSome : List Dt → Prop := fun ds => ∃ (xs : List Dt) (m : Nat), ds = [.list xs, .int m] ∧ m ≤ xs.length ∧ xs.length ≤ 20
def postSome : List Dt → Dt → Prop := fun ds d => ∃ (xs : List Dt) (m : Nat) (ys zs : List Dt), ds = [.list xs, .int m] ∧ d = .list ys ∧ ys.length = m ∧ (ys ++ zs).Perm xs
section
variable {P : Program} {w : World} {K : PySem.W.Frag} {mg : Str → Option Value} {base : Heap}
theorem scSome : FnScope ["pot", "pool", "many", "left", "found", "lap"] ["pot", "pool", "many"] (defScope sSome) := ⟨rfl, rfl, rfl, by decide +kernel, rfl, by decide +kernel, by decide +kernel⟩
theorem has_some (T : Top1 K mg "_law_some" sSome ["pot", "pool", "many"]) (B : Blt mg) (hT : Has P w K mg base "_law_take" 1 2 (spDraw K 1 1 preTake postTake)) : Has P w K mg base "_law_some" 2 3 (spDraw K 20 2 preSome postSome) := by
  refine mkHas (k := 1) T scSome spDraw_len fun f cdv A outer s H vs Q E hr h => ?_
  obtain ⟨a, ws, G, ds, c, rfl, hl, g, ga, hP, hc, hds, ⟨xs, m, rfl, hm, hx⟩, k⟩ := h
  cases hds with
  | cons hd hn =>
    cases hn with
    | cons hd2 hn =>
      cases hn
      obtain rfl := hd2.int_inv
      rename_i v
      -- left, found = list(pool), []
      refine b_cons (s_par 3 4 scSome.nd (a_cons (w_listM (pu_var 1 rfl hd) g B.list fun lf vs0 G1 H1 s1 gl hlf hl0 hd0 => a_cons (w_emptyM fun fo hfo => a_nil ⟨_, _, rfl, ?_⟩))))
      have nlf : lf ≠ fo := ne_of_none hlf hfo
      have s2 : Step [a, lf, fo] G H G1 (upd H1 fo (.lst [])) := s1.pure.trans (Step.allocM s1.s hfo)
      have gfo : G1 fo = none := s1.s.free hfo
      obtain ⟨oa, hoa⟩ := hP.some
      have ha1 : H1 a = some oa := s1.keep hoa (by simp)
      have nal : a ≠ lf := fun e => by rw [e, hl0] at hoa; cases hoa
      have naf : a ≠ fo := ne_of_none ha1 hfo
      refine b_cons (s_forD (src_range (n := m) (pu_var 2 rfl (.int _)) (by omega) (by omega) B.range) s2.s fun G2 H2 s3 => ⟨fun i σ H' => ∃ (G3 : Hp) (vs ws : List V) (ls fs : List Dt) (u : Option V), σ = [some (.ref a), some v, some (.int m), some (.ref lf), some (.ref fo), u] ∧ Same G2 G3 ∧ Step [a, lf, fo] G H G3 H' ∧
        PotAt H' a (c + i) ∧ H' lf = some (.lst vs) ∧ H' fo = some (.lst ws) ∧ G3 lf = none ∧ G3 fo = none ∧ G3 a = none ∧ Das K G3 vs ls ∧ Das K G3 ws fs ∧ (fs ++ ls).Perm xs ∧ fs.length = i, ?_, ?_, ?_, ?_⟩)
      · have e1 : (upd H1 fo (.lst [])) lf = some (.lst vs0) := by rw [upd_ne nlf]; exact hlf
        exact ⟨G2, vs0, [], xs, [], none, rfl, Same.refl G2, s2.trans s3.pure, ((hP.step s1 (by simp)).of (upd_ne naf)).step s3 (by simp), s3.keep e1 (by simp), s3.keep upd_same (by simp),
          s3.out gl e1, s3.out gfo upd_same, (s2.trans s3.pure).out ga hoa, hd0.mono s3.g, .nil, List.Perm.refl _, rfl⟩
      · rintro i σ H' ⟨G3, vs, ws, ls, fs, u, rfl, sg, st, _⟩
        exact sg.trans st.s
      · rintro i d x σ H' H3 hi ⟨G3, vs, ws, ls, fs, u, rfl, sg, st, hP3, hlf3, hfo3, glf3, gfo3, ga3, hds, hws, hpm, hfl⟩ hw
        obtain ⟨him, rfl⟩ := rangeD_get hi
        obtain ⟨G4, s4, hx4⟩ := hw G3 sg st.s
        obtain rfl := hx4.int_inv
        refine g_name 5 scSome.nd (b_one (s_expr (w_append 4 rfl (s4.keep hfo3 (by simp)) ?_)))
        have hlf4 := s4.keep hlf3 (by simp)
        have hll : ls.length = xs.length - i := by
          have := hpm.length_eq
          rw [List.length_append] at this
          omega
        have g5 : Same (upd G4 lf (.lst vs)) H3 := by
          intro b o e
          by_cases hb : b = lf
          · subst hb
            rw [upd_same] at e
            rw [hlf4]
            exact e
          · rw [upd_ne hb] at e
            exact s4.s b o e
        have glf4 := s4.out glf3 hlf3
        have gfo4 := s4.out gfo3 hfo3
        have ga4 := s4.out ga3 hP3.some.choose_spec
        refine w_popAt 3 rfl hlf4 (w_take hT hr (by decide) 0 rfl (pu_lenL (pu_var 3 rfl (.lst upd_same ((hds.mono s4.g).mono (Same.toUpd glf4)))) B.len) g5 (by rw [upd_ne nal]; exact ga4) s4.s ga4 (hP3.step s4 (by simp)) (by omega) (by
          have : i < (m : Int).toNat := him
          omega) (by omega) fun r H5 r0 r1 s5 hP5 => a_nil ?_)
        have hlf5 := s5.keep hlf4 (by simp; exact fun e => nal e.symm)
        have hrl : r.toNat < ls.length := by omega
        obtain ⟨z, hz, hz2⟩ := (hds.mono s4.g).get' (List.getElem?_eq_getElem hrl)
        have hvl := hds.length
        refine rPopAt_q hlf5 r0 (by omega) (by omega) hz (a_nil ?_)
        have hfo5 := s5.keep (s4.keep hfo3 (by simp)) (by simp; exact fun e => naf e.symm)
        have hwl := hws.length
        refine rAppend_q (xs := ws) (by rw [upd_ne (fun e => nlf e.symm)]; exact hfo5) (by omega) ?_
        have st6 : Step [a, lf, fo] G H G4 (upd (upd H5 lf (.lst (vs.eraseIdx r.toNat))) fo (.lst (ws ++ [z]))) :=
          (st.trans (s4.pure.trans (s5.weak (by simp)))).trans ((Step.mut s5.s glf4 hlf5 (by simp)).trans (Step.mut (Step.mut (A := [lf]) s5.s glf4 hlf5 (by simp)).s gfo4 (by rw [upd_ne (fun e => nlf e.symm)]; exact hfo5) (by simp)))
        refine ⟨G4, vs.eraseIdx r.toNat, ws ++ [z], ls.eraseIdx r.toNat, fs ++ [ls[r.toNat]], some (.int (0 + (i : Nat))), rfl, sg.trans s4.g, st6, ?_, ?_, upd_same, glf4, gfo4, ga4, (hds.mono s4.g).erase _, (hws.mono s4.g).snoc hz2, ?_, by simp [hfl]⟩
        · exact hP5.of (by rw [upd_ne naf, upd_ne nal])
        · rw [upd_ne nlf]
          exact upd_same
        · refine List.Perm.trans ?_ hpm
          rw [List.append_assoc]
          exact List.Perm.append_left fs (perm_erase ls r.toNat hrl)
      · rintro σ H' ⟨G3, vs, ws, ls, fs, u, rfl, sg, st, hP3, hlf3, hfo3, glf3, gfo3, ga3, hds, hws, hpm, hfl⟩
        rw [rangeD_len] at hP3 hfl
        have st' : Step [a] G H G3 H' := by
          have h1 : Step [lf, fo, a] G H G3 H' := st.weak (by simp)
          exact (h1.drop hl0).drop (s1.free hfo)
        refine b_one (s_ret (w_var 4 rfl (k (.list fs) _ (upd G3 fo (.lst ws)) H' ⟨xs, m, fs, ls, rfl, rfl, by omega, hpm⟩ (st'.freeze (s1.free hfo) hfo3 gfo3) (hP3.up (by omega)) (.lst upd_same (hws.mono (Same.toUpd gfo3))))))
end
end Mb

set_option Elab.async false
set_option linter.all false
set_option maxRecDepth 100000
set_option maxHeartbeats 2000000
namespace Mb
open PySem PySem.Spec PyProof.Rows L2 TL
/-! ### names -/
def Lets (x : Str) : Prop := ∀ c ∈ tl x, 97 ≤ c ∧ c ≤ 122
def Nm (x : Str) : Prop := Lets x ∧ 1 ≤ x.length ∧ x.length ≤ 8
def resS : List Str := ["hands", "taken", "right", "meet", "begins", "ends", "gives", "and", "end"]
def tenW : List Str := ["hand", "begin", "gift", "taker", "ended", "and", "end", "meet", "gives", "hands"]
def abc : Str := "abcdefghijklmnopqrstuvwxyz"
theorem pig : ∀ (l m : List Str), l.Nodup → (∀ x ∈ l, x ∈ m) → l.length ≤ m.length
  | [], m, _, _ => Nat.zero_le _
  | x :: l, m, hn, hs => by
    have hx : x ∈ m := hs x List.mem_cons_self
    obtain ⟨h1, h2⟩ := List.nodup_cons.mp hn
    have ih := pig l (m.erase x) h2 fun y hy => by
      have hne : y ≠ x := fun e => h1 (e ▸ hy)
      exact (List.mem_erase_of_ne hne).mpr (hs y (List.mem_cons_of_mem _ hy))
    rw [List.length_erase_of_mem hx] at ih
    have : 0 < m.length := List.length_pos_of_mem hx
    rw [List.length_cons]
    omega
def cands (wd : Str) : List Str := wd :: (tl abc).map fun c => wd ++ ⟨#[c]⟩
theorem tl_sign (c : Nat) : tl ⟨#[c]⟩ = [c] := rfl
theorem tl_abc : tl abc = [97, 98, 99, 100, 101, 102, 103, 104, 105, 106, 107, 108, 109, 110, 111, 112, 113, 114, 115, 116, 117, 118, 119, 120, 121, 122] := by decide +kernel
theorem cands_nodup (wd : Str) : (cands wd).Nodup := by
  refine List.nodup_cons.mpr ⟨fun h => ?_, ?_⟩
  · obtain ⟨c, _, e⟩ := List.mem_map.mp h
    have := congrArg (fun x => (tl x).length) e
    simp [tl_append, tl_sign] at this
  · rw [List.nodup_iff_pairwise_ne, List.pairwise_map]
    have hn : (tl abc).Nodup := by rw [tl_abc]; decide
    refine (List.nodup_iff_pairwise_ne.mp hn).imp fun {a b} hab e => hab ?_
    have := congrArg tl e
    rw [tl_append, tl_append] at this
    have := List.append_cancel_left this
    simpa [tl_sign] using this
theorem cands_len (wd : Str) : (cands wd).length = 27 := by
  unfold cands
  rw [List.length_cons, List.length_map, tl_abc]
  rfl
def W7 (x : Str) : Prop := Lets x ∧ 1 ≤ x.length ∧ x.length ≤ 7
theorem cands_nm {wd s : Str} (h : W7 wd) (hs : s ∈ cands wd) : Nm s := by
  obtain ⟨h1, h2, h3⟩ := h
  rcases List.mem_cons.mp hs with rfl | hs
  · exact ⟨h1, h2, by omega⟩
  · obtain ⟨c, hc, rfl⟩ := List.mem_map.mp hs
    have hl : (wd ++ (⟨#[c]⟩ : Str)).length = wd.length + 1 := by rw [len_tl, len_tl, tl_append, tl_sign, List.length_append]; rfl
    refine ⟨fun d hd => ?_, by omega, by omega⟩
    rw [tl_append] at hd
    rcases List.mem_append.mp hd with hd | hd
    · exact h1 d hd
    · rw [tl_sign] at hd
      obtain rfl := List.mem_singleton.mp hd
      rw [tl_abc] at hc
      revert hc
      revert d
      simp only [List.mem_cons, List.not_mem_nil, or_false]
      omega
theorem first_free (wd : Str) (us : List Str) (hu : us.length ≤ 13) : ∃ s, ((cands wd).filter fun s => !decide (s ∈ us ++ resS))[0]? = some s ∧ s ∈ cands wd ∧ s ∉ us ++ resS := by
  cases hf : (cands wd).filter fun s => !decide (s ∈ us ++ resS) with
  | nil =>
    exfalso
    have h1 : ∀ x ∈ cands wd, x ∈ us ++ resS := fun x hx => by
      have := List.filter_eq_nil_iff.mp hf x hx
      by_cases c : x ∈ us ++ resS
      · exact c
      · rw [decide_eq_false c] at this
        exact (this rfl).elim
    have h2 := pig _ _ (cands_nodup wd) h1
    rw [cands_len, List.length_append] at h2
    have h3 : resS.length = 9 := rfl
    omega
  | cons s r =>
    have hm : s ∈ (cands wd).filter fun s => !decide (s ∈ us ++ resS) := by rw [hf]; exact List.mem_cons_self
    obtain ⟨h1, h2⟩ := List.mem_filter.mp hm
    exact ⟨s, rfl, h1, by simpa using h2⟩
def w7b (x : Str) : Bool := (tl x).all (fun c => decide (97 ≤ c ∧ c ≤ 122)) && decide (1 ≤ x.length ∧ x.length ≤ 7)
theorem w7_of {x : Str} (h : w7b x = true) : W7 x := by
  unfold w7b at h
  rw [Bool.and_eq_true, List.all_eq_true, decide_eq_true_eq] at h
  exact ⟨fun c hc => of_decide_eq_true (h.1 c hc), h.2⟩
theorem tenW_w7 : ∀ x ∈ tenW, W7 (cutS x none (some 7)) := by
  intro x hx
  refine w7_of ?_
  have : (tenW.all fun x => w7b (cutS x none (some 7))) = true := by decide +kernel
  exact List.all_eq_true.mp this x hx
theorem joinW (ys : List Str) (h : ∀ y ∈ ys, ∃ c, 97 ≤ c ∧ c ≤ 122 ∧ y = ⟨#[c]⟩) (h1 : 1 ≤ ys.length) (h7 : ys.length ≤ 7) : W7 (Txt.join "" ys) := by
  have key : ∀ zs : List Str, (∀ y ∈ zs, ∃ c, 97 ≤ c ∧ c ≤ 122 ∧ y = ⟨#[c]⟩) → (joinL [] (zs.map tl)).length = zs.length ∧ ∀ c ∈ joinL [] (zs.map tl), 97 ≤ c ∧ c ≤ 122 := by
    intro zs
    induction zs with
    | nil => intro _; exact ⟨rfl, fun c hc => by cases hc⟩
    | cons z zs ih =>
      intro hz
      obtain ⟨c, c1, c2, rfl⟩ := hz z List.mem_cons_self
      obtain ⟨i1, i2⟩ := ih fun y hy => hz y (List.mem_cons_of_mem _ hy)
      cases zs with
      | nil => exact ⟨rfl, fun d hd => by obtain rfl := List.mem_singleton.mp hd; exact ⟨c1, c2⟩⟩
      | cons y ys =>
        have e : joinL [] (List.map tl ((⟨#[c]⟩ : Str) :: y :: ys)) = c :: joinL [] (List.map tl (y :: ys)) := rfl
        rw [e]
        refine ⟨by rw [List.length_cons, i1]; rfl, fun d hd => ?_⟩
        rcases List.mem_cons.mp hd with rfl | hd
        · exact ⟨c1, c2⟩
        · exact i2 d hd
  obtain ⟨k1, k2⟩ := key ys h
  have e : tl (Txt.join "" ys) = joinL [] (ys.map tl) := by rw [join_eq, tl_join]; rfl
  refine ⟨fun c hc => k2 c (by rw [← e]; exact hc), ?_, ?_⟩
  · rw [len_tl, e, k1]
    exact h1
  · rw [len_tl, e, k1]
    exact h7
end Mb

set_option Elab.async false
set_option linter.all false
set_option maxRecDepth 100000
set_option maxHeartbeats 2000000
namespace Mb
open PySem PySem.Spec PyProof.Rows L2 TL
abbrev HTake (P w K mg base) := Has P w K mg base "_law_take" 1 2 (spDraw K 1 1 preTake postTake)
abbrev HOf (P w K mg base) := Has P w K mg base "_law_of" 2 2 (spDraw K 1 1 preOf postOf)
abbrev HSome (P w K mg base) := Has P w K mg base "_law_some" 2 3 (spDraw K 20 2 preSome postSome)
def preName : List Dt → Prop := fun ds => ∃ us : List Str, ds = [.list (ofS us)] ∧ us.length ≤ 13
def postName : List Dt → Dt → Prop := fun ds d => ∃ (us : List Str) (s : Str), ds = [.list (ofS us)] ∧ d = .str s ∧ Nm s ∧ s ∉ us ∧ s ∉ resS
theorem ofS_inj {a b : List Str} (h : ofS a = ofS b) : a = b := by
  induction a generalizing b with
  | nil => cases b with
    | nil => rfl
    | cons _ _ => cases h
  | cons x xs ih => cases b with
    | nil => cases h
    | cons y ys =>
      injection h with h1 h2
      injection h1 with h3
      rw [h3, ih h2]
theorem ofI_inj {a b : List Int} (h : ofI a = ofI b) : a = b := by
  induction a generalizing b with
  | nil => cases b with
    | nil => rfl
    | cons _ _ => cases h
  | cons x xs ih => cases b with
    | nil => cases h
    | cons y ys =>
      injection h with h1 h2
      injection h1 with h3
      rw [h3, ih h2]
section
variable {P : Program} {w : World} {K : PySem.W.Frag} {mg : Str → Option Value} {base : Heap}
theorem scName : FnScope ["pot", "used", "signs", "word", "barred", "some", "one", "lap", "sign"] ["pot", "used"] (defScope sName) := ⟨rfl, rfl, rfl, by decide +kernel, rfl, by decide +kernel, by decide +kernel⟩
theorem has_name (T : Top1 K mg "_law_name" sName ["pot", "used"]) (B : Blt mg) (hT : HTake P w K mg base) (hO : HOf P w K mg base) : Has P w K mg base "_law_name" 3 2 (spDraw K 10 1 preName postName) := by
  refine mkHas (k := 2) T scName spDraw_len fun f cdv A outer s H vs Q E hr h => ?_
  obtain ⟨a, ws, G, ds, c, rfl, hl, g, ga, hP, hc, hds, ⟨us, rfl, hu⟩, k⟩ := h
  cases hds with
  | cons hd hn =>
    cases hn
    rename_i v
    obtain ⟨oa, hoa⟩ := hP.some
    -- behind the word
    have tail : ∀ (wd : Str) (G1 H1 : Hp) (u5 u6 u7 u8 u9 : Option V), W7 wd → Step [a] G H G1 H1 → PotAt H1 a (c + 10) →
        eB (cxOf CX0 P w K mg base ["pot", "used", "signs", "word", "barred", "some", "one", "lap", "sign"] "_law_name" (defScope sName) f cdv A outer s H E).nox ((defBody sName).drop 3) { nx := fun _ H' => Q .non H', rt := Q }
          [some (.ref a), some v, some (.str abc), some (.str wd), u5, u6, u7, u8, u9] H1 := by
      intro wd G1 H1 u5 u6 u7 u8 u9 hw st hP1
      refine b_cons (s_set 4 scName.nd (w_pu ((pu_cat (pu_listL (pu_var 1 rfl (hd.mono st.g)) B.list) (pu_lst (pua_cons pu_str (pua_cons pu_str (pua_cons pu_str (pua_cons pu_str (pua_cons pu_str (pua_cons pu_str (pua_cons pu_str (pua_cons pu_str (pua_cons pu_str pua_nil))))))))) (by decide)) ?z1).to (d1 := .list (ofS (us ++ resS))) ?z2) st.s fun vb G2 H2 s2 hb => ?_))
      case z1 =>
        simp only [ofS, List.length_map, List.length_cons, List.length_nil]
        exact Nat.le_trans (Nat.add_le_add_right hu _) (by decide)
      case z2 => simp [ofS, resS]
      refine b_cons (s_setP 5 6 (lc1 6 (cd := PyData.str) (ns := cands wd) (src_list ((pu_cat (pu_lst (pua_cons (pu_var 3 rfl (.str wd)) pua_nil)) (pu_lc1 8 (cd := fun c => .str ⟨#[c]⟩) (ns := tl abc) (src_str (pu_var 2 rfl (.str abc))) (fun c => .str (wd ++ ⟨#[c]⟩)) (fun _ => true) scName.nd
          (fun _ _ _ _ _ _ _ _ _ _ _ => puts_nil) (fun n hn _ v G3 g3 hv _ _ _ _ _ => pu_adds (pu_var 3 rfl (.str wd)) (pu_var 8 rfl hv) ?y1) (by rw [tl_abc]; decide)) ?y2).to ?y3)) PyData.str (fun s => !decide (s ∈ us ++ resS)) scName.nd
          (fun n hn v G3 g3 hv _ _ _ _ _ => puts_one (put_c (c_ninS (pu_var 6 rfl hv) (pu_var 4 rfl (hb.mono g3))))) (fun n hn _ v G3 g3 hv _ _ _ _ _ => pu_var 6 rfl hv) (by rw [cands_len]; decide)) s2.s scName.nd fun vs G3 H3 s3 hs3 => ?_)
      case y1 => exact Nat.le_trans (Nat.add_le_add_right hw.2.2 _) (by show 7 + 1 ≤ sizeLine; decide)
      case y2 => simp [tl_abc, filter_tt]; decide
      case y3 => simp [cands, filter_tt]
      obtain ⟨nm, hn0, hn1, hn2⟩ := first_free wd us hu
      refine b_one (s_ret (w_pu (pu_ixL (i := 0) (d := .str nm) (pu_var 5 rfl hs3) pu_int (by decide) ?x1) s3.s fun v4 G4 H4 s4 hv4 => ?_))
      case x1 =>
        show (List.map PyData.str _)[0]? = _
        rw [List.getElem?_map, hn0]
        rfl
      have hn3 : nm ∉ us ∧ nm ∉ resS := by
        rw [List.mem_append] at hn2
        exact ⟨fun h => hn2 (.inl h), fun h => hn2 (.inr h)⟩
      have st2 := s2.trans (s3.trans s4)
      exact k (.str nm) v4 G4 H4 ⟨us, nm, rfl, rfl, cands_nm hw hn1, hn3.1, hn3.2⟩ (st.trans st2.pure) (hP1.step st2 (by simp)) hv4
    refine b_cons (s_set 2 scName.nd (w_str ?_))
    refine b_cons (s_set 3 scName.nd (w_m1 F.slot_str_join F.type_str_join mt_join (w_str ⟨⟨_, rfl⟩, w_lc [("lap", 7)] (blkOk_by (by kernel_rfl)) scName.nd (lc1P 7 a (c + 1) 1 scName.nd ?_)⟩)))
    refine ⟨_, pi_range1 rfl B.range pa_e, a_cons (w_bin op_add (w_int (w_draw hO hr (by decide) 0 rfl (pua_cons (pu_lst (ds := ofI [0, 0, 0, 1, 2, 6]) (pua_cons pu_int (pua_cons pu_int (pua_cons pu_int (pua_cons pu_int (pua_cons pu_int (pua_cons pu_int pua_nil)))))) (by decide)) pua_nil) g ga hP (by omega) (.inl ⟨_, rfl, by decide, by decide⟩) fun d v1 G1 H1 hp s1 hP1 hv1 => ?_)))⟩
    obtain ⟨r, rfl, r0, r6⟩ : ∃ r : Int, d = .int r ∧ 0 ≤ r ∧ r ≤ 6 := by
      rcases hp with ⟨xs, e, hm⟩ | ⟨_, _, e, _⟩
      · injection e with e
        injection e with e
        subst e
        simp only [ofI, List.map_cons, List.map_nil, List.mem_cons, List.not_mem_nil, or_false] at hm
        rcases hm with h | h | h | h | h | h <;> exact ⟨_, h, by decide, by decide⟩
      · cases e
    obtain rfl := hv1.int_inv
    refine ⟨1, r, rfl, rfl, a_nil ⟨1 + r, rfl, by omega, by omega, G1, rangeD 0 (1 + r).toNat, fun i acc => i ≤ 7 ∧ ∃ ys : List Str, acc = ofS ys ∧ ys.length = i ∧ ∀ y ∈ ys, ∃ c, 97 ≤ c ∧ c ≤ 122 ∧ y = ⟨#[c]⟩, s1.s, walks_range, s1.out ga hoa, hP1, ⟨by omega, [], rfl, rfl, by simp⟩, ?_, ?_, ?_⟩⟩
    · rintro i acc ⟨hi, ys, rfl, hy, _⟩
      simp [ofS]
      omega
    · intro i d x G2 H2 acc hd g2 s2 ga2 hP2 hR hx s0 H0 C cl fp Q q
      obtain ⟨hi, _⟩ := rangeD_get hd
      obtain ⟨hi7, ys, rfl, hyl, hy⟩ := hR
      refine w_draw hO hr (by decide) 0 rfl (pua_cons (pu_var 2 rfl (.str abc)) pua_nil) s2 ga2 hP2 (by omega) (.inr ⟨abc, rfl, by decide +kernel, by decide +kernel⟩) fun d' v' G4 H4 hp s4 hP4 hv' => ?_
      obtain ⟨cc, rfl, hcc⟩ : ∃ cc, d' = .str ⟨#[cc]⟩ ∧ cc ∈ tl abc := by
        rcases hp with ⟨xs, e, hm⟩ | ⟨x', cc, e, rfl, hm⟩
        · cases e
        · injection e with e
          injection e with e
          subst e
          exact ⟨cc, rfl, hm⟩
      refine q v' _ G4 H4 s4 hv' (by rw [show c + 1 + (i + 1) * 1 = c + 1 + i * 1 + 1 by omega]; exact hP4) ⟨by omega, ys ++ [⟨#[cc]⟩], by simp [ofS], by simp [hyl], fun y hy' => ?_⟩
      rcases List.mem_append.mp hy' with h | h
      · exact hy y h
      · obtain rfl := List.mem_singleton.mp h
        rw [tl_abc] at hcc
        simp only [List.mem_cons, List.not_mem_nil, or_false] at hcc
        exact ⟨cc, by omega, by omega, rfl⟩
    · intro v2 G2 H2 acc s2 hv2 hR hP2
      obtain ⟨hi7, ys, rfl, hyl, hy⟩ := hR
      obtain ⟨l, vs, rfl, h1, h2⟩ := hv2.lst_inv
      rw [rangeD_len] at hyl hP2
      have w1 : W7 (Txt.join "" ys) := joinW ys hy (by omega) (by omega)
      refine ⟨"", l, ys, rfl, rfl, .inl (by rw [← h2.strs]; exact SqL.of (s2.s _ _ h1)), ?_, ?_⟩
      · have : (ys.map (·.length)).sum = ys.length := by
          clear h2 w1 hyl hv2
          induction ys with
          | nil => rfl
          | cons z zs ih =>
            obtain ⟨c, _, _, rfl⟩ := hy _ List.mem_cons_self
            rw [List.map_cons, List.sum_cons, ih (fun y h => hy y (List.mem_cons_of_mem _ h)), List.length_cons]
            show 1 + zs.length = _
            omega
        rw [this]
        show ys.length + ys.length * 0 ≤ 16777216
        omega
      · have st1 := s1.trans s2
        have ga2 := st1.out ga hoa
        refine b_cons (s_if (t_cmp op_eq (w_take hT hr (by decide) 0 rfl (u := 6) pu_int s2.s ga2 s2.s ga2 hP2 (by omega) (by decide) (by decide) fun t H3 t0 t6 s3 hP3 => w_int ⟨rfl, _, rfl, ?_⟩)))
        refine ite2 (fun _ => ?_) (fun _ => ?_)
        · refine b_one (s_set 3 scName.nd (w_slice sl_str (w_draw hO hr (by decide) 0 rfl (pua_cons (pu_lst (ds := ofS tenW) (pua_cons pu_str (pua_cons pu_str (pua_cons pu_str (pua_cons pu_str (pua_cons pu_str (pua_cons pu_str (pua_cons pu_str (pua_cons pu_str (pua_cons pu_str (pua_cons pu_str pua_nil)))))))))) (by decide)) pua_nil) s3.s (s3.out ga2 hP2.some.choose_spec) hP3 (by omega) (.inl ⟨_, rfl, by decide, by decide⟩) fun d' v' G4 H4 hp s4 hP4 hv' => o_none (o_some (w_int ⟨7, rfl, ?_⟩)))))
          obtain ⟨x, rfl, hx⟩ : ∃ x, d' = .str x ∧ x ∈ tenW := by
            rcases hp with ⟨xs, e, hm⟩ | ⟨_, _, e, _⟩
            · injection e with e
              injection e with e
              subst e
              obtain ⟨x, hx, rfl⟩ := List.mem_map.mp hm
              exact ⟨x, rfl, hx⟩
            · cases e
          obtain rfl := hv'.str_inv
          refine ⟨x, rfl, ?_, tail _ G4 H4 _ _ _ _ _ (tenW_w7 x hx) (st1.trans (s3.trans s4)) (hP4.up (by omega))⟩
          have : x.length ≤ 5 := by
            have h : (tenW.all fun x => decide (x.length ≤ 5)) = true := by decide +kernel
            exact of_decide_eq_true (List.all_eq_true.mp h x hx)
          exact Nat.le_trans this (by decide)
        · exact b_nil (tail _ G2 H3 _ _ _ _ _ w1 (st1.trans s3) (hP3.up (by omega)))
end
end Mb

set_option Elab.async false
set_option linter.all false
set_option maxRecDepth 100000
set_option maxHeartbeats 2000000
namespace Mb
open PySem PySem.Spec PyProof.Rows L2 TL
abbrev HName (P w K mg base) := Has P w K mg base "_law_name" 3 2 (spDraw K 10 1 preName postName)
def preNames : List Dt → Prop := fun ds => ∃ (m : Nat) (us : List Str), ds = [.int m, .list (ofS us)] ∧ m ≤ 8 ∧ us.length ≤ 5
def postNames : List Dt → Dt → Prop := fun ds d => ∃ (m : Nat) (us ys : List Str), ds = [.int m, .list (ofS us)] ∧ d = .list (ofS ys) ∧ ys.length = m ∧ ys.Nodup ∧ ∀ y ∈ ys, Nm y ∧ y ∉ us ∧ y ∉ resS
section
variable {P : Program} {w : World} {K : PySem.W.Frag} {mg : Str → Option Value} {base : Heap}
theorem scNames : FnScope ["pot", "many", "used", "found", "lap"] ["pot", "many", "used"] (defScope sNames) := ⟨rfl, rfl, rfl, by decide +kernel, rfl, by decide +kernel, by decide +kernel⟩
theorem Same.updO {G H : Hp} {l : Addr} {o : HO} (g : Same G H) (h : H l = some o) : Same (upd G l o) H := fun b u e => by
  by_cases hb : b = l
  · subst hb
    rw [upd_same] at e
    rw [h]
    exact e
  · rw [upd_ne hb] at e
    exact g b u e
theorem has_names (T : Top1 K mg "_law_names" sNames ["pot", "many", "used"]) (B : Blt mg) (hN : HName P w K mg base) : Has P w K mg base "_law_names" 4 3 (spDraw K 80 2 preNames postNames) := by
  refine mkHas (k := 3) T scNames spDraw_len fun f cdv A outer s H vs Q E hr h => ?_
  obtain ⟨a, ws, G, ds, c, rfl, hl, g, ga, hP, hc, hds, ⟨m, us, rfl, hm, hu⟩, k⟩ := h
  cases hds with
  | cons hd hn =>
  cases hn with
  | cons hd2 hn =>
    cases hn
    obtain rfl := hd.int_inv
    rename_i v
    obtain ⟨oa, hoa⟩ := hP.some
    refine b_cons (s_set 3 scNames.nd (w_emptyM fun l hl0 => ?_))
    have nal : a ≠ l := ne_of_none hoa hl0
    have gl : G l = none := g.free hl0
    refine b_cons (s_forD (src_range (n := m) (pu_var 1 rfl (.int _)) (by omega) (by omega) B.range) (Step.allocM (A := [a, l]) g hl0).s fun G1 H1 s1 => ⟨fun i σ H' => ∃ (G3 : Hp) (vs : List V) (ys : List Str) (u : Option V), σ = [some (.ref a), some (.int m), some v, some (.ref l), u] ∧ Same G1 G3 ∧ Step [a, l] G H G3 H' ∧
        PotAt H' a (c + i * 10) ∧ H' l = some (.lst vs) ∧ G3 l = none ∧ G3 a = none ∧ Das K G3 vs (ofS ys) ∧ ys.length = i ∧ i ≤ 8 ∧ ys.Nodup ∧ ∀ y ∈ ys, Nm y ∧ y ∉ us ∧ y ∉ resS, ?_, ?_, ?_, ?_⟩)
    · exact ⟨G1, [], [], none, rfl, Same.refl G1, (Step.allocM g hl0).trans s1.pure, by simpa using (hP.of (upd_ne nal)).step s1 (by simp), s1.keep upd_same (by simp), s1.out gl upd_same, s1.out ga (by rw [upd_ne nal]; exact hoa), .nil, rfl, by omega, List.nodup_nil, by simp⟩
    · rintro i σ H' ⟨G3, vs, ys, u, rfl, sg, st, _⟩
      exact sg.trans st.s
    · rintro i d x σ H' H3 hi ⟨G3, vs, ys, u, rfl, sg, st, hP3, hl3, gl3, ga3, hds, hyl, hi8, hnd, hys⟩ hw
      obtain ⟨him, rfl⟩ := rangeD_get hi
      have him' : i < m := him
      obtain ⟨G4, s4, hx4⟩ := hw G3 sg st.s
      obtain rfl := hx4.int_inv
      have hl4 := s4.keep hl3 (by simp)
      have gl4 := s4.out gl3 hl3
      have ga4 := s4.out ga3 hP3.some.choose_spec
      refine g_name 4 scNames.nd (b_one (s_expr (w_append 3 rfl hl4 ?_)))
      refine w_draw (G := upd G4 l (.lst vs)) (ds := [.list (ofS (ys ++ us))]) hN hr (by decide) 0 rfl (pua_cons ((pu_cat (pu_var 3 rfl (.lst upd_same ((hds.mono s4.g).mono (Same.toUpd gl4)))) (pu_listL (pu_var 2 rfl (hd2.mono ((st.g.trans s4.g).trans (Same.toUpd gl4)))) B.list) ?z1).to (by simp [ofS])) pua_nil)
        (Same.updO s4.s hl4) (by rw [upd_ne nal]; exact ga4) (hP3.step s4 (by simp)) (by omega) ⟨ys ++ us, rfl, by simp; omega⟩ fun d' v' G5 H5 hp s5 hP5 hv' => a_nil ?_
      case z1 =>
        simp only [ofS, List.length_map]
        exact Nat.le_trans (show ys.length + us.length ≤ 13 by omega) (by decide)
      obtain ⟨us', y, e, rfl, hy1, hy2, hy3⟩ := hp
      obtain rfl : ys ++ us = us' := by
        injection e with e
        injection e with e
        exact ofS_inj e
      obtain rfl := hv'.str_inv
      have s5' : Step [a] G4 H3 G4 H5 := s5.reG s4.s (by intro x hx; rw [List.mem_singleton.mp hx]; exact ga4)
      have hl5 := s5'.keep hl4 (by simp; exact fun e => nal e.symm)
      have hvl := hds.length
      simp only [ofS, List.length_map] at hvl
      refine rAppend_q hl5 (by omega) ?_
      rw [List.mem_append] at hy2
      refine ⟨G4, vs ++ [.str y], ys ++ [y], _, rfl, sg.trans s4.g, (st.trans (s4.pure.trans (s5'.weak (by simp)))).trans (Step.mut s5'.s gl4 hl5 (by simp)), ?_, upd_same, gl4, ga4, ?_, by simp [hyl], by omega, ?_, ?_⟩
      · rw [show c + (i + 1) * 10 = c + i * 10 + 10 by omega]
        exact hP5.of (upd_ne nal)
      · rw [show ofS (ys ++ [y]) = ofS ys ++ [.str y] by simp [ofS]]
        exact (hds.mono s4.g).snoc (.str y)
      · rw [List.nodup_append]
        exact ⟨hnd, by simp, fun a ha b hb => by
          rw [List.mem_singleton] at hb
          subst hb
          exact fun e => hy2 (.inl (e ▸ ha))⟩
      · intro z hz
        rcases List.mem_append.mp hz with h | h
        · exact hys z h
        · rw [List.mem_singleton] at h
          subst h
          exact ⟨hy1, fun h => hy2 (.inr h), hy3⟩
    · rintro σ H' ⟨G3, vs, ys, u, rfl, sg, st, hP3, hl3, gl3, ga3, hds, hyl, hi8, hnd, hys⟩
      rw [rangeD_len] at hP3 hyl hi8
      have st' : Step [a] G H G3 H' := (st.weak (B := [l, a]) (by simp)).drop hl0
      exact b_one (s_ret (w_var 3 rfl (k (.list (ofS ys)) _ (upd G3 l (.lst vs)) H' ⟨m, us, ys, rfl, rfl, by simpa using hyl, hnd, hys⟩ (st'.freeze hl0 hl3 gl3) (hP3.up (by omega)) (.lst upd_same (hds.mono (Same.toUpd gl3))))))
end

/-! ### _law_others -/
abbrev HNames (P w K mg base) := Has P w K mg base "_law_names" 4 3 (spDraw K 80 2 preNames postNames)
/-- some hands: unlike, in the range -/
def Hands (m : Int) (cs : List Int) : Prop := cs.Nodup ∧ ∀ x ∈ cs, 0 ≤ x ∧ x < m
def preOthers : List Dt → Prop := fun ds => ∃ (m : Int) (bs : List Int) (t : Int), ds = [.int m, .list (ofI bs), .int t] ∧ 0 ≤ m ∧ m ≤ 5 ∧ bs.length ≤ 5 ∧ 1 ≤ t ∧ t ≤ 5
def postOthers : List Dt → Dt → Prop := fun ds d => ∃ (m : Int) (bs : List Int) (t : Int) (cs : List Int), ds = [.int m, .list (ofI bs), .int t] ∧ d = .list (ofI cs) ∧ Hands m cs ∧ (∀ x ∈ cs, x ∉ bs) ∧ cs.length ≤ t ∧ ((∃ x, 0 ≤ x ∧ x < m ∧ x ∉ bs) → 1 ≤ cs.length)
theorem perm_ints {ys zs : List Dt} {ns : List Int} (h : (ys ++ zs).Perm (ofI ns)) : ∃ cs rs, ys = ofI cs ∧ zs = ofI rs ∧ (cs ++ rs).Perm ns := by
  have key : ∀ l : List Dt, (∀ d ∈ l, ∃ i, d = .int i) → ∃ cs, l = ofI cs := by
    intro l
    induction l with
    | nil => intro _; exact ⟨[], rfl⟩
    | cons d l ih =>
      intro hd
      obtain ⟨i, rfl⟩ := hd d List.mem_cons_self
      obtain ⟨cs, rfl⟩ := ih fun e he => hd e (List.mem_cons_of_mem _ he)
      exact ⟨i :: cs, rfl⟩
  have hall : ∀ d ∈ ys ++ zs, ∃ i, d = .int i := fun d hd => by
    obtain ⟨i, _, rfl⟩ := List.mem_map.mp (h.mem_iff.mp hd)
    exact ⟨i, rfl⟩
  obtain ⟨cs, rfl⟩ := key ys fun d hd => hall d (List.mem_append_left _ hd)
  obtain ⟨rs, rfl⟩ := key zs fun d hd => hall d (List.mem_append_right _ hd)
  refine ⟨cs, rs, rfl, rfl, ?_⟩
  have h2 := h.filterMap (fun d => match d with | .int i => some i | _ => none)
  have e : ∀ l : List Int, (ofI l).filterMap (fun d => match d with | .int i => some i | _ => none) = l := fun l => by
    induction l with
    | nil => rfl
    | cons x l ih => simp only [ofI, List.map_cons, List.filterMap_cons] at ih ⊢; rw [ih]
  rw [List.filterMap_append, e, e, e] at h2
  exact h2
end Mb

set_option Elab.async false
set_option linter.all false
set_option maxRecDepth 100000
set_option maxHeartbeats 2000000
namespace Mb
open PySem PySem.Spec PyProof.Rows L2 TL
def rng (n : Nat) : List Int := (List.range n).map fun (i : Nat) => (i : Int)
theorem rangeD_rng (n : Nat) : rangeD 0 n = (rng n).map PyData.int := by simp [rangeD, rng]
theorem mem_rng {n : Nat} {x : Int} : x ∈ rng n ↔ 0 ≤ x ∧ x < n := by
  unfold rng
  rw [List.mem_map]
  constructor
  · rintro ⟨i, hi, rfl⟩
    rw [List.mem_range] at hi
    omega
  · rintro ⟨h1, h2⟩
    exact ⟨x.toNat, by rw [List.mem_range]; omega, by omega⟩
theorem rng_nodup (n : Nat) : (rng n).Nodup := by
  unfold rng
  rw [List.nodup_iff_pairwise_ne, List.pairwise_map]
  refine (List.nodup_iff_pairwise_ne.mp List.nodup_range).imp fun {a b} h e => h (by omega)
theorem rng_len (n : Nat) : (rng n).length = n := by simp [rng]
section
variable {X : Cx} {σ : L2.St} {G H : Hp} {a b : Expr} {p pos : Pos} {Q : VK}
theorem w_min (hm : X.mg "min" = none) (q : eA X [a, b] σ H fun vs H1 => ∃ i j, vs = [.int i, .int j] ∧ Q (.int (if j < i then j else i)) H1) (hc : X.calm = true := by rfl) (hg : Gl X "min" := by rfl)
    (he : starEach [a, b] X.env = (false, eval a X.env) :: starEach [b] X.env := by rfl) (hpl : (backTo pos (starEach [b] X.env)).any (·.1) = false := by rfl) : eE X (.Call (.Name "min" p) [a, b] [] pos) σ H Q :=
  w_callB (call_min2 hc) hm (by decide +kernel) q hg (by decide) (by decide) he hpl
end
section
variable {P : Program} {w : World} {K : PySem.W.Frag} {mg : Str → Option Value} {base : Heap}
theorem scOthers : FnScope ["pot", "many", "barred", "most", "some", "hand"] ["pot", "many", "barred", "most"] (defScope sOthers) := ⟨rfl, rfl, rfl, by decide +kernel, rfl, by decide +kernel, by decide +kernel⟩
theorem has_others (T : Top1 K mg "_law_others" sOthers ["pot", "many", "barred", "most"]) (B : Blt mg) (hT : HTake P w K mg base) (hS : HSome P w K mg base) : Has P w K mg base "_law_others" 3 4 (spDraw K 21 3 preOthers postOthers) := by
  refine mkHas (k := 2) T scOthers spDraw_len fun f cdv A outer s H vs Q E hr h => ?_
  obtain ⟨a, ws, G, ds, c, rfl, hl, g, ga, hP, hc, hds, ⟨m, bs, t, rfl, hm0, hm5, hb, ht1, ht5⟩, k⟩ := h
  cases hds with
  | cons hd hn =>
  cases hn with
  | cons hd2 hn =>
  cases hn with
  | cons hd3 hn =>
    cases hn
    obtain rfl := hd.int_inv
    obtain rfl := hd3.int_inv
    rename_i v
    obtain ⟨oa, hoa⟩ := hP.some
    have hrl : (rng m.toNat).length ≤ 5 := by rw [rng_len]; omega
    refine b_cons (s_setP 4 5 (lc1 5 (cd := PyData.int) (ns := rng m.toNat) (by rw [← rangeD_rng]; exact src_range (pu_var 1 rfl (.int _)) (by omega) (by omega) B.range) PyData.int (fun x => !decide (x ∈ bs)) scOthers.nd
      (fun n hn v G3 g3 hv _ _ _ _ _ => puts_one (put_c (c_ninI (pu_var 5 rfl hv) (pu_var 2 rfl (hd2.mono g3))))) (fun n hn _ v G3 g3 hv _ _ _ _ _ => pu_var 5 rfl hv) (by omega)) g scOthers.nd fun v4 G1 H1 s1 hv4 => ?_)
    generalize hhs : (rng m.toNat).filter (fun x => !decide (x ∈ bs)) = hs at hv4
    have hs5 : hs.length ≤ 5 := by rw [← hhs]; exact Nat.le_trans (List.length_filter_le _ _) hrl
    have mem_hs : ∀ x, x ∈ hs ↔ (0 ≤ x ∧ x < m) ∧ x ∉ bs := fun x => by
      rw [← hhs, List.mem_filter, mem_rng]
      constructor
      · rintro ⟨h1, h2⟩
        refine ⟨by omega, fun h => ?_⟩
        rw [decide_eq_true h] at h2
        cases h2
      · rintro ⟨h1, h2⟩
        exact ⟨by omega, by rw [decide_eq_false h2]; rfl⟩
    have hs_nd : hs.Nodup := by rw [← hhs]; exact (rng_nodup _).filter _
    have ga1 := s1.out ga hoa
    refine b_one (s_ret (w_call hS hr (by decide) (a_cons (w_var 0 rfl (a_cons (w_var 4 rfl (a_cons (w_min B.min (a_cons (w_pu (pu_lenL (pu_var 4 rfl hv4) B.len) s1.s fun v5 G2 H2 s2 hv5 => a_cons (w_bin op_add (w_int (w_take hT hr (by decide) 0 rfl (u := t) (pu_var 3 rfl (.int _)) s2.s (s2.out ga1 (s1.keep hoa (by simp))) s2.s (s2.out ga1 (s1.keep hoa (by simp))) ((hP.step s1 (by simp)).step s2 (by simp)) (by omega) (by omega) (by omega)
      fun r H3 r0 r1 s3 hP3 => ⟨1, r, rfl, rfl, a_nil ⟨hs.length, 1 + r, by rw [hv5.int_inv, List.length_map], a_nil ?_⟩⟩)))))))))))))
    obtain ⟨n, hn, hn1, hn2, hn3⟩ : ∃ n : Nat, (if 1 + r < (hs.length : Int) then 1 + r else (hs.length : Int)) = n ∧ n ≤ hs.length ∧ n ≤ t ∧ (1 ≤ hs.length → 1 ≤ n) := by
      by_cases h : 1 + r < (hs.length : Int)
      · exact ⟨(1 + r).toNat, by rw [if_pos h]; omega, by omega, by omega, by omega⟩
      · exact ⟨hs.length, by rw [if_neg h], by omega, by omega, by omega⟩
    rw [hn]
    have st : Step [a] G H G2 H3 := s1.pure.trans (s2.pure.trans s3)
    refine ⟨a, [v4, .int n], G2, [.list (ofI hs), .int n], c + 1, rfl, rfl, s3.s, st.out ga hoa, hP3, by omega, .cons (hv4.mono s2.g) (.one (.int _)), ⟨ofI hs, n, rfl, by simpa [ofI] using hn1, by simp [ofI]; omega⟩, fun d v6 G4 H4 hp s4 hP4 hv6 => ?_⟩
    obtain ⟨xs, m', ys, zs, e, rfl, hyl, hpm⟩ := hp
    obtain ⟨rfl, rfl⟩ : ofI hs = xs ∧ n = m' := by
      injection e with e1 e2
      injection e2 with e2
      injection e1 with e1
      injection e2 with e2
      exact ⟨e1, by omega⟩
    obtain ⟨cs, rs, rfl, rfl, hpm'⟩ := perm_ints hpm
    have hmem : ∀ x ∈ cs, x ∈ hs := fun x hx => hpm'.mem_iff.mp (List.mem_append_left _ hx)
    have hcl : cs.length = n := by simpa [ofI] using hyl
    refine k (.list (ofI cs)) v6 G4 H4 ⟨m, bs, t, cs, rfl, rfl, ⟨(List.nodup_append.mp ((hpm'.nodup_iff).mpr hs_nd)).1, fun x hx => ((mem_hs x).mp (hmem x hx)).1⟩, fun x hx => ((mem_hs x).mp (hmem x hx)).2, by omega, ?_⟩ (st.trans s4) (hP4.up (by omega)) hv6
    rintro ⟨x, x0, x1, x2⟩
    have : x ∈ hs := (mem_hs x).mpr ⟨⟨x0, x1⟩, x2⟩
    have := List.length_pos_of_mem this
    omega
end
end Mb

set_option Elab.async false
set_option linter.all false
set_option maxRecDepth 100000
set_option maxHeartbeats 2000000
namespace Mb
open PySem PySem.Spec PyProof.Rows L2 TL
/-- lists of hands, as tuples -/
def shD (cs : List (List Int)) : List Dt := cs.map fun c => .tuple (ofI c)
def Comers (m : Int) (c : List Int) : Prop := Hands m c ∧ 1 ≤ c.length ∧ c.length ≤ 3
def preShape : List Dt → Prop := fun ds => ∃ m : Nat, ds = [.int m] ∧ 2 ≤ m ∧ m ≤ 5
def postShape : List Dt → Dt → Prop := fun ds d => ∃ (m : Nat) (cs : List (List Int)), ds = [.int m] ∧ d = .list (shD cs) ∧ 1 ≤ cs.length ∧ cs.length ≤ 8 ∧ ∀ c ∈ cs, Comers m c
section
variable {P : Program} {w : World} {K : PySem.W.Frag} {mg : Str → Option Value} {base : Heap}
def rngF (lo : Int) (n : Nat) : List Int := (List.range n).map fun (i : Nat) => lo + (i : Int)
theorem rangeD_rngF (lo : Int) (n : Nat) : rangeD lo n = (rngF lo n).map PyData.int := by simp [rangeD, rngF]
theorem mem_rngF {lo : Int} {n : Nat} {x : Int} : x ∈ rngF lo n ↔ lo ≤ x ∧ x < lo + n := by
  unfold rngF
  rw [List.mem_map]
  constructor
  · rintro ⟨i, hi, rfl⟩
    rw [List.mem_range] at hi
    omega
  · rintro ⟨h1, h2⟩
    exact ⟨(x - lo).toNat, by rw [List.mem_range]; omega, by omega⟩
theorem rngF_len (lo : Int) (n : Nat) : (rngF lo n).length = n := by simp [rngF]
theorem shD_len (cs : List (List Int)) : (shD cs).length = cs.length := by simp [shD]
theorem shD_app (cs ds : List (List Int)) : shD (cs ++ ds) = shD cs ++ shD ds := by simp [shD]
theorem scShape : FnScope ["pot", "many", "lap", "way", "found", "size", "hand"] ["pot", "many"] (defScope sShape) := ⟨rfl, rfl, rfl, by decide +kernel, rfl, by decide +kernel, by decide +kernel⟩
theorem has_shape (T : Top1 K mg "_law_shape" sShape ["pot", "many"]) (B : Blt mg) (hT : HTake P w K mg base) (hO : HOf P w K mg base) (hS : HSome P w K mg base) : Has P w K mg base "_law_shape" 3 2 (spDraw K 100 1 preShape postShape) := by
  refine mkHas (k := 2) T scShape spDraw_len fun f cdv A outer s H vs Q E hr h => ?_
  obtain ⟨a, ws, G, ds, c, rfl, hl, g, ga, hP, hc, hds, ⟨m, rfl, hm2, hm5⟩, k⟩ := h
  cases hds with
  | cons hd hn =>
    cases hn
    obtain rfl := hd.int_inv
    obtain ⟨oa, hoa⟩ := hP.some
    -- found stands at l and holds cs
    let J : Addr → List (List Int) → Nat → Hp → Prop := fun l cs n H3 => ∃ (G3 : Hp) (vs : List V), Step [a] G H G3 H3 ∧ H3 l = some (.lst vs) ∧ G3 l = none ∧ H l = none ∧ Das K G3 vs (shD cs) ∧ PotAt H3 a (c + n) ∧ ∀ x ∈ cs, Comers m x
    -- the loop and the end
    have tail3 : ∀ (l : Addr) (cs : List (List Int)) (H3 : Hp) (way : Int) (u2 u5 u6 : Option V), J l cs 1 H3 → cs.length ≤ 5 →
        eB (cxOf CX0 P w K mg base ["pot", "many", "lap", "way", "found", "size", "hand"] "_law_shape" (defScope sShape) f cdv A outer s H E).nox ((defBody sShape).drop 4) { nx := fun _ H' => Q .non H', rt := Q }
          [some (.ref a), some (.int m), u2, some (.int way), some (.ref l), u5, u6] H3 := by
      rintro l cs H3 way u2 u5 u6 ⟨G3, vs, st, hl3, gl3, h0l, hds, hP3, hcs⟩ hlen
      have nal : a ≠ l := fun e => by rw [e, h0l] at hoa; cases hoa
      have ga3 := st.out ga hoa
      refine b_cons (s_forI ⟨_, pi_range1 rfl B.range pa_e, a_cons (w_bin op_add (w_int (w_take hT hr (by decide) 0 rfl (u := 4) pu_int st.s ga3 st.s ga3 hP3 (by omega) (by decide) (by decide) fun r H4 r0 r4 s4 hP4 => ⟨1, r, rfl, rfl, a_nil ⟨1 + r, rfl, by omega, by omega, ?_⟩⟩)))⟩)
      refine ⟨G3, rangeD 0 (1 + r).toNat, fun i σ H' => ∃ (cs' : List (List Int)) (v2 v5 : Option V), σ = [some (.ref a), some (.int m), v2, some (.int way), some (.ref l), v5, u6] ∧ cs'.length = cs.length + i ∧ i ≤ 4 ∧ ∃ (G4 : Hp) (vs : List V), Same G3 G4 ∧ Step [a] G H G4 H' ∧ H' l = some (.lst vs) ∧ G4 l = none ∧ Das K G4 vs (shD cs') ∧ PotAt H' a (c + 2 + i * 21) ∧ ∀ x ∈ cs', Comers m x, walks_range, ?_, ?_, ?_, ?_⟩
      · exact ⟨cs, u2, u5, rfl, rfl, by omega, G3, vs, Same.refl G3, st.trans s4, s4.keep hl3 (by simp; exact fun e => nal e.symm), gl3, hds, by simpa using hP4, hcs⟩
      · rintro i σ H' ⟨cs', v2, v5, rfl, hl', hi4, G4, vs', sg, st', _⟩
        exact sg.trans st'.s
      · rintro i d x σ H' H5 hi ⟨cs', v2, v5, rfl, hl', hi4, G4, vs', sg, st', hl4, gl4, hds', hP5, hcs'⟩ hw
        obtain ⟨him, rfl⟩ := rangeD_get hi
        obtain ⟨G5, s5, hx5⟩ := hw G4 sg st'.s
        obtain rfl := hx5.int_inv
        have st5 := st'.trans s5.pure
        have hl5 := s5.keep hl4 (by simp)
        have gl5 := s5.out gl4 hl4
        have ga5 := st5.out ga hoa
        refine g_name 2 scShape.nd (b_cons (s_set 5 scShape.nd (w_min B.min (a_cons (w_var 1 rfl (a_cons (w_draw hO hr (by decide) 0 rfl (pua_cons (pu_lst (ds := ofI [1, 1, 2, 2, 2, 3]) (pua_cons pu_int (pua_cons pu_int (pua_cons pu_int (pua_cons pu_int (pua_cons pu_int (pua_cons pu_int pua_nil)))))) (by decide)) pua_nil) s5.s ga5 (hP5.step s5 (by simp)) (by omega) (.inl ⟨_, rfl, by decide, by decide⟩) fun d v6 G6 H6 hp s6 hP6 hv6 => a_nil ?_)))))))
        obtain ⟨z, rfl, z1, z3⟩ : ∃ z : Int, d = .int z ∧ 1 ≤ z ∧ z ≤ 3 := by
          rcases hp with ⟨xs, e, hm⟩ | ⟨_, _, e, _⟩
          · injection e with e
            injection e with e
            subst e
            simp only [ofI, List.map_cons, List.map_nil, List.mem_cons, List.not_mem_nil, or_false] at hm
            rcases hm with h | h | h | h | h | h <;> exact ⟨_, h, by decide, by decide⟩
          · cases e
        obtain rfl := hv6.int_inv
        refine ⟨m, z, rfl, ?_⟩
        obtain ⟨n, hn, n1, n3, nm⟩ : ∃ n : Nat, (if z < (m : Int) then z else (m : Int)) = n ∧ 1 ≤ n ∧ n ≤ 3 ∧ n ≤ m := by
          by_cases h : z < (m : Int)
          · exact ⟨z.toNat, by rw [if_pos h]; omega, by omega, by omega, by omega⟩
          · exact ⟨m, by rw [if_neg h], by omega, by omega, by omega⟩
        rw [hn]
        have st6 := st5.trans s6
        have hl6 := s6.keep hl5 (by simp; exact fun e => nal e.symm)
        have gl6 := s6.out gl5 hl5
        have ga6 := st6.out ga hoa
        refine b_one (s_expr (w_append 4 rfl hl6 (w_callTy call_tuple_of B.tuple (by decide +kernel) (a_cons (w_draw (ds := [.list (rangeD 0 m), .int n]) hS hr (by decide) 0 rfl (pua_cons (pu_listR (pu_var 1 rfl (.int m)) (by omega) B.list B.range) (pua_cons (pu_var 5 rfl (.int n)) pua_nil)) s6.s ga6 hP6 (by omega) ⟨rangeD 0 m, n, rfl, by rw [rangeD_len]; exact nm, by rw [rangeD_len]; omega⟩ fun d v7 G7 H7 hp s7 hP7 hv7 => a_nil ?_)))))
        obtain ⟨xs, m', ys, zs, e, rfl, hyl, hpm⟩ := hp
        obtain ⟨rfl, rfl⟩ : rangeD 0 m = xs ∧ n = m' := by
          injection e with e1 e2
          injection e2 with e2
          injection e1 with e1
          injection e2 with e2
          exact ⟨e1, by omega⟩
        rw [rangeD_rng] at hpm
        obtain ⟨cs1, rs, rfl, rfl, hpm'⟩ := perm_ints hpm
        have hcl : cs1.length = n := by simpa [ofI] using hyl
        obtain ⟨q, vs7, rfl, hq7, hd7⟩ := hv7.lst_inv
        refine ⟨q, vs7, rfl, .inl ⟨SqL.of (s7.s _ _ hq7), fun t ht => a_nil ?_⟩⟩
        have hl7 := s7.keep hl6 (by simp; exact fun e => nal e.symm)
        have gl7 := s7.out gl6 hl6
        have ntl : l ≠ t := ne_of_none hl7 ht
        have st7 := st6.trans s7
        have st8 : Step [a] G H (upd G7 t (.tup vs7)) (upd H7 t (.tup vs7)) := st7.trans (Step.alloc s7.s ht)
        have gt7 := s7.s.free ht
        have hvl := (hds'.mono (s5.g.trans (s6.g.trans s7.g))).length
        rw [shD_len] at hvl
        refine rAppend_q (xs := vs') (by rw [upd_ne ntl]; exact hl7) (by omega) ?_
        refine ⟨cs' ++ [cs1], _, _, rfl, by simp; omega, by have : i < (1 + r).toNat := him; omega, upd G7 t (.tup vs7), vs' ++ [.ref t], sg.trans (s5.g.trans (s6.g.trans (s7.g.trans (Same.toUpd gt7)))), st8.mutF h0l (by rw [upd_ne ntl]; exact gl7) (by rw [upd_ne ntl]; exact hl7), upd_same, by rw [upd_ne ntl]; exact gl7, ?_, ?_, ?_⟩
        · rw [shD_app]
          exact (hds'.mono (s5.g.trans (s6.g.trans (s7.g.trans (Same.toUpd gt7))))).append (.one (.tup (SqT.of upd_same) (hd7.mono (Same.toUpd gt7))))
        · have nat : a ≠ t := ne_of_none hP7.some.choose_spec ht
          exact (hP7.of (show (upd (upd H7 t (.tup vs7)) l (.lst (vs' ++ [.ref t]))) a = H7 a by rw [upd_ne nal, upd_ne nat])).up (by omega)
        · intro x hx
          rcases List.mem_append.mp hx with h | h
          · exact hcs' x h
          · rw [List.mem_singleton] at h
            subst h
            refine ⟨⟨(List.nodup_append.mp ((hpm'.nodup_iff).mpr (rng_nodup _))).1, fun y hy => ?_⟩, by omega, by omega⟩
            exact mem_rng.mp (hpm'.mem_iff.mp (List.mem_append_left _ hy))
      · rintro σ H' ⟨cs', v2, v5, rfl, hl', hi4, G4, vs', sg, st', hl4, gl4, hds', hP5, hcs'⟩
        rw [rangeD_len] at hl' hi4 hP5
        refine b_one (s_ret (w_pu (G := upd G4 l (.lst vs')) (pu_slL (pu_var 4 rfl (.lst upd_same (hds'.mono (Same.toUpd gl4)))) puo_none (puo_some pu_int)) (Same.updO st'.s hl4) fun v8 G8 H8 s8 hv8 => ?_))
        have e8 : cutD (shD cs') none (some 8) = shD (cs'.take 8) := by
          unfold cutD shD
          rw [List.length_map]
          have h1 : HT.sIx cs'.length 0 none = 0 := rfl
          have h2 : HT.sIx cs'.length cs'.length (some 8) = min 8 cs'.length := by unfold HT.sIx; simp
          rw [h1, h2, List.drop_zero, Nat.sub_zero, ← List.map_take]
          congr 1
          by_cases h : 8 ≤ cs'.length
          · rw [Nat.min_eq_left h]
          · rw [Nat.min_eq_right (by omega), List.take_of_length_le (Nat.le_refl _), List.take_of_length_le (by omega)]
        rw [e8] at hv8
        have hlt : (cs'.take 8).length = min 8 cs'.length := List.length_take
        exact k _ v8 G8 H8 ⟨m, cs'.take 8, rfl, rfl, by omega, by omega, fun x hx => hcs' x (List.mem_of_mem_take hx)⟩ ((st'.freeze h0l hl4 gl4).trans s8.pure) ((hP5.step s8 (by simp)).up (by omega)) hv8
    have tail2 : ∀ (l : Addr) (cs : List (List Int)) (H3 : Hp) (way : Int) (u2 u5 u6 : Option V), J l cs 1 H3 → cs.length ≤ 5 →
        eB (cxOf CX0 P w K mg base ["pot", "many", "lap", "way", "found", "size", "hand"] "_law_shape" (defScope sShape) f cdv A outer s H E).nox ((defBody sShape).drop 3) { nx := fun _ H' => Q .non H', rt := Q }
          [some (.ref a), some (.int m), u2, some (.int way), some (.ref l), u5, u6] H3 := by
      rintro l cs H3 way u2 u5 u6 hJ hlen
      obtain ⟨G3, vs, st, hl3, gl3, h0l, hds, hP3, hcs⟩ := id hJ
      refine b_cons (s_if (t_pu (put_c (c_eqI (pu_var 3 rfl (.int way)) pu_int)) st.s fun G4 H4 s4 => ?_))
      have st4 := st.trans s4.pure
      have hJ4 : J l cs 1 H4 := ⟨G4, vs, st4, s4.keep hl3 (by simp), s4.out gl3 hl3, h0l, hds.mono s4.g, hP3.step s4 (by simp), hcs⟩
      refine ite2 (fun _ => ?_) (fun _ => b_nil (tail3 l cs H4 way u2 u5 u6 hJ4 hlen))
      refine b_one (s_setPM 4 6 (lc1 6 (cd := PyData.int) (ns := rngF 1 ((m : Int) - 1).toNat) (by rw [← rangeD_rngF]; exact src_range2 pu_int (pu_var 1 rfl (.int _)) (by omega) B.range) (fun x => .tuple [.int 0, .int x]) (fun _ => true) scShape.nd
        (fun _ _ _ _ _ _ _ _ _ _ _ => puts_nil) (fun n hn _ v G3 g3 hv _ _ _ _ _ => pu_tup (pua_cons pu_int (pua_cons (pu_var 6 rfl hv) pua_nil))) (by rw [rngF_len]; omega)) st4.s scShape.nd fun l' xs G5 H5 s5 gl' h4 hl' hd' => ?_)
      rw [filter_tt] at hd'
      have e : (rngF 1 ((m : Int) - 1).toNat).map (fun x => PyData.tuple [.int 0, .int x]) = shD ((rngF 1 ((m : Int) - 1).toNat).map fun x => [0, x]) := by simp [shD, ofI]
      rw [e] at hd'
      refine tail3 l' _ H5 way u2 u5 u6 ⟨G5, xs, st4.trans s5.pure, hl', gl', st4.free h4, hd', (hP3.step s4 (by simp)).step s5 (by simp), fun x hx => ?_⟩ (by rw [List.length_map, rngF_len]; omega)
      obtain ⟨y, hy, rfl⟩ := List.mem_map.mp hx
      rw [mem_rngF] at hy
      refine ⟨⟨?_, fun z hz => ?_⟩, by simp, by simp⟩
      · rw [List.nodup_cons]
        exact ⟨fun h => by rw [List.mem_singleton] at h; omega, by simp⟩
      · simp only [List.mem_cons, List.not_mem_nil, or_false] at hz
        omega
    have tail1 : ∀ (l : Addr) (cs : List (List Int)) (H3 : Hp) (way : Int) (u2 u5 u6 : Option V), J l cs 1 H3 → cs.length ≤ 4 →
        eB (cxOf CX0 P w K mg base ["pot", "many", "lap", "way", "found", "size", "hand"] "_law_shape" (defScope sShape) f cdv A outer s H E).nox ((defBody sShape).drop 2) { nx := fun _ H' => Q .non H', rt := Q }
          [some (.ref a), some (.int m), u2, some (.int way), some (.ref l), u5, u6] H3 := by
      rintro l cs H3 way u2 u5 u6 hJ hlen
      obtain ⟨G3, vs, st, hl3, gl3, h0l, hds, hP3, hcs⟩ := id hJ
      refine b_cons (s_if (t_pu (put_w (puw_and (put_c (c_eqI (pu_var 3 rfl (.int way)) pu_int)) fun _ => puw_and1 (put_c (c_gt (pu_var 1 rfl (.int _)) pu_int)))) st.s fun G4 H4 s4 => ?_))
      have st4 := st.trans s4.pure
      have hl4 := s4.keep hl3 (by simp)
      have gl4 := s4.out gl3 hl3
      have hJ4 : J l cs 1 H4 := ⟨G4, vs, st4, hl4, gl4, h0l, hds.mono s4.g, hP3.step s4 (by simp), hcs⟩
      refine ite2 (fun hb => ?_) (fun _ => b_nil (tail2 l cs H4 way u2 u5 u6 hJ4 (by omega)))
      have hm3 : 2 < (m : Int) := by
        rw [Bool.and_eq_true] at hb
        exact of_decide_eq_true hb.2
      have nal : a ≠ l := fun e => by rw [e, h0l] at hoa; cases hoa
      refine b_one (s_expr (w_append 4 rfl hl4 (w_pu (pu_tup (pua_cons (pu_sub (pu_var 1 rfl (.int _)) pu_int) (pua_cons pu_int pua_nil))) st4.s fun v5 G5 H5 s5 hv5 => a_nil ?_)))
      have hl5 := s5.keep hl4 (by simp)
      have st5 := st4.trans s5.pure
      have hvl := hds.length
      rw [shD_len] at hvl
      refine rAppend_q hl5 (by omega) (tail2 l (cs ++ [[(m : Int) - 1, 0]]) _ way u2 u5 u6 ⟨G5, vs ++ [v5], st5.mutF h0l (s5.out gl4 hl4) hl5, upd_same, s5.out gl4 hl4, h0l, ?_, ((hP3.step s4 (by simp)).step s5 (by simp)).of (upd_ne nal), fun x hx => ?_⟩ (by simp; omega))
      · rw [shD_app]
        exact (hds.mono (s4.g.trans s5.g)).snoc hv5
      · rcases List.mem_append.mp hx with h | h
        · exact hcs x h
        · rw [List.mem_singleton] at h
          subst h
          refine ⟨⟨?_, fun z hz => ?_⟩, by simp, by simp⟩
          · rw [List.nodup_cons]
            exact ⟨fun h => by rw [List.mem_singleton] at h; omega, by simp⟩
          · simp only [List.mem_cons, List.not_mem_nil, or_false] at hz
            omega
    refine b_cons (s_par 3 4 scShape.nd (a_cons (w_take hT hr (by decide) 0 rfl (u := 5) pu_int g ga g ga hP (by omega) (by decide) (by decide) fun way H1 w0 w5 s1 hP1 => a_cons (w_emptyM fun l hl1 => a_nil ⟨_, _, rfl, ?_⟩))))
    have h0l : H l = none := s1.free hl1
    have nal : a ≠ l := fun e => by rw [e, h0l] at hoa; cases hoa
    have st2 : Step [a] G H G (upd H1 l (.lst [])) := s1.allocF hl1
    refine b_cons (s_if (t_pu (put_c (c_inIT (ns := [1, 2]) (pu_var 3 rfl (.int way)) (pu_tup (pua_cons pu_int (pua_cons pu_int pua_nil))))) st2.s fun G3 H3 s3 => ?_))
    have st3 := st2.trans s3.pure
    have hP3 : PotAt H3 a (c + 1) := (hP1.of (upd_ne nal)).step s3 (by simp)
    have hl3 := s3.keep (l := l) upd_same (by simp)
    have gl3 := s3.out (s1.s.free hl1) upd_same
    refine ite2 (fun _ => ?_) (fun _ => b_nil (tail1 l [] H3 way _ _ _ ⟨G3, [], st3, hl3, gl3, h0l, .nil, hP3, by simp⟩ (by simp)))
    refine b_one (s_setPM 4 6 (lc1 6 (cd := PyData.int) (ns := rng ((m : Int) - 1).toNat) (by rw [← rangeD_rng]; exact src_range (pu_sub (pu_var 1 rfl (.int _)) pu_int) (by omega) (by omega) B.range) (fun x => .tuple [.int x, .int (x + 1)]) (fun _ => true) scShape.nd
      (fun _ _ _ _ _ _ _ _ _ _ _ => puts_nil) (fun n hn _ v G3 g3 hv _ _ _ _ _ => pu_tup (pua_cons (pu_var 6 rfl hv) (pua_cons (pu_add (pu_var 6 rfl hv) pu_int) pua_nil))) (by rw [rng_len]; omega)) st3.s scShape.nd fun l' xs G5 H5 s5 gl' h4 hl' hd' => ?_)
    rw [filter_tt] at hd'
    have e : (rng ((m : Int) - 1).toNat).map (fun x => PyData.tuple [.int x, .int (x + 1)]) = shD ((rng ((m : Int) - 1).toNat).map fun x => [x, x + 1]) := by simp [shD, ofI]
    rw [e] at hd'
    refine tail1 l' _ H5 way _ _ _ ⟨G5, xs, st3.trans s5.pure, hl', gl', st3.free h4, hd', hP3.step s5 (by simp), fun x hx => ?_⟩ (by rw [List.length_map, rng_len]; omega)
    obtain ⟨y, hy, rfl⟩ := List.mem_map.mp hx
    rw [mem_rng] at hy
    refine ⟨⟨?_, fun z hz => ?_⟩, by simp, by simp⟩
    · rw [List.nodup_cons]
      exact ⟨fun h => by rw [List.mem_singleton] at h; omega, by simp⟩
    · simp only [List.mem_cons, List.not_mem_nil, or_false] at hz
      omega
end
end Mb

set_option Elab.async false
set_option linter.all false
set_option maxRecDepth 100000
set_option maxHeartbeats 2000000
/-! Dicts. -/
namespace Mb
open PySem PySem.Spec PyProof.Rows L2
def lookD (kds : List (Key × Dt)) (k : Key) : Option Dt := (kds.find? fun p => decide (p.1 = k)).map (·.2)
theorem Same.rd {G H : Hp} {a : Addr} {u : HO} (s : Same G H) (h : G a = some u) : Rd H a u := .inl (s _ _ h)
section
variable {X : Cx} {σ : L2.St} {G H : Hp} {a b e : Expr} {es : List Expr} {p p2 pos pos2 : Pos} {kds : List (Key × Dt)} {d : Dt}
theorem keyV (k : Key) {K : PySem.W.Frag} {G : Hp} {v : V} (h : Da K G v (keyD k)) : v = kV k := by
  cases k with
  | inl i => exact h.int_inv
  | inr x => exact h.str_inv
theorem pu_dget (k : Key) (ha : Pu X a σ G (dctD kds)) (hb : Pu X b σ G (keyD k)) (hk : lookD kds k = some d) (hu : X.A.units + 1 < cLine) (hs : NoSl b := by exact fun _ _ => rfl) : Pu X (.Subscript a b pos) σ G d := fun G1 H g s Q q => by
  refine w_dget hu (ha G1 H g s _ fun v G2 H2 s2 hd => hb G2 H2 (g.trans s2.g) s2.s _ fun w G3 H3 s3 hd3 => ?_) hs
  obtain ⟨l, kvs, rfl, h1, h2⟩ := hd.dct_inv
  rcases (h2.mono s3.g).get k with ⟨v, d', e1, e2, e3⟩ | ⟨_, e2⟩
  · have : d' = d := Option.some.inj (e2.symm.trans hk)
    subst this
    refine ⟨l, v, rfl, ?_, q v G3 H3 (s2.trans s3) e3⟩
    rw [keyV k hd3]
    exact .inl ⟨kvs, k, Rd.mono' s3.s (Rd.mono' s3.g h1), rfl, e1.symm⟩
  · have := e2.symm.trans hk
    cases this
theorem pu_din (k : Key) (ha : Pu X a σ G (keyD k)) (hb : Pu X b σ G (dctD kds)) (hu : X.A.units + 1 < cLine) (hm : behindInMarks .In b = false := by rfl) : Pu X (.Compare a [.In] [b] pos) σ G (.bool (lookD kds k).isSome) := fun G1 H g s Q q => by
  refine w_din hu (ha G1 H g s _ fun v G2 H2 s2 hd => hb G2 H2 (g.trans s2.g) s2.s _ fun w G3 H3 s3 hd3 => ?_) hm
  obtain ⟨l, kvs, rfl, h1, h2⟩ := hd3.dct_inv
  rw [keyV k hd]
  refine ⟨l, valV kvs k, rfl, .inl ⟨kvs, k, Rd.mono' s3.s h1, rfl, rfl⟩, ?_⟩
  have e : (valV kvs k).isSome = (lookD kds k).isSome := by
    rcases h2.get k with ⟨v, d', e1, e2, _⟩ | ⟨e1, e2⟩
    · rw [e1, show lookD kds k = _ from e2]
      rfl
    · rw [e1, show lookD kds k = _ from e2]
      rfl
  rw [e]
  exact q _ G3 H3 (s2.trans s3) (.bl _)
theorem put_din (k : Key) (ha : Pu X a σ G (keyD k)) (hb : Pu X b σ G (dctD kds)) (hu : X.A.units + 1 < cLine) (hm : behindInMarks .In b = false := by rfl) : PuT X (.Compare a [.In] [b] pos) σ G (lookD kds k).isSome := fun G1 H g s Q q => by
  refine ⟨_, pt_cmp (pc_din hu pe_e pe_e) hm, ?_⟩
  refine ha G1 H g s _ fun v G2 H2 s2 hd => hb G2 H2 (g.trans s2.g) s2.s _ fun w G3 H3 s3 hd3 => ?_
  obtain ⟨l, kvs, rfl, h1, h2⟩ := hd3.dct_inv
  rw [keyV k hd]
  refine ⟨l, valV kvs k, rfl, .inl ⟨kvs, k, Rd.mono' s3.s h1, rfl, rfl⟩, (valV kvs k).isSome, rfl, ?_⟩
  have e : (valV kvs k).isSome = (lookD kds k).isSome := by
    rcases h2.get k with ⟨v, d', e1, e2, _⟩ | ⟨e1, e2⟩
    · rw [e1, show lookD kds k = _ from e2]
      rfl
    · rw [e1, show lookD kds k = _ from e2]
      rfl
  rw [e]
  exact q G3 H3 (s2.trans s3)
theorem mergeK_nodup : ∀ (more kvs : List (Key × V)), ((kvs ++ more).map (·.1)).Nodup → mergeK kvs more = kvs ++ more
  | [], kvs, _ => by simp [mergeK]
  | (k, v) :: more, kvs, h => by
    have hk : ∀ p ∈ kvs, p.1 ≠ k := fun p hp e => by
      rw [List.map_append, List.nodup_append] at h
      exact h.2.2 p.1 (List.mem_map_of_mem hp) k (by simp) e
    have e : putK kvs k v = kvs ++ [(k, v)] := by
      unfold putK
      rw [if_neg]
      intro hc
      obtain ⟨p, hp, he⟩ := List.any_eq_true.mp hc
      exact hk p hp (of_decide_eq_true he)
    show mergeK (putK kvs k v) more = _
    rw [e, mergeK_nodup more (kvs ++ [(k, v)]) (by simpa [List.append_assoc] using h), List.append_assoc]
    rfl
theorem rDict_q {K : PySem.W.Frag} {G H : Hp} {v : V} {Q : VK} (hv : Da K G v (.list (kds.map fun p => .tuple [keyD p.1, p.2]))) (s : Same G H) (hn : (kds.map (·.1)).Nodup) (q : ∀ z G' H', Step [] G H G' H' → Da K G' z (dctD kds) → Q z H') :
    ∃ (a : Addr) (ps : List Addr) (kvs : List (Key × V)), [v] = [V.ref a] ∧ SqL K H a (ps.map V.ref) ∧ Paired (fun p kv => SqT K H p [kV kv.1, kv.2]) ps kvs ∧ ∀ p, H p = none → Q (.ref p) (upd H p (.dK (mergeK [] kvs))) := by
  obtain ⟨l, vs, rfl, h1, h2⟩ := hv.lst_inv
  have key : ∀ (kds : List (Key × Dt)) (vs : List V), Das K G vs (kds.map fun p => .tuple [keyD p.1, p.2]) → ∃ (ps : List Addr) (kvs : List (Key × V)), vs = ps.map V.ref ∧ Paired (fun p kv => SqT K G p [kV kv.1, kv.2]) ps kvs ∧ Dks K G kvs kds := by
    intro kds
    induction kds with
    | nil => intro vs h; cases h; exact ⟨[], [], rfl, .nil, .nil⟩
    | cons kd kds ih =>
      intro vs h
      cases h with
      | cons h1 h2 =>
        obtain ⟨ps, kvs, rfl, h3, h4⟩ := ih _ h2
        obtain ⟨t, ts, rfl, h5, h6⟩ := h1.tup_inv
        obtain ⟨k, dd⟩ := kd
        cases h6 with
        | cons h7 h8 =>
          cases h8 with
          | cons h9 h10 =>
            cases h10
            rename_i v1 v2
            rw [keyV k h7] at h5
            exact ⟨t :: ps, (k, v2) :: kvs, rfl, .cons h5 h3, .cons h9 h4⟩
  obtain ⟨ps, kvs, rfl, h3, h4⟩ := key kds vs h2
  refine ⟨l, ps, kvs, rfl, SqL.of (s _ _ h1), L2.Paired.mapP h3 fun _ _ z => SqT.same s z, fun p hp => ?_⟩
  rw [mergeK_nodup kvs [] (by rw [List.nil_append, h4.keys]; exact hn), List.nil_append]
  exact q _ _ _ (Step.alloc s hp) (.dct (.inl upd_same) (h4.mono (Same.toUpd (s.free hp))))
/-- dict(pairs), the keys unlike -/
theorem pu_dict (ha : Pu X a σ G (.list (kds.map fun p => .tuple [keyD p.1, p.2]))) (hn : (kds.map (·.1)).Nodup) (hm : X.mg "dict" = none) (hc : X.calm = true := by rfl) (hg : Gl X "dict" := by rfl) (he : starEach [a] X.env = [(false, eval a X.env)] := by rfl) :
    Pu X (.Call (.Name "dict" p) [a] [] pos) σ G (dctD kds) :=
  pu_oneT (call_dictP hc) ha (fun G1 H v g s hv Q q => rDict_q hv s hn q) hm (by decide +kernel) hg (by decide) (by decide) he
/-- dict(..) of whatever makes pairs -/
theorem w_dictC {Q : VK} (q : eE X a σ H fun v H1 => ∃ G kds, Da X.K G v (.list (kds.map fun p => .tuple [keyD p.1, p.2])) ∧ Same G H1 ∧ (kds.map (·.1)).Nodup ∧ ∀ z G' H', Step [] G H1 G' H' → Da X.K G' z (dctD kds) → Q z H') (hm : X.mg "dict" = none) (hc : X.calm = true := by rfl) (hg : Gl X "dict" := by rfl) (he : starEach [a] X.env = [(false, eval a X.env)] := by rfl) :
    eE X (.Call (.Name "dict" p) [a] [] pos) σ H Q := by
  refine w_callTy (call_dictP hc) hm (by decide +kernel) (a_cons (q.mono fun v H1 h => a_nil ?_) he) hg (by decide) (by decide) he rfl
  obtain ⟨G, kds, hd, g, hn, k⟩ := h
  exact rDict_q hd g hn k
/-- the pairs of a display -/
def PuPs (X : Cx) (keys : List (Option Expr)) (vals : List Expr) (σ : L2.St) (G : Hp) (kds : List (Key × Dt)) : Prop := ∀ pos, ∃ trs, PPs X pos keys vals trs ∧ ∀ G1 H, Same G G1 → Same G1 H → ∀ Q : List (V × V) → Hp → Prop,
  (∀ kvs G' H', Step [] G1 H G' H' → Dks X.K G' kvs kds → Q (kvs.map fun kv => (kV kv.1, kv.2)) H') → tPairs trs σ H Q
theorem pups_nil : PuPs X [] [] σ G [] := fun pos => ⟨[], pps_nil, fun G1 H g s Q q => q [] G1 H (Step.refl s) .nil⟩
theorem pups_cons {ke ve : Expr} {ks : List (Option Expr)} {vs : List Expr} (k : Key) (hk : Pu X ke σ G (keyD k)) (hv : Pu X ve σ G d) (hr : PuPs X ks vs σ G kds) : PuPs X (some ke :: ks) (ve :: vs) σ G ((k, d) :: kds) := fun pos => by
  obtain ⟨trs, h1, h2⟩ := hr pos
  refine ⟨_, pps_cons pe_e pe_e h1, fun G1 H g s Q q => ?_⟩
  refine hk G1 H g s _ fun v G2 H2 s2 hd2 => hv G2 H2 (g.trans s2.g) s2.s _ fun w G3 H3 s3 hd3 => ?_
  refine h2 G3 H3 (g.trans (s2.g.trans s3.g)) s3.s _ fun kvs G4 H4 s4 hd4 => ?_
  have := q ((k, w) :: kvs) G4 H4 (s2.trans (s3.trans s4)) (.cons (hd3.mono s4.g) hd4)
  rw [keyV k hd2]
  exact this
theorem pu_disp {keys : List (Option Expr)} {vals : List Expr} (h : PuPs X keys vals σ G kds) (hn : (kds.map (·.1)).Nodup) (hall : keys.all (·.isSome) = true := by rfl) (hl : keys.length = vals.length := by rfl) (h0 : keys ≠ [] := by exact fun e => nomatch e) (h15 : keys.length ≤ 15 := by decide)
    (hk : kds.length ≤ 15 := by first | decide | (simp only [List.length_cons, List.length_nil]; decide)) : Pu X (.Dict keys vals pos) σ G (dctD kds) := fun G1 H g s Q q => by
  obtain ⟨trs, h1, h2⟩ := h pos
  refine eE.mk (pe_disp h1 hall hl h0 h15) (fun p hp => ?_)
  refine h2 G1 (upd H p (.dK [])) g (Step.allocM (A := []) s hp).s _ fun kvs G2 H2 s2 hd => ?_
  have gp := s.free hp
  have hp2 := s2.keep (l := p) upd_same (by simp)
  have gp2 := s2.out gp upd_same
  have kl : kvs.length ≤ 15 := by
    have := congrArg List.length hd.keys
    rw [List.length_map, List.length_map] at this
    omega
  refine ⟨hp2, kvs, rfl, kl, ?_⟩
  rw [mergeK_nodup kvs [] (by rw [List.nil_append, hd.keys]; exact hn), List.nil_append]
  have st : Step [] G1 H G2 H2 := (Step.allocM s hp).trans s2
  exact q _ (upd G2 p (.dK kvs)) _ ((st.mutF hp gp2 hp2).freeze hp upd_same gp2) (.dct (.inl upd_same) (hd.mono (Same.toUpd gp2)))
end
end Mb

set_option Elab.async false
set_option linter.all false
set_option maxRecDepth 100000
set_option maxHeartbeats 2000000
namespace Mb
open PySem PySem.Spec PyProof.Rows L2 TL
/-! ### drawn halls, as data -/
structure Kd where
  nm : Str
  cs : List Int
  b : Option Int
  e : Option Int
  g : Option Int
structure Own where
  names : List Str
  taken : List Int
  rights : List (Int × Int)
  kinds : List Kd
def optD : Option Int → Dt
  | .none => .none
  | .some i => .int i
def kdD (k : Kd) : Dt := .tuple [.str k.nm, .tuple (ofI k.cs), optD k.b, optD k.e, optD k.g]
def ownD (o : Own) : Dt := dctD [(.inr "names", .list (ofS o.names)), (.inr "taken", .list (ofI o.taken)), (.inr "rights", dctD (o.rights.map fun p => (.inl p.1, .int p.2))), (.inr "kinds", .list (o.kinds.map kdD))]
/-- who comes, who is begun, ended, given -/
structure RowOk (m : Int) (cs : List Int) (b e g : Option Int) : Prop where
  rc : Comers m cs
  rb : ∀ x, b = some x → 0 ≤ x ∧ x < m ∧ x ∉ cs
  re : ∀ x, e = some x → x ∈ cs ∧ 2 ≤ cs.length
  rg : ∀ x, g = some x → 0 ≤ x ∧ x < m ∧ x ∉ cs ∧ b ≠ some x
structure OwnOk (o : Own) : Prop where
  m2 : 2 ≤ o.names.length
  m5 : o.names.length ≤ 5
  nd : o.names.Nodup
  nm : ∀ x ∈ o.names, Nm x ∧ x ∉ resS
  tk : o.taken.Pairwise (· < ·)
  t0 : o.taken ≠ []
  tr : ∀ x ∈ o.taken, 0 ≤ x ∧ x < o.names.length
  rk : o.rights.map (·.1) = (rng o.names.length).filter fun x => !decide (x ∈ o.taken)
  rv : ∀ p ∈ o.rights, p.2 ∈ o.taken
  k1 : 1 ≤ o.kinds.length
  k8 : o.kinds.length ≤ 8
  kn : (o.kinds.map (·.nm)).Nodup
  kk : ∀ k ∈ o.kinds, (Nm k.nm ∧ k.nm ∉ resS) ∧ RowOk o.names.length k.cs k.b k.e k.g
def preHall : List Dt → Prop := fun ds => ds = [.int 5]
def postHall : List Dt → Dt → Prop := fun _ d => ∃ o, d = ownD o ∧ OwnOk o
theorem ownKeys : ([.inr "names", .inr "taken", .inr "rights", .inr "kinds"] : List Key).Nodup := by decide +kernel
theorem rng_sorted (n : Nat) : (rng n).Pairwise (· < ·) := by
  unfold rng
  rw [List.pairwise_map]
  exact List.pairwise_lt_range.imp fun {a b} h => by omega
theorem rng_away {j m : Nat} (h : j ≤ m) : (rng m).filter (fun x => !decide (x ∈ rng j)) = rngF j (m - j) := by
  obtain ⟨k, rfl⟩ : ∃ k, m = j + k := ⟨m - j, by omega⟩
  have e : rng (j + k) = rng j ++ rngF j k := by
    unfold rng rngF
    rw [List.range_add, List.map_append, List.map_map]
    congr 1
  rw [e, List.filter_append]
  have h1 : (rng j).filter (fun x => !decide (x ∈ rng j)) = [] := List.filter_eq_nil_iff.mpr fun x hx => by rw [decide_eq_true hx]; exact Bool.false_ne_true
  have h2 : (rngF j k).filter (fun x => !decide (x ∈ rng j)) = rngF j k := List.filter_eq_self.mpr fun x hx => by
    rw [mem_rngF] at hx
    rw [decide_eq_false (fun h => by rw [mem_rng] at h; omega)]
    rfl
  rw [h1, h2, List.nil_append, show j + k - j = k by omega]
section
variable {P : Program} {w : World} {K : PySem.W.Frag} {mg : Str → Option Value} {base : Heap}
abbrev HShape (P w K mg base) := Has P w K mg base "_law_shape" 3 2 (spDraw K 100 1 preShape postShape)
theorem scStill : FnScope ["pot", "most", "many", "comers", "names", "kinds", "rows", "taken", "rights", "name", "one", "hand"] ["pot", "most"] (defScope sStill) := ⟨rfl, rfl, rfl, by decide +kernel, rfl, by decide +kernel, by decide +kernel⟩
theorem has_still (T : Top1 K mg "_law_still" sStill ["pot", "most"]) (B : Blt mg) (hT : HTake P w K mg base) (hO : HOf P w K mg base) (hS : HSome P w K mg base) (hSh : HShape P w K mg base) (hN : HNames P w K mg base) : Has P w K mg base "_law_still" 5 2 (spDraw K 300 1 preHall postHall) := by
  refine mkHas (k := 4) T scStill spDraw_len fun f cdv A outer s H vs Q E hr h => ?_
  obtain ⟨a, ws, G, ds, c, rfl, hl, g, ga, hP, hc, hds, rfl, k⟩ := h
  cases hds with
  | cons hd hn =>
    cases hn
    obtain rfl := hd.int_inv
    obtain ⟨oa, hoa⟩ := hP.some
    have hu := hu_of hr
    -- many
    refine b_cons (s_set 2 scStill.nd (w_add (w_int (w_take hT hr (by decide) 0 rfl (u := 5 - 1) (pu_sub (pu_var 1 rfl (.int 5)) pu_int) g ga g ga hP (by omega) (by decide) (by decide) fun t0 H1 t1 t2 s1 hP1 => ⟨2, t0, rfl, rfl, ?_⟩))))
    obtain ⟨m, hm, m2, m5⟩ : ∃ m : Nat, 2 + t0 = m ∧ 2 ≤ m ∧ m ≤ 5 := ⟨(2 + t0).toNat, by omega, by omega, by omega⟩
    rw [hm]
    -- comers
    refine b_cons (s_set 3 scStill.nd (w_draw hSh hr (by decide) 0 rfl (pua_cons (pu_var 2 rfl (.int m)) pua_nil) s1.s (s1.out ga hoa) hP1 (by omega) ⟨m, rfl, m2, m5⟩ fun d2 v2 G2 H2 hp2 s2 hP2 hv2 => ?_))
    obtain ⟨m', cs, e, rfl, c1, c8, hcs⟩ := hp2
    obtain rfl : m = m' := by
      injection e with e
      injection e with e
      omega
    have st2 := s1.trans s2
    have ga2 := st2.out ga hoa
    refine b_cons (s_set 3 scStill.nd (w_draw (ds := [.list (shD cs), .int cs.length]) hS hr (by decide) 0 rfl (pua_cons (pu_var 3 rfl hv2) (pua_cons ((pu_lenL (pu_var 3 rfl hv2) B.len).to (by rw [shD_len])) pua_nil)) s2.s ga2 hP2 (by omega) ⟨shD cs, cs.length, rfl, by rw [shD_len]; exact Nat.le_refl _, by rw [shD_len]; omega⟩ fun d3 v3 G3 H3 hp3 s3 hP3 hv3 => ?_))
    obtain ⟨cs', rfl, hcs', hcl⟩ : ∃ cs' : List (List Int), d3 = .list (shD cs') ∧ (∀ x ∈ cs', Comers m x) ∧ cs'.length = cs.length := by
      obtain ⟨xs, n, ys, zs, e, rfl, hyl, hpm⟩ := hp3
      obtain ⟨rfl, rfl⟩ : shD cs = xs ∧ cs.length = n := by
        injection e with e1 e2
        injection e2 with e2
        injection e1 with e1
        injection e2 with e2
        exact ⟨e1, by omega⟩
      have hz : zs = [] := by
        have := hpm.length_eq
        rw [List.length_append, shD_len] at this
        exact List.length_eq_zero_iff.mp (by omega)
      subst hz
      rw [List.append_nil] at hpm
      have key : ∀ ys : List Dt, (∀ y ∈ ys, y ∈ shD cs) → ∃ cs' : List (List Int), ys = shD cs' ∧ ∀ x ∈ cs', x ∈ cs := by
        intro ys
        induction ys with
        | nil => intro _; exact ⟨[], rfl, by simp⟩
        | cons y ys ih =>
          intro h
          obtain ⟨cs', rfl, h2⟩ := ih fun z hz => h z (List.mem_cons_of_mem _ hz)
          obtain ⟨x, hx, rfl⟩ := List.mem_map.mp (h y List.mem_cons_self)
          refine ⟨x :: cs', rfl, fun z hz => ?_⟩
          rcases List.mem_cons.mp hz with rfl | hz
          · exact hx
          · exact h2 z hz
      obtain ⟨cs', rfl, h2⟩ := key ys fun y hy => hpm.mem_iff.mp hy
      exact ⟨cs', rfl, fun x hx => hcs x (h2 x hx), by rw [shD_len] at hyl; exact hyl⟩
    have st3 := st2.trans s3
    have ga3 := st3.out ga hoa
    -- names, kinds
    refine b_cons (s_set 4 scStill.nd (w_draw (ds := [.int m, .list (ofS [])]) hN hr (by decide) 0 rfl (pua_cons (pu_var 2 rfl (.int m)) (pua_cons (pu_lst pua_nil) pua_nil)) s3.s ga3 hP3 (by omega) ⟨m, [], rfl, by omega, by decide⟩ fun d4 v4 G4 H4 hp4 s4 hP4 hv4 => ?_))
    obtain ⟨nms, rfl, hn1, hn2, hn3⟩ : ∃ nms : List Str, d4 = .list (ofS nms) ∧ nms.length = m ∧ nms.Nodup ∧ ∀ y ∈ nms, Nm y ∧ y ∉ resS := by
      obtain ⟨m', us, ys, e, rfl, h1, h2, h3⟩ := hp4
      injection e with e1 e2
      injection e1 with e1
      exact ⟨ys, rfl, by omega, h2, fun y hy => ⟨(h3 y hy).1, (h3 y hy).2.2⟩⟩
    have st4 := st3.trans s4
    have ga4 := st4.out ga hoa
    have hv3' := hv3.mono s4.g
    refine b_cons (s_set 5 scStill.nd (w_draw (ds := [.int cs'.length, .list (ofS [])]) hN hr (by decide) 0 rfl (pua_cons ((pu_lenL (pu_var 3 rfl hv3') B.len).to (by rw [shD_len])) (pua_cons (pu_lst pua_nil) pua_nil)) s4.s ga4 hP4 (by omega) ⟨cs'.length, [], rfl, by omega, by decide⟩ fun d5 v5 G5 H5 hp5 s5 hP5 hv5 => ?_))
    obtain ⟨kns, rfl, kn1, kn2, kn3⟩ : ∃ kns : List Str, d5 = .list (ofS kns) ∧ kns.length = cs'.length ∧ kns.Nodup ∧ ∀ y ∈ kns, Nm y ∧ y ∉ resS := by
      obtain ⟨m', us, ys, e, rfl, h1, h2, h3⟩ := hp5
      injection e with e1 e2
      injection e1 with e1
      exact ⟨ys, rfl, by omega, h2, fun y hy => ⟨(h3 y hy).1, (h3 y hy).2.2⟩⟩
    have st5 := st4.trans s5
    have ga5 := st5.out ga hoa
    -- rows
    have ez : zipD (ofS kns) (shD cs') = (kns.zip cs').map fun p => .tuple [.str p.1, .tuple (ofI p.2)] := by
      unfold zipD ofS shD
      rw [List.zipWith_map_left, List.zipWith_map_right, List.zip, List.map_zipWith]
    refine b_cons (s_setPo 6 [("name", 9), ("one", 10)] (lc2 9 10 (ns := kns.zip cs') (c1 := fun p => .str p.1) (c2 := fun p => .tuple (ofI p.2)) (by rw [← ez]; exact src_zip (pu_var 5 rfl hv5) (pu_var 3 rfl (hv3'.mono s5.g)) B.zip) (fun p => kdD ⟨p.1, p.2, none, none, none⟩) (fun _ => true) scStill.nd
      (fun _ _ _ _ _ _ _ _ _ _ _ _ _ => puts_nil) (fun n hn _ v w G3 g3 hv hw _ _ _ _ _ => pu_tup (pua_cons (pu_var 9 rfl hv) (pua_cons (pu_var 10 rfl hw) (pua_cons pu_non (pua_cons pu_non (pua_cons pu_non pua_nil)))))) (by rw [List.length_zip]; omega)) s5.s scStill.nd fun v6 G6 H6 s6 hv6 => ?_)
    rw [filter_tt] at hv6
    have st6 := st5.trans s6.pure
    have ga6 := st6.out ga hoa
    have hP6 := hP5.step s6 (by simp)
    -- behind taken
    have tail : ∀ (j : Nat) (v7 : V) (G7 H7 : Hp) (u8 u9 u10 u11 : Option V), j ≤ m → m ≤ j + 1 → 1 ≤ j → Step [a] G6 H6 G7 H7 → PotAt H7 a (c + 282) → Da K G7 v7 (.list (rangeD 0 j)) →
        eB (cxOf CX0 P w K mg base ["pot", "most", "many", "comers", "names", "kinds", "rows", "taken", "rights", "name", "one", "hand"] "_law_still" (defScope sStill) f cdv A outer s H E).nox ((defBody sStill).drop 7) { nx := fun _ H' => Q .non H', rt := Q }
          [some (.ref a), some (.int 5), some (.int m), some v3, some v4, some v5, some v6, some v7, u8, u9, u10, u11] H7 := by
      intro j v7 G7 H7 u8 u9 u10 u11 hj1 hj2 hj0 s7 hP7 hv7
      have ga7 := s7.out ga6 hP6.some.choose_spec
      have ek : ∀ x : Int, rangeD 0 j = (rng j).map PyData.int := fun _ => rangeD_rng j
      refine b_cons (s_set 8 scStill.nd (w_dictC (w_lc [("hand", 11)] (blkOk_by (by kernel_rfl)) scStill.nd (lc1P 11 a (c + 282) 1 scStill.nd ((src_range2 (m := j) (n := m) ((pu_lenL (pu_var 7 rfl hv7) B.len).to (by rw [rangeD_len])) (pu_var 2 rfl (.int m)) (by omega) B.range) G7 H7 (Same.refl G7) s7.s _ fun J G8 H8 s8 hw =>
        ⟨G8, rangeD j ((m : Int) - j).toNat, fun i acc => i ≤ 1 ∧ ∃ prs : List (Int × Int), acc = (prs.map fun p => (.tuple [.int p.1, .int p.2] : Dt)) ∧ prs.map (·.1) = rngF j i ∧ ∀ p ∈ prs, p.2 ∈ rng j, s8.s, hw, s8.out ga7 hP7.some.choose_spec, hP7.step s8 (by simp), ⟨by omega, [], rfl, rfl, by simp⟩, ?r1, ?r2, ?r3⟩))) B.dict))
      case r1 =>
        rintro i acc ⟨hi, prs, rfl, hk, _⟩
        have := congrArg List.length hk
        rw [List.length_map, rngF_len] at this
        rw [List.length_map]
        omega
      case r2 =>
        intro i d x G9 H9 acc hd g9 s9 ga9 hP9 hR hx s0 H0 C cl fp Q q
        obtain ⟨hi, rfl⟩ := rangeD_get hd
        obtain ⟨hi1, prs, rfl, hk, hpr⟩ := hR
        obtain rfl := hx.int_inv
        refine w_tup (a_cons (w_var 11 rfl (a_cons (w_draw hO hr (by decide) 0 rfl (pua_cons (pu_var 7 rfl ((hv7.mono s8.g).mono g9)) pua_nil) s9 ga9 hP9 (by omega) (.inl ⟨_, rfl, by rw [rangeD_len]; omega, by rw [rangeD_len]; omega⟩) fun d' v' G10 H10 hp s10 hP10 hv' => a_nil ⟨by show 2 ≤ sizeLine; decide, fun t ht => ?_⟩))))
        obtain ⟨y, rfl, hy⟩ : ∃ y, d' = .int y ∧ y ∈ rng j := by
          rcases hp with ⟨xs, e, hm⟩ | ⟨_, _, e, _⟩
          · injection e with e
            injection e with e
            subst e
            rw [rangeD_rng] at hm
            obtain ⟨y, hy, rfl⟩ := List.mem_map.mp hm
            exact ⟨y, rfl, hy⟩
          · cases e
        refine q _ (.tuple [.int ((j : Int) + (i : Nat)), .int y]) _ _ (s10.trans (Step.alloc s10.s ht)) (.tup (SqT.of upd_same) (.cons (.int _) (.one (hv'.mono (Same.toUpd (s10.s.free ht)))))) ?_ ⟨by omega, prs ++ [((j : Int) + (i : Nat), y)], by simp, ?_, ?_⟩
        · rw [show c + 282 + (i + 1) * 1 = c + 282 + i * 1 + 1 by omega]
          exact hP10.of (upd_ne (ne_of_none hP10.some.choose_spec ht))
        · rw [List.map_append, hk]
          unfold rngF
          rw [List.range_succ, List.map_append]
          rfl
        · intro p hp
          rcases List.mem_append.mp hp with h | h
          · exact hpr p h
          · rw [List.mem_singleton] at h
            subst h
            exact hy
      case r3 =>
        intro v8 G9 H9 acc s9 hv8 hR hP9
        rw [rangeD_len] at hR hP9
        obtain ⟨hi1, prs, rfl, hk, hpr⟩ := hR
        have e8 : (prs.map fun p => (.tuple [.int p.1, .int p.2] : Dt)) = ((prs.map fun p => ((.inl p.1 : Key), (.int p.2 : Dt))).map fun p => .tuple [keyD p.1, p.2]) := by
          rw [List.map_map]
          rfl
        rw [e8] at hv8
        refine ⟨G9, _, hv8, s9.s, ?_, fun v9 G10 H10 s10 hv9 => ?_⟩
        · rw [List.map_map]
          have : ((fun x : Key × Dt => x.1) ∘ fun p : Int × Int => ((.inl p.1 : Key), (.int p.2 : Dt))) = (Sum.inl ∘ Prod.fst) := rfl
          rw [this, ← List.map_map, hk]
          unfold rngF
          rw [List.map_map, List.nodup_iff_pairwise_ne, List.pairwise_map]
          refine (List.nodup_iff_pairwise_ne.mp List.nodup_range).imp fun {x y} h e => h ?_
          have e' : (Sum.inl ((j : Int) + (x : Int)) : Key) = Sum.inl ((j : Int) + (y : Int)) := e
          injection e' with e'
          omega
        · have st : Step [a] G6 H6 G10 H10 := s7.trans (s8.pure.trans (s9.trans s10.pure))
          have gm : Same G6 G10 := st.g
          refine b_one (s_ret (w_pu ((pu_disp (pups_cons (.inr "names") pu_str (pu_var 4 rfl ((hv4.mono (s5.g.trans s6.g)).mono gm)) (pups_cons (.inr "taken") pu_str (pu_var 7 rfl (hv7.mono (s8.g.trans (s9.g.trans s10.g)))) (pups_cons (.inr "rights") pu_str (pu_var 8 rfl hv9) (pups_cons (.inr "kinds") pu_str (pu_var 6 rfl (hv6.mono gm)) pups_nil)))) ownKeys).to (d1 := ownD ⟨nms, rng j, prs, (kns.zip cs').map fun p => ⟨p.1, p.2, none, none, none⟩⟩) ?_) st.s fun v11 G11 H11 s11 hv11 => ?_))
          · unfold ownD
            rw [rangeD_rng, List.map_map]
            rfl
          · refine k _ v11 G11 H11 ⟨_, rfl, ?_⟩ (st6.trans (st.trans s11.pure)) ((hP9.step (s10.trans s11) (by simp)).up (by omega)) hv11
            have el : nms.length = m := hn1
            refine ⟨by show 2 ≤ nms.length; omega, by show nms.length ≤ 5; omega, hn2, hn3, rng_sorted j, fun h => ?_, fun x hx => ?_, ?_, hpr, ?_, ?_, ?_, ?_⟩
            · have := congrArg List.length h
              have h2 : (rng j).length = j := rng_len j
              have h3 : (rng j).length = 0 := this
              omega
            · have := mem_rng.mp hx
              show 0 ≤ x ∧ x < (nms.length : Int)
              omega
            · show prs.map (·.1) = _
              rw [hk]
              show _ = (rng nms.length).filter fun x => !decide (x ∈ rng j)
              rw [el, rng_away hj1]
              congr 1
              omega
            · simp only [List.length_map, List.length_zip]
              omega
            · simp only [List.length_map, List.length_zip]
              omega
            · show (((kns.zip cs').map fun p => (⟨p.1, p.2, none, none, none⟩ : Kd)).map (·.nm)).Nodup
              rw [List.map_map]
              have : ((fun k : Kd => k.nm) ∘ fun p : Str × List Int => (⟨p.1, p.2, none, none, none⟩ : Kd)) = Prod.fst := rfl
              rw [this, List.map_fst_zip (by omega)]
              exact kn2
            · intro kd hkd
              obtain ⟨p, hp, rfl⟩ := List.mem_map.mp hkd
              obtain ⟨hp1, hp2⟩ := List.of_mem_zip hp
              refine ⟨kn3 _ hp1, ?_, fun x h => ?_, fun x h => ?_, fun x h => ?_⟩
              · show Comers (nms.length : Int) p.2
                rw [el]
                exact hcs' _ hp2
              all_goals cases h
    refine b_cons (s_set 7 scStill.nd (w_if (t_w (t_or (t_pu (put_c (c_lt (pu_var 2 rfl (.int m)) pu_int)) st6.s fun G7 H7 s7 => ?_)))))
    refine ite2 (fun _ => iteT ?_) (fun _ => t_or1 (t_cmp op_gt (w_take hT hr (by decide) 0 rfl (u := 6) pu_int s7.s (s7.out ga6 hP6.some.choose_spec) s7.s (s7.out ga6 hP6.some.choose_spec) (hP6.step s7 (by simp)) (by omega) (by decide) (by decide) fun r H8 r0 r1 s8 hP8 => w_int ⟨r, 0, rfl, rfl, _, rfl, ?_⟩)))
    · refine w_pu (pu_listR (pu_var 2 rfl (.int m)) (by omega) B.list B.range) s7.s fun v7 G8 H8 s8 hv7 => ?_
      exact tail m v7 G8 H8 _ _ _ _ (Nat.le_refl _) (by omega) (by omega) (s7.trans s8).pure ((hP6.step (s7.trans s8) (by simp)).up (by omega)) hv7
    · refine ite2 (fun _ => ?_) (fun _ => ?_)
      · refine w_pu (pu_listR (pu_var 2 rfl (.int m)) (by omega) B.list B.range) s8.s fun v7 G9 H9 s9 hv7 => ?_
        exact tail m v7 G9 H9 _ _ _ _ (Nat.le_refl _) (by omega) (by omega) (s7.pure.trans (s8.trans s9.pure)) ((hP8.step s9 (by simp)).up (by omega)) hv7
      · refine w_pu (pu_listR (n := m - 1) ((pu_sub (pu_var 2 rfl (.int m)) pu_int).to (by congr 1; omega)) (by omega) B.list B.range) s8.s fun v7 G9 H9 s9 hv7 => ?_
        exact tail (m - 1) v7 G9 H9 _ _ _ _ (by omega) (by omega) (by omega) (s7.pure.trans (s8.trans s9.pure)) ((hP8.step s9 (by simp)).up (by omega)) hv7
end
end Mb

set_option Elab.async false
set_option linter.all false
set_option maxRecDepth 100000
set_option maxHeartbeats 2000000
/-! More: a comprehension whose source draws; == of data. -/
namespace Mb
open PySem PySem.Spec PyProof.Rows L2
section
variable {X : Cx} {σ : L2.St} {G H : Hp} {a b e tg : Expr} {es : List Expr} {p p2 pos pos2 : Pos} {d d1 d2 : Dt} {ds : List Dt} {α : Type}
/-- the source is made with changes; test and element are pure -/
theorem lc1E {elt iter : Expr} {ifs : List Expr} {scope : Scope} (k : Nat) {x : Str} {px : Pos} {Q : VK} (hN : X.N.Nodup)
    (hI : eI X (.Name x px) iter σ H fun J H1 => ∃ (G1 : Hp) (β : Type) (cd : β → Dt) (ns : List β) (f : β → Dt) (q : β → Bool), Same G1 H1 ∧ Walks X.K J G1 (ns.map cd) ∧ ns.length < 100000 ∧
      (∀ n ∈ ns, ∀ v G2, Same G1 G2 → Da X.K G2 v (cd n) → Bk X scope fun X' => PuTs X' ifs (σ.set k (some v)) G2 (q n)) ∧ (∀ n ∈ ns, q n = true → ∀ v G2, Same G1 G2 → Da X.K G2 v (cd n) → Bk X scope fun X' => Pu X' elt (σ.set k (some v)) G2 (f n)) ∧
      ∀ v G' H', Step [] G1 H1 G' H' → Da X.K G' v (.list ((ns.filter q).map f)) → Q v H') (hk : X.N[k]? = some x := by rfl) (hx : scope.names.lookup x = some .local := by rfl) : eLc X elt (.Name x px) iter ifs scope [k] σ H Q := by
  refine lcI (own := [(x, k)]) ?_
  obtain ⟨w, hw0, hI⟩ := hI
  refine ⟨fun σ H R => ∃ R' : It → Hp → Prop, w σ H R' ∧ ∀ J H', R' J H' → R J H', ⟨fun pins s σ H R I0 ⟨R', h1, h2⟩ => ?_⟩, _, hI, ?_⟩
  · refine thn (hw0.run pins s σ H R' I0 h1) fun v s1 q => thn q fun it s2 ⟨a1, a2, a3, a4, a5, a6, a7, a8, a9, a10, a11⟩ => ?_
    exact ⟨a1, a2, a3, a4, a5, a6, a7, a8, a9, a10, h2 _ _ a11⟩
  rintro J H1 ⟨G1, β, cd, ns, f, q, g1, hw, hl, ht, hel, done⟩
  refine ⟨G1, ns.map cd, [], fun _ _ => True, fun i acc => acc = ((ns.take i).filter q).map f, g1, hw, trivial, rfl, fun _ _ _ _ _ => trivial, (by simp), fun i acc e => ?_, ?_, ?_⟩
  · rw [e, List.length_map]
    refine Nat.lt_of_le_of_lt (List.length_filter_le _ _) (Nat.lt_of_le_of_lt ?_ hl)
    rw [List.length_take]
    omega
  · intro i d v G3 H3 acc hd g3 s3 _ e hv _
    rw [List.getElem?_map] at hd
    cases hn : ns[i]? with
    | none => rw [hn] at hd; cases hd
    | some n =>
      rw [hn] at hd
      obtain rfl := Option.some.inj hd
      have hmem : n ∈ ns := List.mem_of_getElem? hn
      have hstep : ns.take (i + 1) = ns.take i ++ [n] := by
        rw [List.take_add_one, hn]
        rfl
      refine ⟨(wipe σ [k]).set k (some v), wipe_set1, fun Q h s0 H0 C cl fp => ?_, q n, ?_, fun hf => ⟨?_, trivial⟩, fun htt G4 H4 s4 _ Q kk => ?_⟩
      · exact g_name (X := X.blk s0 H0 scope (compEnvC scope cl C X.env) fp) k hN h hk (Or.inl (lookup_relabel_local (env := X.env) hx)) (Or.inr (lookup_relabel_local (env := X.env) hx))
      · rw [wipe_set1']
        exact ht n hmem v G3 g3 hv
      · show acc = ((ns.take (i + 1)).filter q).map f
        rw [e, hstep, List.filter_append, List.filter_cons_of_neg (by rw [hf]; exact Bool.false_ne_true), List.filter_nil, List.append_nil]
      · intro s0 H0 C cl fp
        rw [wipe_set1']
        refine hel n hmem htt v G3 g3 hv s0 H0 C cl fp G4 H4 s4.g s4.s _ fun y G5 H5 s5 hd5 => ?_
        refine kk y _ G5 H5 s5 hd5 trivial ?_
        show acc ++ [f n] = ((ns.take (i + 1)).filter q).map f
        rw [e, hstep, List.filter_append, List.filter_cons_of_pos htt, List.filter_nil, List.map_append]
        rfl
  · intro v G' H' acc s3 hv e _
    rw [List.length_map, List.take_length] at e
    exact done v G' H' s3 (e ▸ hv)
/-- == and != of data -/
theorem c_eqD (ha : Pu X a σ G d1) (hb : Pu X b σ G d2) (h1 : nod d1 = true) (h2 : nod d2 = true) (h3 : SeqAt.shaped d1 = true) (h4 : SeqAt.shaped d2 = true) (hu : X.A.units + 64 < cLine) : PuC X .Eq a b σ G (PyData.eqv d1 d2) := ⟨_, _, _, op_eqD hu, ha, hb, fun G1 H v w g s hv hw Q q =>
  ⟨d1, d2, (Da.mono s hv).dp h1, (Da.mono s hw).dp h2, h3, h4, q _ G1 H (Step.refl s) (.bl _)⟩, by exact nomark _⟩
theorem c_neD (ha : Pu X a σ G d1) (hb : Pu X b σ G d2) (h1 : nod d1 = true) (h2 : nod d2 = true) (h3 : SeqAt.shaped d1 = true) (h4 : SeqAt.shaped d2 = true) (hu : X.A.units + 64 < cLine) : PuC X .NotEq a b σ G (!PyData.eqv d1 d2) := ⟨_, _, _, op_neD hu, ha, hb, fun G1 H v w g s hv hw Q q =>
  ⟨d1, d2, (Da.mono s hv).dp h1, (Da.mono s hw).dp h2, h3, h4, q _ G1 H (Step.refl s) (.bl _)⟩, by exact nomark _⟩
end
theorem hu64 {A : Around} {k : Nat} (hr : Room k A) : A.units + 64 < cLine := Nat.lt_of_le_of_lt (Nat.le_refl _) hr.units
end Mb

set_option Elab.async false
set_option linter.all false
set_option maxRecDepth 100000
set_option maxHeartbeats 2000000
namespace Mb
open PySem PySem.Spec PyProof.Rows L2 TL
structure Rw where
  cs : List Int
  b : Option Int
  e : Option Int
  g : Option Int
def rwD (r : Rw) : Dt := .tuple [.list (ofI r.cs), optD r.b, optD r.e, optD r.g]
def RwOk (m : Int) (r : Rw) : Prop := RowOk m r.cs r.b r.e r.g
def preMoves : List Dt → Prop := fun ds => ∃ (m : Nat) (hd kp : Int), ds = [.int m, .int hd, .int kp] ∧ 2 ≤ m ∧ m ≤ 5 ∧ 0 ≤ hd ∧ hd < m ∧ 0 ≤ kp ∧ kp < m ∧ hd ≠ kp
def postMoves : List Dt → Dt → Prop := fun ds d => ∃ (m : Nat) (hd kp : Int) (rs : List Rw), ds = [.int m, .int hd, .int kp] ∧ d = .list (rs.map rwD) ∧ 2 ≤ rs.length ∧ rs.length ≤ 5 ∧ ∀ r ∈ rs, RwOk m r
/-- the list of rows found so far -/
structure FAt (K : PySem.W.Frag) (G H : Hp) (a : Addr) (c : Nat) (m : Int) (l : Addr) (rs : List Rw) (n : Nat) (G3 : Hp) (vs : List V) (H3 : Hp) : Prop where
  st : Step [a] G H G3 H3
  hl : H3 l = some (.lst vs)
  gl : G3 l = none
  h0 : H l = none
  ds : Das K G3 vs (rs.map rwD)
  pot : PotAt H3 a (c + n)
  ok : ∀ r ∈ rs, RwOk m r
theorem FAt.len {K : PySem.W.Frag} {G H : Hp} {a : Addr} {c : Nat} {m : Int} {l : Addr} {rs : List Rw} {n : Nat} {G3 : Hp} {vs : List V} {H3 : Hp} (f : FAt K G H a c m l rs n G3 vs H3) : vs.length = rs.length := by
  have := f.ds.length
  rwa [List.length_map] at this
theorem FAt.step {K : PySem.W.Frag} {G H : Hp} {a : Addr} {c : Nat} {m : Int} {l : Addr} {rs : List Rw} {n n' : Nat} {G3 G5 : Hp} {vs : List V} {H3 H5 : Hp} (f : FAt K G H a c m l rs n G3 vs H3) (s : Step [a] G3 H3 G5 H5) (hp : PotAt H5 a (c + n')) (oa : HO) (ha : H a = some oa) : FAt K G H a c m l rs n' G5 vs H5 :=
  ⟨f.st.trans s, s.keep f.hl (fun h => by rw [List.mem_singleton] at h; rw [← h, f.h0] at ha; cases ha), s.out f.gl f.hl, f.h0, f.ds.mono s.g, hp, f.ok⟩
theorem FAt.app {K : PySem.W.Frag} {G H : Hp} {a : Addr} {c : Nat} {m : Int} {l : Addr} {rs : List Rw} {n : Nat} {G3 : Hp} {vs : List V} {H3 : Hp} (f : FAt K G H a c m l rs n G3 vs H3) (oa : HO) (ha : H a = some oa) {t : Addr} {xs : List V} (ht : H3 t = none) (r : Rw)
    (hx : Das K G3 xs [.list (ofI r.cs), optD r.b, optD r.e, optD r.g]) (hr : RwOk m r) : ∃ G', FAt K G H a c m l (rs ++ [r]) n G' (vs ++ [.ref t]) (upd (upd H3 t (.tup xs)) l (.lst (vs ++ [.ref t]))) := by
  have ntl : l ≠ t := ne_of_none f.hl ht
  have nal : a ≠ l := fun e => by rw [e, f.h0] at ha; cases ha
  have nat : a ≠ t := ne_of_none f.pot.some.choose_spec ht
  have gt := f.st.s.free ht
  refine ⟨upd G3 t (.tup xs), (f.st.trans (Step.alloc f.st.s ht)).mutF f.h0 (by rw [upd_ne ntl]; exact f.gl) (by rw [upd_ne ntl]; exact f.hl), upd_same, by rw [upd_ne ntl]; exact f.gl, f.h0, ?_, f.pot.of (by rw [upd_ne nal, upd_ne nat]), fun x hx => ?_⟩
  · rw [List.map_append]
    exact (f.ds.mono (Same.toUpd gt)).append (.one (.tup (SqT.of upd_same) (hx.mono (Same.toUpd gt))))
  · rcases List.mem_append.mp hx with h | h
    · exact f.ok x h
    · rw [List.mem_singleton] at h
      subst h
      exact hr
section
variable {P : Program} {w : World} {K : PySem.W.Frag} {mg : Str → Option Value} {base : Heap}
abbrev HOthers (P w K mg base) := Has P w K mg base "_law_others" 3 4 (spDraw K 21 3 preOthers postOthers)
theorem nod_ints (xs : List Int) : nod (.list (ofI xs)) = true := by
  show nods (ofI xs) = true
  induction xs with
  | nil => rfl
  | cons x xs ih => exact ih
theorem shaped_ints (xs : List Int) : SeqAt.shaped (.list (ofI xs)) = true := by
  have h1 : PyData.canLayAll0 (ofI xs) = true := by
    induction xs with
    | nil => rfl
    | cons x xs ih => exact ih
  have h2 : PyData.depthAll (ofI xs) = 0 := by
    induction xs with
    | nil => rfl
    | cons x xs ih =>
      show max 0 (PyData.depthAll (ofI xs)) = 0
      rw [ih (by exact h1)]
      rfl
  unfold SeqAt.shaped
  show (PyData.canLayAll0 (ofI xs) && decide (PyData.depthAll (ofI xs) + 1 ≤ 64)) = true
  rw [h1, h2]
  rfl
theorem rCat_q {K : PySem.W.Frag} {G H : Hp} {v w : V} {xs ys : List Dt} {Q : VK} (hv : Da K G v (.list xs)) (hw : Da K G w (.list ys)) (s : Same G H) (hl : xs.length + ys.length ≤ sizeLine) (q : ∀ z G' H', Step [] G H G' H' → Da K G' z (.list (xs ++ ys)) → Q z H') : rCat v w H Q := by
  obtain ⟨l, vs, rfl, h1, h2⟩ := hv.lst_inv
  obtain ⟨m, ws, rfl, h3, h4⟩ := hw.lst_inv
  refine ⟨l, m, vs, ws, rfl, rfl, s _ _ h1, s _ _ h3, by rw [h2.length, h4.length]; exact hl, fun p hp => ?_⟩
  exact q _ _ _ (Step.alloc s hp) (.lst upd_same ((h2.append h4).mono (Same.toUpd (s.free hp))))
theorem of_inv {xs : List Dt} {d : Dt} (h : postOf [.list xs] d) : d ∈ xs := by
  rcases h with ⟨ys, e, hm⟩ | ⟨_, _, e, _⟩
  · injection e with e
    injection e with e
    subst e
    exact hm
  · cases e
theorem of_invI {xs : List Int} {d : Dt} (h : postOf [.list (ofI xs)] d) : ∃ y ∈ xs, d = .int y := by
  obtain ⟨y, hy, rfl⟩ := List.mem_map.mp (of_inv h)
  exact ⟨y, hy, rfl⟩
theorem others_inv {m : Int} {bs : List Int} {t : Int} {d : Dt} (h : postOthers [.int m, .list (ofI bs), .int t] d) : ∃ cs : List Int, d = .list (ofI cs) ∧ Hands m cs ∧ (∀ x ∈ cs, x ∉ bs) ∧ cs.length ≤ t ∧ ((∃ x, 0 ≤ x ∧ x < m ∧ x ∉ bs) → 1 ≤ cs.length) := by
  obtain ⟨m', bs', t', cs, e, rfl, h1, h2, h3, h4⟩ := h
  injection e with e1 e2
  injection e2 with e2 e3
  injection e3 with e3
  injection e1 with e1
  injection e2 with e2
  injection e3 with e3
  have := ofI_inj e2
  subst e1 e3 this
  exact ⟨cs, rfl, h1, h2, h3, h4⟩
theorem scMoves : FnScope ["pot", "many", "hand", "keeper", "friend", "more", "found", "stays", "gone", "some", "rest", "leaver", "gift", "pair", "one"] ["pot", "many", "hand", "keeper"] (defScope sMoves) := ⟨rfl, rfl, rfl, by decide +kernel, rfl, by decide +kernel, by decide +kernel⟩
abbrev nMoves : List Str := ["pot", "many", "hand", "keeper", "friend", "more", "found", "stays", "gone", "some", "rest", "leaver", "gift", "pair", "one"]
theorem has_moves (T : Top1 K mg "_law_moves" sMoves ["pot", "many", "hand", "keeper"]) (B : Blt mg) (hT : HTake P w K mg base) (hO : HOf P w K mg base) (hS : HSome P w K mg base) (hR : HOthers P w K mg base) : Has P w K mg base "_law_moves" 4 4 (spDraw K 300 3 preMoves postMoves) := by
  refine mkHas (k := 3) T scMoves spDraw_len fun f cdv A outer s H vs Q E hr h => ?_
  obtain ⟨a, ws, G, ds, c, rfl, hl, g, ga, hP, hc, hds, ⟨m, hd, kp, rfl, m2, m5, hd0, hdm, kp0, kpm, hk⟩, k⟩ := h
  cases hds with
  | cons d1 hn =>
  cases hn with
  | cons d2 hn =>
  cases hn with
  | cons d3 hn =>
    cases hn
    obtain rfl := d1.int_inv
    obtain rfl := d2.int_inv
    obtain rfl := d3.int_inv
    obtain ⟨oa, hoa⟩ := hP.some
    have hu := hu64 hr
    -- the end
    have tail9 : ∀ (l : Addr) (rs : List Rw) (G3 : Hp) (vs : List V) (H3 : Hp) (u4 u5 u7 u8 u9 u10 u11 u12 u13 u14 : Option V), FAt K G H a c m l rs 290 G3 vs H3 → 2 ≤ rs.length → rs.length ≤ 5 →
        eB (cxOf CX0 P w K mg base nMoves "_law_moves" (defScope sMoves) f cdv A outer s H E).nox ((defBody sMoves).drop 9) { nx := fun _ H' => Q .non H', rt := Q }
          [some (.ref a), some (.int m), some (.int hd), some (.int kp), u4, u5, some (.ref l), u7, u8, u9, u10, u11, u12, u13, u14] H3 := by
      intro l rs G3 vs H3 u4 u5 u7 u8 u9 u10 u11 u12 u13 u14 F r2 r5
      exact b_one (s_ret (w_var 6 rfl (k _ _ (upd G3 l (.lst vs)) H3 ⟨m, hd, kp, rs, rfl, rfl, r2, r5, F.ok⟩ (F.st.freeze F.h0 F.hl F.gl) (F.pot.up (by omega)) (.lst upd_same (F.ds.mono (Same.toUpd F.gl))))))
    -- the pair
    have tail8 : ∀ (l : Addr) (rs : List Rw) (G3 : Hp) (vs : List V) (H3 : Hp) (u4 u5 u7 u8 u9 u10 u11 u12 u13 u14 : Option V), FAt K G H a c m l rs 250 G3 vs H3 → 2 ≤ rs.length → rs.length ≤ 4 →
        eB (cxOf CX0 P w K mg base nMoves "_law_moves" (defScope sMoves) f cdv A outer s H E).nox ((defBody sMoves).drop 8) { nx := fun _ H' => Q .non H', rt := Q }
          [some (.ref a), some (.int m), some (.int hd), some (.int kp), u4, u5, some (.ref l), u7, u8, u9, u10, u11, u12, u13, u14] H3 := by
      intro l rs G3 vs H3 u4 u5 u7 u8 u9 u10 u11 u12 u13 u14 F r2 r4
      have ga3 := F.st.out ga hoa
      refine b_cons (s_if (t_w (t_and (t_pu (put_c (c_gt (pu_var 1 rfl (.int m)) pu_int)) F.st.s fun G4 H4 s4 => ?_))))
      have F4 := F.step (n' := 250) s4.pure (F.pot.step s4 (by simp)) oa hoa
      refine ite2 (fun hm3 => t_and1 (t_cmp op_eq (w_take hT hr (by decide) 0 rfl (u := 3) pu_int s4.s (F4.st.out ga hoa) s4.s (F4.st.out ga hoa) F4.pot (by omega) (by decide) (by decide) fun r H5 r0 r1 s5 hP5 => w_int ⟨rfl, _, rfl, ?_⟩))) (fun _ => iteF (b_nil (tail9 l rs G4 vs H4 _ _ _ _ _ _ _ _ _ _ ⟨F4.st, F4.hl, F4.gl, F4.h0, F4.ds, F4.pot.up (by omega), F4.ok⟩ r2 (by omega))))
      have F5 := F4.step (n' := 251) s5 hP5 oa hoa
      refine ite2 (fun _ => ?_) (fun _ => b_nil (tail9 l rs G4 vs H5 _ _ _ _ _ _ _ _ _ _ ⟨F5.st, F5.hl, F5.gl, F5.h0, F5.ds, F5.pot.up (by omega), F5.ok⟩ r2 (by omega)))
      refine b_cons (s_set 13 scMoves.nd (w_draw (ds := [.int m, .list (ofI [hd]), .int 2]) hR hr (by decide) 0 rfl (pua_cons (pu_var 1 rfl (.int m)) (pua_cons (pu_lst (pua_cons (pu_var 2 rfl (.int hd)) pua_nil)) (pua_cons pu_int pua_nil))) s5.s (F5.st.out ga hoa) F5.pot (by omega) ⟨m, [hd], 2, rfl, by omega, by omega, by simp, by decide, by decide⟩ fun d v6 G6 H6 hp s6 hP6 hv6 => ?_))
      obtain ⟨cs, rfl, hh, hnb, hcl, _⟩ := others_inv hp
      have F6 := F5.step (n' := 272) s6 hP6 oa hoa
      refine b_one (s_if (t_pu (put_c (c_eqI (pu_lenL (pu_var 13 rfl hv6) B.len) pu_int)) s6.s fun G7 H7 s7 => ?_))
      have F7 := F6.step (n' := 272) s7.pure (hP6.step s7 (by simp)) oa hoa
      refine ite2 (fun h2 => ?_) (fun _ => b_nil (tail9 l rs G7 vs H7 _ _ _ _ _ _ _ _ _ _ ⟨F7.st, F7.hl, F7.gl, F7.h0, F7.ds, F7.pot.up (by omega), F7.ok⟩ r2 (by omega)))
      have hc2 : cs.length = 2 := by
        have := of_decide_eq_true h2
        simp only [ofI, List.length_map] at this
        omega
      refine b_one (s_expr (w_append 6 rfl F7.hl (w_tup (a_cons (w_var 13 rfl (a_cons (w_var 2 rfl (a_cons (w_draw hO hr (by decide) 0 rfl (pua_cons (pu_var 13 rfl (hv6.mono s7.g)) pua_nil) s7.s (F7.st.out ga hoa) F7.pot (by omega) (.inl ⟨_, rfl, by simp [ofI]; omega, by simp [ofI]; omega⟩) fun d' v8 G8 H8 hp8 s8 hP8 hv8 => a_cons (w_non (a_nil ⟨by show 4 ≤ sizeLine; decide, fun t ht => a_nil ?_⟩)))))))))))
      obtain ⟨y, hy, rfl⟩ := of_invI hp8
      have F8 := F7.step (n' := 273) s8 hP8 oa hoa
      have hlen := F8.len
      obtain ⟨G9, F9⟩ := F8.app oa hoa ht ⟨cs, some hd, some y, none⟩ (.cons (hv6.mono (s7.g.trans s8.g)) (.cons (.int hd) (.cons hv8 (.one .non)))) ⟨⟨hh, by show 1 ≤ cs.length; omega, by show cs.length ≤ 3; omega⟩, fun x h => by injection h with h; subst h; exact ⟨hd0, hdm, fun hx => hnb _ hx (by simp)⟩, fun x h => by injection h with h; subst h; exact ⟨hy, by show 2 ≤ cs.length; omega⟩, fun x h => by cases h⟩
      refine rAppend_q (xs := vs) (by rw [upd_ne (ne_of_none F8.hl ht)]; exact F8.hl) (by omega) ?_
      exact tail9 l _ G9 _ _ _ _ _ _ _ _ _ _ _ _ ⟨F9.st, F9.hl, F9.gl, F9.h0, F9.ds, F9.pot.up (by omega), F9.ok⟩ (by simp; omega) (by simp; omega)
    -- the gift
    have tail7 : ∀ (l : Addr) (rs : List Rw) (G3 : Hp) (vs : List V) (H3 : Hp) (u4 u5 u7 u8 u9 u10 u11 u12 u13 u14 : Option V), FAt K G H a c m l rs 200 G3 vs H3 → 2 ≤ rs.length → rs.length ≤ 3 →
        eB (cxOf CX0 P w K mg base nMoves "_law_moves" (defScope sMoves) f cdv A outer s H E).nox ((defBody sMoves).drop 7) { nx := fun _ H' => Q .non H', rt := Q }
          [some (.ref a), some (.int m), some (.int hd), some (.int kp), u4, u5, some (.ref l), u7, u8, u9, u10, u11, u12, u13, u14] H3 := by
      intro l rs G3 vs H3 u4 u5 u7 u8 u9 u10 u11 u12 u13 u14 F r2 r4
      refine b_cons (s_if (t_w (t_and (t_pu (put_c (c_gt (pu_var 1 rfl (.int m)) pu_int)) F.st.s fun G4 H4 s4 => ?_))))
      have F4 := F.step (n' := 200) s4.pure (F.pot.step s4 (by simp)) oa hoa
      refine ite2 (fun hm3 => t_and1 (t_cmp op_eq (w_take hT hr (by decide) 0 rfl (u := 3) pu_int s4.s (F4.st.out ga hoa) s4.s (F4.st.out ga hoa) F4.pot (by omega) (by decide) (by decide) fun r H5 r0 r1 s5 hP5 => w_int ⟨rfl, _, rfl, ?_⟩))) (fun _ => iteF (b_nil (tail8 l rs G4 vs H4 _ _ _ _ _ _ _ _ _ _ ⟨F4.st, F4.hl, F4.gl, F4.h0, F4.ds, F4.pot.up (by omega), F4.ok⟩ r2 (by omega))))
      have F5 := F4.step (n' := 201) s5 hP5 oa hoa
      refine ite2 (fun _ => ?_) (fun _ => b_nil (tail8 l rs G4 vs H5 _ _ _ _ _ _ _ _ _ _ ⟨F5.st, F5.hl, F5.gl, F5.h0, F5.ds, F5.pot.up (by omega), F5.ok⟩ r2 (by omega)))
      refine b_cons (s_set 9 scMoves.nd (w_draw (ds := [.int m, .list (ofI [hd]), .int 2]) hR hr (by decide) 0 rfl (pua_cons (pu_var 1 rfl (.int m)) (pua_cons (pu_lst (pua_cons (pu_var 2 rfl (.int hd)) pua_nil)) (pua_cons pu_int pua_nil))) s5.s (F5.st.out ga hoa) F5.pot (by omega) ⟨m, [hd], 2, rfl, by omega, by omega, by simp, by decide, by decide⟩ fun d v6 G6 H6 hp s6 hP6 hv6 => ?_))
      obtain ⟨cs, rfl, hh, hnb, hcl, hc1⟩ := others_inv hp
      have hc1' : 1 ≤ cs.length := hc1 ⟨kp, kp0, kpm, by simpa using fun e => hk e.symm⟩
      have F6 := F5.step (n' := 222) s6 hP6 oa hoa
      refine b_cons (s_setP 10 14 (lc1 14 (cd := PyData.int) (ns := rng m) (by rw [← rangeD_rng]; exact src_range (n := m) (pu_var 1 rfl (.int _)) (by omega) (by omega) B.range) PyData.int (fun x => !decide (x = hd) && !decide (x ∈ cs)) scMoves.nd
        (fun n hn v G3 g3 hv _ _ _ _ _ => puts_one (put_w (puw_and (put_c (c_neI (pu_var 14 rfl hv) (pu_var 2 rfl (.int hd)))) fun _ => puw_and1 (put_c (c_ninI (pu_var 14 rfl hv) (pu_var 9 rfl (hv6.mono g3))))))) (fun n hn _ v G3 g3 hv _ _ _ _ _ => pu_var 14 rfl hv) (by rw [rng_len]; omega)) s6.s scMoves.nd fun v7 G7 H7 s7 hv7 => ?_)
      generalize hrest : (rng m).filter (fun x => !decide (x = hd) && !decide (x ∈ cs)) = rest at hv7
      have mem_rest : ∀ x ∈ rest, (0 ≤ x ∧ x < m) ∧ x ≠ hd ∧ x ∉ cs := fun x hx => by
        rw [← hrest, List.mem_filter, mem_rng, Bool.and_eq_true] at hx
        obtain ⟨h1, h2, h3⟩ := hx
        exact ⟨h1, (by intro e; rw [decide_eq_true e] at h2; cases h2), (by intro e; rw [decide_eq_true e] at h3; cases h3)⟩
      have rest_len : rest.length ≤ 5 := by
        rw [← hrest]
        exact Nat.le_trans (List.length_filter_le _ _) (by rw [rng_len]; omega)
      have F7 := F6.step (n' := 222) s7.pure (hP6.step s7 (by simp)) oa hoa
      have hv6' := hv6.mono s7.g
      -- leaver
      refine b_cons (s_set 11 scMoves.nd (eE.mono (Q' := fun v H' => ∃ (lv : Option Int) (G' : Hp), Step [a] G7 H7 G' H' ∧ PotAt H' a (c + 224) ∧ Da K G' v (optD lv) ∧ ∀ x, lv = some x → x ∈ cs ∧ cs.length = 2) (w_if (t_w (t_and (t_pu (put_c (c_eqI (pu_lenL (pu_var 9 rfl hv6') B.len) pu_int)) s7.s fun G8 H8 s8 => ?_)))) ?_))
      · have F8 := F7.step (n' := 222) s8.pure (F7.pot.step s8 (by simp)) oa hoa
        refine ite2 (fun h2 => t_and1 (t_cmp op_eq (w_take hT hr (by decide) 0 rfl (u := 2) pu_int s8.s (F8.st.out ga hoa) s8.s (F8.st.out ga hoa) F8.pot (by omega) (by decide) (by decide) fun r H9 r0 r1 s9 hP9 => w_int ⟨rfl, _, rfl, ?_⟩))) (fun _ => iteF (w_non ⟨none, G8, s8.pure, F8.pot.up (by omega), .non, fun x h => by cases h⟩))
        have hc2 : cs.length = 2 := by
          have := of_decide_eq_true h2
          simp only [ofI, List.length_map] at this
          omega
        have F9 := F8.step (n' := 223) s9 hP9 oa hoa
        refine ite2 (fun _ => w_draw hO hr (by decide) 0 rfl (pua_cons (pu_var 9 rfl (hv6'.mono s8.g)) pua_nil) s9.s (F9.st.out ga hoa) F9.pot (by omega) (.inl ⟨_, rfl, by simp [ofI]; omega, by simp [ofI]; omega⟩) fun d' v8 G10 H10 hp8 s10 hP10 hv8 => ?_) (fun _ => w_non ⟨none, G8, s8.pure.trans s9, F9.pot.up (by omega), .non, fun x h => by cases h⟩)
        obtain ⟨y, hy, rfl⟩ := of_invI hp8
        exact ⟨some y, G10, s8.pure.trans (s9.trans s10), hP10.up (by omega), hv8, fun x h => by injection h with h; subst h; exact ⟨hy, hc2⟩⟩
      rintro v8 H8 ⟨lv, G8, s8, hP8, hv8, hlv⟩
      have F8 := F7.step (n' := 224) s8 hP8 oa hoa
      have hv7' := hv7.mono s8.g
      -- gift
      refine b_cons (s_set 12 scMoves.nd (eE.mono (Q' := fun v H' => ∃ (gf : Option Int) (G' : Hp), Step [a] G8 H8 G' H' ∧ PotAt H' a (c + 225) ∧ Da K G' v (optD gf) ∧ ∀ x, gf = some x → x ∈ rest) (w_if (t_pu (put_c (c_neD (pu_var 10 rfl hv7') (pu_lst pua_nil) (nod_ints rest) rfl (shaped_ints rest) (by decide +kernel) hu)) F8.st.s fun G9 H9 s9 => ?_)) ?_))
      · have F9 := F8.step (n' := 224) s9.pure (F8.pot.step s9 (by simp)) oa hoa
        refine ite2 (fun hne => ?_) (fun _ => w_non ⟨none, G9, s9.pure, F9.pot.up (by omega), .non, fun x h => by cases h⟩)
        have hpos : 0 < rest.length := by
          cases rest with
          | nil => exact absurd hne (by decide)
          | cons _ _ => simp
        refine w_draw hO hr (by decide) 0 rfl (pua_cons (pu_var 10 rfl (hv7'.mono s9.g)) pua_nil) s9.s (F9.st.out ga hoa) F9.pot (by omega) (.inl ⟨_, rfl, by simpa [ofI] using hpos, by simp [ofI]; omega⟩) fun d' v9 G10 H10 hp9 s10 hP10 hv9 => ?_
        obtain ⟨y, hy, rfl⟩ := of_invI hp9
        exact ⟨some y, G10, s9.pure.trans s10, hP10.up (by omega), hv9, fun x h => by injection h with h; subst h; exact hy⟩
      rintro v9 H9 ⟨gf, G9, s9, hP9, hv9, hgf⟩
      have F9 := F8.step (n' := 225) s9 hP9 oa hoa
      have hv6x := hv6'.mono (s8.g.trans s9.g)
      refine b_one (s_expr (w_append 6 rfl F9.hl (w_tup (a_cons (w_var 9 rfl (a_cons (eE.mono (Q' := fun v H' => ∃ (bg : Option Int), Step [a] G9 H9 G9 H' ∧ PotAt H' a (c + 226) ∧ Da K G9 v (optD bg) ∧ ∀ x, bg = some x → x = hd) (w_if (t_cmp op_gt (w_take hT hr (by decide) 0 rfl (u := 3) pu_int F9.st.s (F9.st.out ga hoa) F9.st.s (F9.st.out ga hoa) F9.pot (by omega) (by decide) (by decide) fun r H10 r0 r1 s10 hP10 => w_int ⟨r, 0, rfl, rfl, _, rfl, ite2 (fun _ => w_var 2 rfl ⟨some hd, s10, hP10, .int hd, fun x h => by injection h with h; exact h.symm⟩) (fun _ => w_non ⟨none, s10, hP10, .non, fun x h => by cases h⟩)⟩))) ?_)))))))
      rintro v10 H10 ⟨bg, s10, hP10, hv10, hbg⟩
      have F10 := F9.step (n' := 226) s10 hP10 oa hoa
      refine a_cons (w_var 11 rfl (a_cons (w_var 12 rfl (a_nil ⟨by show 4 ≤ sizeLine; decide, fun t ht => a_nil ?_⟩))))
      have hlen := F10.len
      obtain ⟨G11, F11⟩ := F10.app oa hoa ht ⟨cs, bg, lv, gf⟩ (.cons hv6x (.cons hv10 (.cons (hv8.mono s9.g) (.one hv9)))) ⟨⟨hh, hc1', by show cs.length ≤ 3; omega⟩, fun x h => by
        have := hbg x h
        subst this
        exact ⟨hd0, hdm, fun hx => hnb _ hx (by simp)⟩, fun x h => by
        obtain ⟨h1, h2⟩ := hlv x h
        exact ⟨h1, by show 2 ≤ cs.length; omega⟩, fun x h => by
        obtain ⟨h1, h2, h3⟩ := mem_rest x (hgf x h)
        exact ⟨h1.1, h1.2, h3, fun e => h2 (hbg x e)⟩⟩
      refine rAppend_q (xs := vs) (by rw [upd_ne (ne_of_none F10.hl ht)]; exact F10.hl) (by omega) ?_
      exact tail8 l _ G11 _ _ _ _ _ _ _ _ _ _ _ _ ⟨F11.st, F11.hl, F11.gl, F11.h0, F11.ds, F11.pot.up (by omega), F11.ok⟩ (by simp; omega) (by simp; omega)
    -- the giving
    have tail6 : ∀ (l : Addr) (rs : List Rw) (G3 : Hp) (vs : List V) (H3 : Hp) (u4 u5 u7 u8 u9 u10 u11 u12 u13 u14 : Option V), FAt K G H a c m l rs 150 G3 vs H3 → rs.length = 2 →
        eB (cxOf CX0 P w K mg base nMoves "_law_moves" (defScope sMoves) f cdv A outer s H E).nox ((defBody sMoves).drop 6) { nx := fun _ H' => Q .non H', rt := Q }
          [some (.ref a), some (.int m), some (.int hd), some (.int kp), u4, u5, some (.ref l), u7, u8, u9, u10, u11, u12, u13, u14] H3 := by
      intro l rs G3 vs H3 u4 u5 u7 u8 u9 u10 u11 u12 u13 u14 F r2
      refine b_cons (s_if (t_w (t_and (t_pu (put_c (c_gt (pu_var 1 rfl (.int m)) pu_int)) F.st.s fun G4 H4 s4 => ?_))))
      have F4 := F.step (n' := 150) s4.pure (F.pot.step s4 (by simp)) oa hoa
      refine ite2 (fun hm3 => t_and1 (t_cmp op_eq (w_take hT hr (by decide) 0 rfl (u := 2) pu_int s4.s (F4.st.out ga hoa) s4.s (F4.st.out ga hoa) F4.pot (by omega) (by decide) (by decide) fun r H5 r0 r1 s5 hP5 => w_int ⟨rfl, _, rfl, ?_⟩))) (fun _ => iteF (b_nil (tail7 l rs G4 vs H4 _ _ _ _ _ _ _ _ _ _ ⟨F4.st, F4.hl, F4.gl, F4.h0, F4.ds, F4.pot.up (by omega), F4.ok⟩ (by omega) (by omega))))
      have F5 := F4.step (n' := 151) s5 hP5 oa hoa
      refine ite2 (fun _ => ?_) (fun _ => b_nil (tail7 l rs G4 vs H5 _ _ _ _ _ _ _ _ _ _ ⟨F5.st, F5.hl, F5.gl, F5.h0, F5.ds, F5.pot.up (by omega), F5.ok⟩ (by omega) (by omega)))
      refine b_one (s_expr (w_append 6 rfl F5.hl (w_tup (a_cons (w_draw (ds := [.int m, .list (ofI [hd]), .int 3]) hR hr (by decide) 0 rfl (pua_cons (pu_var 1 rfl (.int m)) (pua_cons (pu_lst (pua_cons (pu_var 2 rfl (.int hd)) pua_nil)) (pua_cons pu_int pua_nil))) s5.s (F5.st.out ga hoa) F5.pot (by omega) ⟨m, [hd], 3, rfl, by omega, by omega, by simp, by decide, by decide⟩ fun d v6 G6 H6 hp s6 hP6 hv6 => a_cons (w_non (a_cons (w_non (a_cons (w_var 2 rfl (a_nil ⟨by show 4 ≤ sizeLine; decide, fun t ht => a_nil ?_⟩)))))))))))
      obtain ⟨cs, rfl, hh, hnb, hcl, hc1⟩ := others_inv hp
      have hc1' : 1 ≤ cs.length := hc1 ⟨kp, kp0, kpm, by simpa using fun e => hk e.symm⟩
      have F6 := F5.step (n' := 172) s6 hP6 oa hoa
      have hlen := F6.len
      obtain ⟨G7, F7⟩ := F6.app oa hoa ht ⟨cs, none, none, some hd⟩ (.cons hv6 (.cons .non (.cons .non (.one (.int hd))))) ⟨⟨hh, hc1', by show cs.length ≤ 3; omega⟩, fun x h => (by cases h), fun x h => (by cases h), fun x h => (by injection h with h; subst h; exact ⟨hd0, hdm, fun hx => hnb _ hx (by simp), fun e => (by cases e)⟩)⟩
      refine rAppend_q (xs := vs) (by rw [upd_ne (ne_of_none F6.hl ht)]; exact F6.hl) (by omega) ?_
      exact tail7 l _ G7 _ _ _ _ _ _ _ _ _ _ _ _ ⟨F7.st, F7.hl, F7.gl, F7.h0, F7.ds, F7.pot.up (by omega), F7.ok⟩ (by simp; omega) (by simp; omega)
    -- friend
    refine b_cons (s_set 4 scMoves.nd (eE.mono (Q' := fun v H' => ∃ (fr : List Int) (G' : Hp), Step [a] G H G' H' ∧ PotAt H' a (c + 22) ∧ Da K G' v (.list (ofI fr)) ∧ Hands m fr ∧ hd ∉ fr ∧ fr.length = 1) (w_if (t_cmp op_gt (w_take hT hr (by decide) 0 rfl (u := 3) pu_int g ga g ga hP (by omega) (by decide) (by decide) fun r H1 r0 r1 s1 hP1 => w_int ⟨r, 0, rfl, rfl, _, rfl, ite2 (fun _ => ?_) (fun _ => ?_)⟩))) ?_))
    · refine w_pu (pu_lst (ds := ofI [kp]) (pua_cons (pu_var 3 rfl (.int kp)) pua_nil)) s1.s fun v G2 H2 s2 hv => ?_
      exact ⟨[kp], G2, s1.trans s2.pure, (hP1.step s2 (by simp)).up (by omega), hv, ⟨by simp, by simp; omega⟩, by simpa using hk, rfl⟩
    · refine w_draw (ds := [.int m, .list (ofI (if 2 < m then [hd, kp] else [hd])), .int 1]) hR hr (by decide) 0 rfl (pua_cons (pu_var 1 rfl (.int m)) (pua_cons (pu_if (put_c (c_gt (pu_var 1 rfl (.int m)) pu_int)) (fun h => (pu_lst (pua_cons (pu_var 2 rfl (.int hd)) (pua_cons (pu_var 3 rfl (.int kp)) pua_nil))).to (by rw [if_pos (by have := of_decide_eq_true h; omega)]; rfl)) (fun h => (pu_lst (pua_cons (pu_var 2 rfl (.int hd)) pua_nil)).to (by rw [if_neg (by have := of_decide_eq_false h; omega)]; rfl))) (pua_cons pu_int pua_nil))) s1.s (s1.out ga hoa) hP1 (by omega)
        ⟨m, _, 1, rfl, by omega, by omega, by split <;> simp, by decide, by decide⟩ fun d v2 G2 H2 hp2 s2 hP2 hv2 => ?_
      obtain ⟨cs, rfl, hh, hnb, hcl, hc1⟩ := others_inv hp2
      have hx : ∃ x : Int, 0 ≤ x ∧ x < m ∧ x ∉ (if 2 < m then [hd, kp] else [hd]) := by
        by_cases h : 2 < m
        · rw [if_pos h]
          by_cases h0 : hd ≠ 0 ∧ kp ≠ 0
          · exact ⟨0, by omega, by omega, by simp; omega⟩
          · by_cases h1 : hd ≠ 1 ∧ kp ≠ 1
            · exact ⟨1, by omega, by omega, by simp; omega⟩
            · exact ⟨2, by omega, by omega, by simp; omega⟩
        · rw [if_neg h]
          exact ⟨kp, kp0, kpm, by simpa using fun e => hk e.symm⟩
      have := hc1 hx
      refine ⟨cs, G2, s1.trans s2, hP2, hv2, hh, fun h => hnb hd h (by split <;> simp), by omega⟩
    rintro v4 H1 ⟨fr, G1, s1, hP1, hv4, hfr, hfh, hf1⟩
    have ga1 := s1.out ga hoa
    -- more
    refine b_cons (s_setLc 5 [("one", 14)] (blkOk_by (by kernel_rfl)) scMoves.nd (lc1E 14 scMoves.nd ⟨_, pi_list pe_e, w_draw (ds := [.int m, .list (ofI [hd]), .int 2]) hR hr (by decide) 0 rfl (pua_cons (pu_var 1 rfl (.int m)) (pua_cons (pu_lst (pua_cons (pu_var 2 rfl (.int hd)) pua_nil)) (pua_cons pu_int pua_nil))) s1.s ga1 hP1 (by omega) ⟨m, [hd], 2, rfl, by omega, by omega, by simp, by decide, by decide⟩ fun d v2 G2 H2 hp2 s2 hP2 hv2 => ?_⟩))
    obtain ⟨os, rfl, ho, hob, hol, _⟩ := others_inv hp2
    obtain ⟨lo, vo, rfl, hlo, hvo⟩ := hv2.lst_inv
    refine ⟨lo, rfl, ⟨vo, SqL.of (s2.s _ _ hlo)⟩, G2, Int, PyData.int, os, PyData.int, fun x => !decide (x ∈ fr), s2.s, walks_list hlo hvo, by omega, fun n hn v G3 g3 hv _ _ _ _ _ => puts_one (put_c (c_ninI (pu_var 14 rfl hv) (pu_var 4 rfl ((hv4.mono s2.g).mono g3)))), fun n hn _ v G3 g3 hv _ _ _ _ _ => pu_var 14 rfl hv, fun v5 G3 H3 s3 hv5 => ?_⟩
    generalize hmo : os.filter (fun x => !decide (x ∈ fr)) = mo at hv5
    have mem_mo : ∀ x ∈ mo, x ∈ os ∧ x ∉ fr := fun x hx => by
      rw [← hmo, List.mem_filter] at hx
      exact ⟨hx.1, by intro e; have := hx.2; rw [decide_eq_true e] at this; cases this⟩
    have mo_nd : mo.Nodup := by rw [← hmo]; exact ho.1.filter _
    have mo_len : mo.length ≤ 2 := by
      have : mo.length ≤ os.length := by rw [← hmo]; exact List.length_filter_le _ _
      omega
    have st3 := s1.trans (s2.trans s3.pure)
    have ga3 := st3.out ga hoa
    have hP3 := hP2.step s3 (by simp)
    have hv4' := hv4.mono (s2.g.trans s3.g)
    -- found
    refine b_cons (s_set 6 scMoves.nd (w_lst (a_cons (w_tup (a_cons (eE.mono (Q' := fun v H' => ∃ (cs : List Int) (G' : Hp), Step [a] G3 H3 G' H' ∧ PotAt H' a (c + 44) ∧ Da K G' v (.list (ofI cs)) ∧ Comers m cs ∧ hd ∉ cs) (w_bin op_cat (w_var 4 rfl (w_if (t_cmp op_eq (w_take hT hr (by decide) 0 rfl (u := 3) pu_int s3.s ga3 s3.s ga3 hP3 (by omega) (by decide) (by decide) fun r H4 r0 r1 s4 hP4 => w_int ⟨rfl, _, rfl, ite2 (fun _ => w_var 5 rfl ?_) (fun _ => w_pu (pu_lst pua_nil) s4.s fun v6 G6 H6 s6 hv6 => ?_)⟩))))) ?_))))))
    · refine rCat_q hv4' hv5 s4.s ?_ fun z G5 H5 s5 hz => ⟨fr ++ mo, G5, s4.trans s5.pure, hP4.step s5 (by simp), ?_, ⟨⟨?_, fun x hx => ?_⟩, ?_, ?_⟩, ?_⟩
      · simp only [ofI, List.length_map]
        exact Nat.le_trans (show fr.length + mo.length ≤ 3 by omega) (by decide)
      · rw [show ofI (fr ++ mo) = ofI fr ++ ofI mo by simp [ofI]]
        exact hz
      · rw [List.nodup_append]
        exact ⟨hfr.1, mo_nd, fun x hx y hy e => (mem_mo y hy).2 (e ▸ hx)⟩
      · rcases List.mem_append.mp hx with h | h
        · exact hfr.2 x h
        · exact ho.2 x (mem_mo x h).1
      · rw [List.length_append]; omega
      · rw [List.length_append]; omega
      · intro h
        rcases List.mem_append.mp h with h | h
        · exact hfh h
        · exact hob hd (mem_mo hd h).1 (by simp)
    · refine rCat_q (hv4'.mono s6.g) hv6 s6.s ?_ fun z G5 H5 s5 hz => ⟨fr, G5, s4.trans (s6.pure.trans s5.pure), (hP4.step s6 (by simp)).step s5 (by simp), by simpa using hz, ⟨hfr, by omega, by omega⟩, hfh⟩
      simp only [ofI, List.length_map, List.length_nil]
      exact Nat.le_trans (show fr.length + 0 ≤ 3 by omega) (by decide)
    rintro v6 H4 ⟨cs, G4, s4, hP4, hv6, hcs, hch⟩
    refine a_cons (w_var 2 rfl (a_cons (w_non (a_cons (w_non (a_nil ⟨by show 4 ≤ sizeLine; decide, fun t ht => a_nil ⟨by show 1 ≤ sizeLine; decide, fun l hl => ?_⟩⟩))))))
    have st4 := st3.trans s4
    have gt4 := s4.s.free ht
    have st5 : Step [a] G H (upd G4 t (.tup [v6, .int hd, .non, .non])) (upd H4 t (.tup [v6, .int hd, .non, .non])) := st4.trans (Step.alloc s4.s ht)
    have nat : a ≠ t := ne_of_none hP4.some.choose_spec ht
    have nal : a ≠ l := ne_of_none (show (upd H4 t (.tup [v6, .int hd, .non, .non])) a = some _ by rw [upd_ne nat]; exact hP4.some.choose_spec) hl
    have F : FAt K G H a c m l [⟨cs, some hd, none, none⟩] 44 (upd G4 t (.tup [v6, .int hd, .non, .non])) [.ref t] (upd (upd H4 t (.tup [v6, .int hd, .non, .non])) l (.lst [.ref t])) :=
      ⟨st5.allocF hl, upd_same, st5.s.free hl, st5.free hl, .one (.tup (SqT.of upd_same) ((Das.cons hv6 (.cons (.int hd) (.cons .non (.one .non)))).mono (Same.toUpd gt4))), hP4.of (by rw [upd_ne nal, upd_ne nat]), fun r hr => by
        rw [List.mem_singleton] at hr
        subst hr
        exact ⟨hcs, fun x h => (by injection h with h; subst h; exact ⟨hd0, hdm, hch⟩), fun x h => (by cases h), fun x h => (by cases h)⟩⟩
    -- stays
    refine b_cons (s_set 7 scMoves.nd (eE.mono (Q' := fun v H' => ∃ (sy : List Int) (G' : Hp), Step [a] (upd G4 t (.tup [v6, .int hd, .non, .non])) (upd (upd H4 t (.tup [v6, .int hd, .non, .non])) l (.lst [.ref t])) G' H' ∧ PotAt H' a (c + 66) ∧ Da K G' v (.list (ofI sy)) ∧ Hands m sy ∧ hd ∉ sy ∧ 1 ≤ sy.length ∧ sy.length ≤ 2) (w_if (t_cmp op_gt (w_take hT hr (by decide) 0 rfl (u := 3) pu_int F.st.s (F.st.out ga hoa) F.st.s (F.st.out ga hoa) F.pot (by omega) (by decide) (by decide) fun r H7 r0 r1 s7 hP7 => w_int ⟨r, 0, rfl, rfl, _, rfl, ite2 (fun _ => ?_) (fun _ => ?_)⟩))) ?_))
    · refine w_pu (pu_lst (ds := ofI [kp]) (pua_cons (pu_var 3 rfl (.int kp)) pua_nil)) s7.s fun v G8 H8 s8 hv => ?_
      exact ⟨[kp], G8, s7.trans s8.pure, (hP7.step s8 (by simp)).up (by omega), hv, ⟨by simp, by simp; omega⟩, by simpa using hk, by simp, by simp⟩
    · refine w_draw (ds := [.int m, .list (ofI [hd]), .int 2]) hR hr (by decide) 0 rfl (pua_cons (pu_var 1 rfl (.int m)) (pua_cons (pu_lst (pua_cons (pu_var 2 rfl (.int hd)) pua_nil)) (pua_cons pu_int pua_nil))) s7.s (s7.out (F.st.out ga hoa) F.pot.some.choose_spec) hP7 (by omega) ⟨m, [hd], 2, rfl, by omega, by omega, by simp, by decide, by decide⟩ fun d v2 G8 H8 hp8 s8 hP8 hv8 => ?_
      obtain ⟨sy, rfl, hh, hnb, hcl, hc1⟩ := others_inv hp8
      exact ⟨sy, G8, s7.trans s8, hP8, hv8, hh, fun h => hnb hd h (by simp), hc1 ⟨kp, kp0, kpm, by simpa using fun e => hk e.symm⟩, by omega⟩
    rintro v7 H7 ⟨sy, G7, s7, hP7, hv7, hsy, hsh, sy1, sy2⟩
    have F7 := F.step (n' := 66) s7 hP7 oa hoa
    -- gone
    refine b_cons (s_set 8 scMoves.nd (w_draw (ds := [.list (ofI (sy ++ [hd])), .int ((sy.length + 1 : Nat) : Int)]) hS hr (by decide) 0 rfl (pua_cons ((pu_cat (pu_var 7 rfl hv7) (pu_lst (ds := ofI [hd]) (pua_cons (pu_var 2 rfl (.int hd)) pua_nil)) (by
        simp only [ofI, List.length_map, List.length_cons, List.length_nil]
        exact Nat.le_trans (show sy.length + (0 + 1) ≤ 3 by omega) (by decide))).to (by simp [ofI])) (pua_cons ((pu_add (pu_lenL (pu_var 7 rfl hv7) B.len) pu_int).to (by simp [ofI])) pua_nil)) F7.st.s (F7.st.out ga hoa) F7.pot (by omega) ⟨ofI (sy ++ [hd]), sy.length + 1, rfl, by simp [ofI], by simp [ofI]; omega⟩ fun d v8 G8 H8 hp8 s8 hP8 hv8 => ?_))
    obtain ⟨gs, rfl, hgp⟩ : ∃ gs : List Int, d = .list (ofI gs) ∧ gs.Perm (sy ++ [hd]) := by
      obtain ⟨xs, n, ys, zs, e, rfl, hyl, hpm⟩ := hp8
      obtain ⟨rfl, rfl⟩ : ofI (sy ++ [hd]) = xs ∧ sy.length + 1 = n := by
        injection e with e1 e2
        injection e2 with e2
        injection e1 with e1
        injection e2 with e2
        exact ⟨e1, by omega⟩
      obtain ⟨cs1, rs, rfl, rfl, hpm'⟩ := perm_ints hpm
      have hz : rs = [] := by
        have h1 := hpm'.length_eq
        rw [List.length_append, List.length_append, List.length_singleton] at h1
        have h2 : cs1.length = sy.length + 1 := by simpa [ofI] using hyl
        exact List.length_eq_zero_iff.mp (by omega)
      subst hz
      rw [List.append_nil] at hpm'
      exact ⟨cs1, rfl, hpm'⟩
    have F8 := F7.step (n' := 86) s8 hP8 oa hoa
    have hgl : gs.length = sy.length + 1 := by
      have := hgp.length_eq
      rw [List.length_append, List.length_singleton] at this
      exact this
    have hlen := F8.len
    refine b_cons (s_expr (w_append 6 rfl F8.hl (w_tup (a_cons (w_var 8 rfl (a_cons (w_non (a_cons (w_var 2 rfl (a_cons (w_non (a_nil ⟨by show 4 ≤ sizeLine; decide, fun t' ht' => a_nil ?_⟩))))))))))))
    have hgs : Hands m gs := by
      refine ⟨?_, fun x hx => ?_⟩
      · rw [hgp.nodup_iff, List.nodup_append]
        exact ⟨hsy.1, by simp, fun x hx y hy e => by
          rw [List.mem_singleton] at hy
          subst hy
          exact hsh (e ▸ hx)⟩
      · have := hgp.mem_iff.mp hx
        rcases List.mem_append.mp this with h | h
        · exact hsy.2 x h
        · rw [List.mem_singleton] at h
          omega
    have hgh : hd ∈ gs := hgp.mem_iff.mpr (by simp)
    obtain ⟨G9, F9⟩ := F8.app oa hoa ht' ⟨gs, none, some hd, none⟩ (.cons hv8 (.cons .non (.cons (.int hd) (.one .non)))) ⟨⟨hgs, by show 1 ≤ gs.length; omega, by show gs.length ≤ 3; omega⟩, fun x h => (by cases h), fun x h => (by injection h with h; subst h; exact ⟨hgh, by show 2 ≤ gs.length; omega⟩), fun x h => (by cases h)⟩
    refine rAppend_q (by rw [upd_ne (ne_of_none F8.hl ht')]; exact F8.hl) (by simp) ?_
    exact tail6 l _ G9 _ _ _ _ _ _ _ _ _ _ _ _ ⟨F9.st, F9.hl, F9.gl, F9.h0, F9.ds, F9.pot.up (by omega), F9.ok⟩ (by simp)
end
end Mb

set_option Elab.async false
set_option linter.all false
set_option maxRecDepth 100000
set_option maxHeartbeats 2000000
namespace Mb
open PySem PySem.Spec PyProof.Rows L2 TL
theorem sIx_some (n : Nat) {k : Int} (h : 0 ≤ k) : HT.sIx n n (some k) = min k.toNat n := by
  unfold HT.sIx
  simp
  omega
theorem take_min {α : Type} (l : List α) (k : Nat) : l.take (min k l.length) = l.take k := by
  by_cases h : k ≤ l.length
  · rw [Nat.min_eq_left h]
  · rw [Nat.min_eq_right (by omega), List.take_of_length_le (Nat.le_refl _), List.take_of_length_le (by omega)]
theorem cutV_take (xs : List V) {k : Int} (h : 0 ≤ k) : cutV xs none (some k) = xs.take k.toNat := by
  unfold cutV
  rw [sIx_some _ h]
  show (xs.drop 0).take (min k.toNat xs.length - 0) = _
  rw [List.drop_zero, Nat.sub_zero, take_min]
theorem cutD_take (xs : List Dt) {k : Int} (h : 0 ≤ k) : cutD xs none (some k) = xs.take k.toNat := by
  unfold cutD
  rw [sIx_some _ h]
  show (xs.drop 0).take (min k.toNat xs.length - 0) = _
  rw [List.drop_zero, Nat.sub_zero, take_min]
theorem some_all {xs : List Dt} {d : Dt} (h : postSome [.list xs, .int (xs.length : Int)] d) : ∃ ys, d = .list ys ∧ ys.Perm xs := by
  obtain ⟨xs', n, ys, zs, e, rfl, hyl, hpm⟩ := h
  obtain ⟨rfl, hn⟩ : xs = xs' ∧ xs.length = n := by
    injection e with e1 e2
    injection e2 with e2
    injection e1 with e1
    injection e2 with e2
    exact ⟨e1, by omega⟩
  have hz : zs = [] := by
    have := hpm.length_eq
    rw [List.length_append] at this
    exact List.length_eq_zero_iff.mp (by omega)
  subst hz
  rw [List.append_nil] at hpm
  exact ⟨ys, rfl, hpm⟩
theorem some_ints {ns : List Int} {m : Nat} {d : Dt} (h : postSome [.list (ofI ns), .int (m : Int)] d) : ∃ cs rs, d = .list (ofI cs) ∧ cs.length = m ∧ (cs ++ rs).Perm ns := by
  obtain ⟨xs', n, ys, zs, e, rfl, hyl, hpm⟩ := h
  obtain ⟨rfl, rfl⟩ : ofI ns = xs' ∧ m = n := by
    injection e with e1 e2
    injection e2 with e2
    injection e1 with e1
    injection e2 with e2
    exact ⟨e1, by omega⟩
  obtain ⟨cs, rs, rfl, rfl, hp⟩ := perm_ints hpm
  exact ⟨cs, rs, rfl, by simpa [ofI] using hyl, hp⟩
theorem perm_map {α : Type} {f : α → Dt} {ys : List Dt} {xs : List α} (h : ∀ y ∈ ys, y ∈ xs.map f) : ∃ zs : List α, ys = zs.map f ∧ ∀ z ∈ zs, z ∈ xs := by
  induction ys with
  | nil => exact ⟨[], rfl, by simp⟩
  | cons y ys ih =>
    obtain ⟨zs, rfl, h2⟩ := ih fun z hz => h z (List.mem_cons_of_mem _ hz)
    obtain ⟨x, hx, rfl⟩ := List.mem_map.mp (h y List.mem_cons_self)
    refine ⟨x :: zs, rfl, fun z hz => ?_⟩
    rcases List.mem_cons.mp hz with rfl | hz
    · exact hx
    · exact h2 z hz
theorem names_inv {m : Nat} {d : Dt} (h : postNames [.int (m : Int), .list (ofS [])] d) : ∃ nms : List Str, d = .list (ofS nms) ∧ nms.length = m ∧ nms.Nodup ∧ ∀ y ∈ nms, Nm y ∧ y ∉ resS := by
  obtain ⟨m', us, ys, e, rfl, h1, h2, h3⟩ := h
  injection e with e1 e2
  injection e1 with e1
  exact ⟨ys, rfl, by omega, h2, fun y hy => ⟨(h3 y hy).1, (h3 y hy).2.2⟩⟩
theorem moves_inv {m : Nat} {hd kp : Int} {d : Dt} (h : postMoves [.int (m : Int), .int hd, .int kp] d) : ∃ rs : List Rw, d = .list (rs.map rwD) ∧ rs.length ≤ 5 ∧ ∀ r ∈ rs, RwOk m r := by
  obtain ⟨m', hd', kp', rs, e, rfl, h1, h2, h3⟩ := h
  injection e with e1 e2
  injection e1 with e1
  obtain rfl : m = m' := by omega
  exact ⟨rs, rfl, h2, h3⟩
section
variable {X : Cx} {σ : L2.St} {G H : Hp} {a b e tg : Expr} {p p2 pos pos2 : Pos}
theorem c_inOT {o : Option Int} {ns : List Int} (ha : Pu X a σ G (optD o)) (hb : Pu X b σ G (.tuple (ofI ns))) (hm : behindInMarks .In b = false := by rfl) : PuC X .In a b σ G (o.any fun x => decide (x ∈ ns)) := by
  cases o with
  | some x => exact c_inIT ha hb hm
  | none =>
    refine ⟨_, _, _, op_in_seq, ha, hb, rv_in (neg := false) (v0 := .non) (vs0 := ns.map V.int) (fun _ _ _ h => h.non_inv) (fun G1 v _ h => ?_) rfl flat_ints ?_, hm⟩
    · obtain ⟨l, vs, rfl, h1, h2⟩ := h.tup_inv
      exact ⟨l, vs, rfl, .inr h1, h2.ints⟩
    · unfold inV
      rw [List.any_map, List.any_eq_false]
      intro x _
      simp [eqV]
theorem w_sorted {Q : VK} (q : eE X a σ H fun v H1 => ∃ (l : Addr) (ns : List Int), v = .ref l ∧ SqL X.K H1 l (ns.map V.int) ∧ ns.length < 64 ∧ ∀ (ns' : List Int) (p : Addr), ns'.Perm ns → ns'.Pairwise (· ≤ ·) → H1 p = none → Q (.ref p) (upd H1 p (.lst (ns'.map V.int)))) (hm : X.mg "sorted" = none)
    (hg : Gl X "sorted" := by rfl) (he : starEach [a] X.env = [(false, eval a X.env)] := by rfl) : eE X (.Call (.Name "sorted" p) [a] [] pos) σ H Q := by
  refine w_callB cr_sorted hm boot_sorted (a_cons (q.mono fun v H1 h => a_nil ?_) he) hg (by decide) (by decide) he rfl
  obtain ⟨l, ns, rfl, h1, h2, h3⟩ := h
  exact ⟨l, ns, rfl, h1, h2, h3⟩
end
end Mb

set_option Elab.async false
set_option linter.all false
set_option maxRecDepth 100000
set_option maxHeartbeats 2000000
namespace Mb
open PySem PySem.Spec PyProof.Rows L2 TL
/-- a list that is being built -/
structure LAt (K : PySem.W.Frag) (G H : Hp) (a : Addr) (n : Nat) (l : Addr) (ds : List Dt) (G3 : Hp) (vs : List V) (H3 : Hp) : Prop where
  st : Step [a] G H G3 H3
  hl : H3 l = some (.lst vs)
  gl : G3 l = none
  h0 : H l = none
  ds : Das K G3 vs ds
  pot : PotAt H3 a n
section
variable {K : PySem.W.Frag} {G H : Hp} {a : Addr} {n n' : Nat} {l : Addr} {ds es : List Dt} {G3 G5 : Hp} {vs : List V} {H3 H5 : Hp}
theorem LAt.step (f : LAt K G H a n l ds G3 vs H3) (s : Step [a] G3 H3 G5 H5) (hp : PotAt H5 a n') (oa : HO) (ha : H a = some oa) : LAt K G H a n' l ds G5 vs H5 :=
  ⟨f.st.trans s, s.keep f.hl (fun h => by rw [List.mem_singleton] at h; rw [← h, f.h0] at ha; cases ha), s.out f.gl f.hl, f.h0, f.ds.mono s.g, hp⟩
theorem LAt.pure (f : LAt K G H a n l ds G3 vs H3) (s : Step [] G3 H3 G5 H5) (oa : HO) (ha : H a = some oa) : LAt K G H a n l ds G5 vs H5 := f.step s.pure (f.pot.step s (by simp)) oa ha
theorem LAt.up (f : LAt K G H a n l ds G3 vs H3) (h : n ≤ n') : LAt K G H a n' l ds G3 vs H3 := ⟨f.st, f.hl, f.gl, f.h0, f.ds, f.pot.up h⟩
theorem LAt.nal (f : LAt K G H a n l ds G3 vs H3) (oa : HO) (ha : H a = some oa) : a ≠ l := fun e => by rw [e, f.h0] at ha; cases ha
theorem LAt.ext (f : LAt K G H a n l ds G3 vs H3) (oa : HO) (ha : H a = some oa) {ws : List V} (hw : Das K G3 ws es) : LAt K G H a n l (ds ++ es) G3 (vs ++ ws) (upd H3 l (.lst (vs ++ ws))) :=
  ⟨f.st.mutF f.h0 f.gl f.hl, upd_same, f.gl, f.h0, f.ds.append hw, f.pot.of (upd_ne (f.nal oa ha))⟩
theorem LAt.app (f : LAt K G H a n l ds G3 vs H3) (oa : HO) (ha : H a = some oa) {t : Addr} {xs : List V} (ht : H3 t = none) (hx : Das K G3 xs es) : ∃ G', Same G3 G' ∧ LAt K G H a n l (ds ++ [.tuple es]) G' (vs ++ [.ref t]) (upd (upd H3 t (.tup xs)) l (.lst (vs ++ [.ref t]))) := by
  have nat : a ≠ t := ne_of_none f.pot.some.choose_spec ht
  have gt := f.st.s.free ht
  have f1 : LAt K G H a n l ds (upd G3 t (.tup xs)) vs (upd H3 t (.tup xs)) := f.step (Step.alloc f.st.s ht) (f.pot.of (upd_ne nat)) oa ha
  exact ⟨_, Same.toUpd gt, f1.ext oa ha (.one (.tup (SqT.of upd_same) (hx.mono (Same.toUpd gt))))⟩
theorem LAt.new {oa : HO} (s : Step [a] G H G3 H3) (hp : PotAt H3 a n) (hl : H3 l = none) : LAt K G H a n l [] G3 [] (upd H3 l (.lst [])) :=
  ⟨s.allocF hl, upd_same, s.s.free hl, s.free hl, .nil, hp.of (upd_ne (ne_of_none hp.some.choose_spec hl))⟩
end
section
variable {X : Cx} {σ : L2.St} {G H : Hp} {a b : Expr} {p pos : Pos}
theorem pu_min {i j : Int} (ha : Pu X a σ G (.int i)) (hb : Pu X b σ G (.int j)) (hm : X.mg "min" = none) (hc : X.calm = true := by rfl) (hg : Gl X "min" := by rfl)
    (he : starEach [a, b] X.env = (false, eval a X.env) :: starEach [b] X.env := by rfl) (he2 : starEach [b] X.env = (false, eval b X.env) :: starEach [] X.env := by rfl) (hpl : (backTo pos (starEach [b] X.env)).any (·.1) = false := by rfl) : Pu X (.Call (.Name "min" p) [a, b] [] pos) σ G (.int (if j < i then j else i)) := fun G1 H g s Q q =>
  w_min hm (a_cons (ha G1 H g s _ fun v G2 H2 s2 h2 => a_cons (hb G2 H2 (g.trans s2.g) s2.s _ fun w G3 H3 s3 h3 => a_nil ⟨i, j, by rw [h2.int_inv, h3.int_inv], q _ G3 H3 (s2.trans s3) (.int _)⟩) he2) he) hc hg he hpl
end
section
variable {P : Program} {w : World} {K : PySem.W.Frag} {mg : Str → Option Value} {base : Heap}
abbrev HMoves (P w K mg base) := Has P w K mg base "_law_moves" 4 4 (spDraw K 300 3 preMoves postMoves)
abbrev nMoving : List Str := ["pot", "most", "many", "order", "keeper", "here", "away", "rights", "rows", "movers", "hand", "lap", "names", "kinds", "fine", "name", "comers", "begins", "ends", "gives", "stays", "row"]
theorem scMoving : FnScope nMoving ["pot", "most"] (defScope sMoving) := ⟨rfl, rfl, rfl, by decide +kernel, rfl, by decide +kernel, by decide +kernel⟩
theorem has_moving (T : Top1 K mg "_law_moving" sMoving ["pot", "most"]) (B : Blt mg) (hT : HTake P w K mg base) (hO : HOf P w K mg base) (hS : HSome P w K mg base) (hN : HNames P w K mg base) (hM : HMoves P w K mg base) : Has P w K mg base "_law_moving" 5 2 (spDraw K 1200 1 preHall postHall) := by
  refine mkHas (k := 4) T scMoving spDraw_len fun f cdv A outer s H vs Q E hr h => ?_
  obtain ⟨a, ws, G, ds, c, rfl, hl, g, ga, hP, hc, hds, rfl, k⟩ := h
  cases hds with
  | cons hd hn =>
    cases hn
    obtain rfl := hd.int_inv
    obtain ⟨oa, hoa⟩ := hP.some
    have hu := hu64 hr
    -- rows drawn anew, names, the end
    have tail10 : ∀ (m : Nat) (hh : List Int) (prs : List (Int × Int)) (rs : List Rw) (G3 H3 : Hp) (v5 v7 v8 : V) (u3 u4 u6 u9 u10 u11 u12 u13 u14 u15 u16 u17 u18 u19 u20 u21 : Option V), 2 ≤ m → m ≤ 5 → Step [a] G H G3 H3 → PotAt H3 a (c + 900) →
        Da K G3 v5 (.list (ofI hh)) → Da K G3 v7 (dctD (prs.map fun p => (.inl p.1, .int p.2))) → Da K G3 v8 (.list (rs.map rwD)) → 1 ≤ rs.length → (∀ r ∈ rs, RwOk m r) →
        (∀ nms ks, nms.length = m → nms.Nodup → (∀ x ∈ nms, Nm x ∧ x ∉ resS) → 1 ≤ ks.length → ks.length ≤ 8 → (ks.map (·.nm)).Nodup → (∀ k ∈ ks, (Nm k.nm ∧ k.nm ∉ resS) ∧ RowOk m k.cs k.b k.e k.g) → OwnOk ⟨nms, hh, prs, ks⟩) →
        eB (cxOf CX0 P w K mg base nMoving "_law_moving" (defScope sMoving) f cdv A outer s H E).nox ((defBody sMoving).drop 10) { nx := fun _ H' => Q .non H', rt := Q }
          [some (.ref a), some (.int 5), some (.int m), u3, u4, some v5, u6, some v7, some v8, u9, u10, u11, u12, u13, u14, u15, u16, u17, u18, u19, u20, u21] H3 := by
      intro m hh prs rs G3 H3 v5 v7 v8 u3 u4 u6 u9 u10 u11 u12 u13 u14 u15 u16 u17 u18 u19 u20 u21 m2 m5 st hP3 hv5 hv7 hv8 hr1 hrs hown
      have ga3 := st.out ga hoa
      refine b_cons (s_set 8 scMoving.nd (w_draw (ds := [.list ((rs.take 8).map rwD), .int (((rs.take 8).map rwD).length : Int)]) hS hr (by decide) 0 rfl (pua_cons ((pu_slL (pu_var 8 rfl hv8) puo_none (puo_some pu_int)).to (by rw [cutD_take _ (by decide), ← List.map_take]; rfl)) (pua_cons ((pu_min pu_int (pu_lenL (pu_var 8 rfl hv8) B.len) B.min).to (by
        rw [List.length_map, List.length_map, List.length_take]
        congr 1
        split <;> omega)) pua_nil)) st.s ga3 hP3 (by omega) ⟨_, _, rfl, Nat.le_refl _, by rw [List.length_map, List.length_take]; omega⟩ fun d4 v4 G4 H4 hp4 s4 hP4 hv4 => ?_))
      obtain ⟨ys, rfl, hpm⟩ := some_all hp4
      have hyl := hpm.length_eq
      rw [List.length_map, List.length_take] at hyl
      obtain ⟨rz, rfl, hrz⟩ := perm_map (f := rwD) (xs := rs.take 8) fun y hy => hpm.mem_iff.mp hy
      rw [List.length_map] at hyl
      have hrz' : ∀ r ∈ rz, RwOk m r := fun r h => hrs r (List.mem_of_mem_take (hrz r h))
      have st4 := st.trans s4
      have ga4 := st4.out ga hoa
      -- names, kinds
      refine b_cons (s_set 12 scMoving.nd (w_draw (ds := [.int m, .list (ofS [])]) hN hr (by decide) 0 rfl (pua_cons (pu_var 2 rfl (.int m)) (pua_cons (pu_lst pua_nil) pua_nil)) s4.s ga4 hP4 (by omega) ⟨m, [], rfl, by omega, by decide⟩ fun d5 vn G5 H5 hp5 s5 hP5 hvn => ?_))
      obtain ⟨nms, rfl, hn1, hn2, hn3⟩ := names_inv hp5
      have st5 := st4.trans s5
      have ga5 := st5.out ga hoa
      have hv4' := hv4.mono s5.g
      refine b_cons (s_set 13 scMoving.nd (w_draw (ds := [.int rz.length, .list (ofS [])]) hN hr (by decide) 0 rfl (pua_cons ((pu_lenL (pu_var 8 rfl hv4') B.len).to (by rw [List.length_map])) (pua_cons (pu_lst pua_nil) pua_nil)) s5.s ga5 hP5 (by omega) ⟨rz.length, [], rfl, by omega, by decide⟩ fun d6 vk G6 H6 hp6 s6 hP6 hvk => ?_))
      obtain ⟨kns, rfl, kn1, kn2, kn3⟩ := names_inv hp6
      have st6 := st5.trans s6
      have ga6 := st6.out ga hoa
      -- rows
      have ez : zipD (ofS kns) (rz.map rwD) = (kns.zip rz).map fun p => .tuple [.str p.1, rwD p.2] := by
        unfold zipD ofS
        rw [List.zipWith_map_left, List.zipWith_map_right, List.zip, List.map_zipWith]
      let kd : Str × Rw → Kd := fun p => ⟨p.1, p.2.cs, p.2.b, p.2.e, p.2.g⟩
      refine b_cons (s_setPo 8 [("name", 15), ("row", 21)] (lc2 15 21 (ns := kns.zip rz) (c1 := fun p => .str p.1) (c2 := fun p => rwD p.2) (by rw [← ez]; exact src_zip (pu_var 13 rfl hvk) (pu_var 8 rfl (hv4'.mono s6.g)) B.zip) (fun p => kdD (kd p)) (fun _ => true) scMoving.nd
        (fun _ _ _ _ _ _ _ _ _ _ _ _ _ => puts_nil) (fun n hn _ v w G3 g3 hv hw _ _ _ _ _ => ?el) (by rw [List.length_zip]; omega)) s6.s scMoving.nd fun v8' G7 H7 s7 hv8' => ?_)
      case el =>
        have hl3 : n.2.cs.length ≤ 3 := (hrz' n.2 (List.of_mem_zip hn).2).rc.2.2
        exact pu_tup (pua_cons (pu_var 15 rfl hv) (pua_cons (Pu.to (pu_tupleL (pu_slL (pu_ixT (i := 0) (pu_var 21 rfl hw) pu_int (by decide) rfl) puo_none (puo_some pu_int)) (by exact B.tuple)) (by
          rw [cutD_take _ (by decide)]
          show PyData.tuple ((ofI n.2.cs).take 3) = _
          rw [List.take_of_length_le (by simp [ofI]; omega)])) (pua_cons (pu_ixT (i := 1) (pu_var 21 rfl hw) pu_int (by decide) rfl) (pua_cons (pu_ixT (i := 2) (pu_var 21 rfl hw) pu_int (by decide) rfl) (pua_cons (pu_ixT (i := 3) (pu_var 21 rfl hw) pu_int (by decide) rfl) pua_nil)))))
      rw [filter_tt] at hv8'
      have st7 := st6.trans s7.pure
      have hP7 := hP6.step s7 (by simp)
      have ek : (kns.zip rz).map (fun p => kdD (kd p)) = ((kns.zip rz).map kd).map kdD := by rw [List.map_map]; rfl
      rw [ek] at hv8'
      have hko : ∀ q ∈ (kns.zip rz).map kd, (Nm q.nm ∧ q.nm ∉ resS) ∧ RowOk m q.cs q.b q.e q.g := by
        intro q hq
        obtain ⟨p, hp, rfl⟩ := List.mem_map.mp hq
        exact ⟨kn3 p.1 (List.of_mem_zip hp).1, hrz' p.2 (List.of_mem_zip hp).2⟩
      have hkn : (((kns.zip rz).map kd).map (·.nm)).Nodup := by
        rw [List.map_map]
        have : ((fun k : Kd => k.nm) ∘ kd) = Prod.fst := rfl
        rw [this, List.map_fst_zip (by omega)]
        exact kn2
      have hkl : ((kns.zip rz).map kd).length = rz.length := by rw [List.length_map, List.length_zip]; omega
      generalize (kns.zip rz).map kd = ks at hv8' hko hkn hkl
      -- fine
      refine b_cons (s_set 14 scMoving.nd (w_emptyM fun l hl => ?_))
      have F : LAt K G H a (c + 1100) l [] G7 [] (upd H7 l (.lst [])) := LAt.new (oa := oa) st7 (hP7.up (by omega)) hl
      refine b_cons (s_forD (src_list (pu_var 8 rfl hv8')) F.st.s fun G8 H8 s8 => ⟨fun i σ H' => ∃ (G9 : Hp) (vs : List V) (u15 u16 u17 u18 u19 u20 : Option V), σ = [some (.ref a), some (.int 5), some (.int m), u3, u4, some v5, u6, some v7, some v8', u9, u10, u11, some vn, some vk, some (.ref l), u15, u16, u17, u18, u19, u20, u21] ∧ Same G8 G9 ∧
        LAt K G H a (c + 1100) l ((ks.take i).map kdD) G9 vs H', ?_, ?_, ?_, ?_⟩)
      · exact ⟨G8, [], _, _, _, _, _, _, rfl, Same.refl G8, F.pure s8 oa hoa⟩
      · rintro i σ H' ⟨G9, vs, _, _, _, _, _, _, rfl, sg, F9⟩
        exact sg.trans F9.st.s
      · rintro i d x σ H' H9 hi ⟨G9, vs, w15, w16, w17, w18, w19, w20, rfl, sg, F9⟩ hw
        obtain ⟨G10, s10, hx10⟩ := hw G9 sg F9.st.s
        rw [List.getElem?_map] at hi
        obtain ⟨q, hq, rfl⟩ := Option.map_eq_some_iff.mp hi
        have hqm := List.mem_of_getElem? hq
        obtain ⟨-, hro⟩ := hko q hqm
        have F10 := F9.pure s10 oa hoa
        obtain ⟨t, ts, rfl, ht, hts⟩ := hx10.tup_inv
        cases hts with
        | cons d1 hts =>
        cases hts with
        | cons d2 hts =>
        cases hts with
        | cons d3 hts =>
        cases hts with
        | cons d4 hts =>
        cases hts with
        | cons d5 hts =>
        cases hts
        refine g_tup (SqT.same s10.s ht) rfl (gs_cons (g_name 15 scMoving.nd (gs_cons (g_name 16 scMoving.nd (gs_cons (g_name 17 scMoving.nd (gs_cons (g_name 18 scMoving.nd (gs_cons (g_name 19 scMoving.nd (gs_nil ?_)))))))))))
        refine b_cons (s_set 20 scMoving.nd (w_pu (d := optD q.e) (pu_if (put_w (puw_and (put_c (c_inOT (pu_var 18 rfl d4) (pu_var 16 rfl d2))) fun _ => puw_and1 (put_c (c_gt (pu_lenT (pu_var 16 rfl d2) B.len) pu_int)))) (fun _ => pu_var 18 rfl d4) (fun h => pu_non.to ?ee)) F10.st.s fun v11 G11 H11 s11 hv11 => ?_))
        case ee =>
          cases he : q.e with
          | none => rfl
          | some x =>
            exfalso
            obtain ⟨h1, h2⟩ := hro.re x he
            rw [he] at h
            have e1 : (Option.any (fun x => decide (x ∈ q.cs)) (some x)) = true := decide_eq_true h1
            rw [e1, Bool.true_and] at h
            have := of_decide_eq_false h
            simp [ofI] at this
            omega
        have F11 := F10.pure s11 oa hoa
        have hlen := F11.ds.length
        refine b_one (s_expr (w_append 14 rfl F11.hl (w_tup (a_cons (w_var 15 rfl (a_cons (w_var 16 rfl (a_cons (w_var 17 rfl (a_cons (w_var 20 rfl (a_cons (w_var 19 rfl (a_nil ⟨by show 5 ≤ sizeLine; decide, fun t' ht' => a_nil ?_⟩))))))))))))))
        obtain ⟨G12, g12, F12⟩ := F11.app oa hoa (xs := _) ht' ((Das.cons d1 (.cons d2 (.cons d3 .nil))).mono s11.g |>.append (.cons hv11 (.one (d5.mono s11.g))))
        refine rAppend_q (xs := vs) (by rw [upd_ne (ne_of_none F11.hl ht')]; exact F11.hl) (by
          rw [hlen, List.length_map, List.length_take]
          omega) ?_
        refine ⟨G12, vs ++ [.ref t'], _, _, _, _, _, _, rfl, sg.trans (s10.g.trans (s11.g.trans g12)), ?_⟩
        have et : (ks.take (i + 1)).map kdD = (ks.take i).map kdD ++ [kdD q] := by
          rw [List.take_add_one, hq, List.map_append]
          rfl
        rw [et]
        exact F12
      · rintro σ H' ⟨G9, vs, w15, w16, w17, w18, w19, w20, rfl, sg, F9⟩
        rw [List.length_map, List.take_length] at F9
        have s9 := F9.st.freeze F9.h0 F9.hl F9.gl
        have gm : Same G6 (upd G9 l (.lst vs)) := s7.g.trans (s8.g.trans (sg.trans (Same.toUpd F9.gl)))
        refine b_one (s_ret (w_pu ((pu_disp (pups_cons (.inr "names") pu_str (pu_var 12 rfl ((hvn.mono s6.g).mono gm)) (pups_cons (.inr "taken") pu_str (pu_var 5 rfl ((hv5.mono (s4.g.trans (s5.g.trans s6.g))).mono gm)) (pups_cons (.inr "rights") pu_str (pu_var 7 rfl ((hv7.mono (s4.g.trans (s5.g.trans s6.g))).mono gm)) (pups_cons (.inr "kinds") pu_str (pu_var 14 rfl (.lst upd_same (F9.ds.mono (Same.toUpd F9.gl)))) pups_nil)))) ownKeys).to (d1 := ownD ⟨nms, hh, prs, ks⟩) rfl) s9.s fun v11 G11 H11 s11 hv11 => ?_))
        exact k _ v11 G11 H11 ⟨_, rfl, hown nms ks hn1 hn2 hn3 (by omega) (by omega) hkn hko⟩ (s9.trans s11.pure) ((F9.pot.step s11 (by simp)).up (by omega)) hv11
    -- meetings of any
    have tail9 : ∀ (m : Nat) (hh : List Int) (prs : List (Int × Int)) (l : Addr) (rs : List Rw) (G3 H3 : Hp) (vs : List V) (v5 v7 : V) (u3 u4 u6 u9 u10 u11 u12 u13 u14 u15 u16 u17 u18 u19 u20 u21 : Option V), 2 ≤ m → m ≤ 5 →
        LAt K G H a (c + 700) l (rs.map rwD) G3 vs H3 → Da K G3 v5 (.list (ofI hh)) → Da K G3 v7 (dctD (prs.map fun p => (.inl p.1, .int p.2))) → rs.length ≤ 11 → (∀ r ∈ rs, RwOk m r) →
        (∀ nms ks, nms.length = m → nms.Nodup → (∀ x ∈ nms, Nm x ∧ x ∉ resS) → 1 ≤ ks.length → ks.length ≤ 8 → (ks.map (·.nm)).Nodup → (∀ k ∈ ks, (Nm k.nm ∧ k.nm ∉ resS) ∧ RowOk m k.cs k.b k.e k.g) → OwnOk ⟨nms, hh, prs, ks⟩) →
        eB (cxOf CX0 P w K mg base nMoving "_law_moving" (defScope sMoving) f cdv A outer s H E).nox ((defBody sMoving).drop 9) { nx := fun _ H' => Q .non H', rt := Q }
          [some (.ref a), some (.int 5), some (.int m), u3, u4, some v5, u6, some v7, some (.ref l), u9, u10, u11, u12, u13, u14, u15, u16, u17, u18, u19, u20, u21] H3 := by
      intro m hh prs l rs G3 H3 vs v5 v7 u3 u4 u6 u9 u10 u11 u12 u13 u14 u15 u16 u17 u18 u19 u20 u21 m2 m5 F hv5 hv7 hrl hrs hown
      have ga3 := F.st.out ga hoa
      refine b_cons (s_forI ⟨_, pi_range1 rfl B.range pa_e, a_cons (w_bin op_add (w_int (w_take hT hr (by decide) 0 rfl (u := 3) pu_int F.st.s ga3 F.st.s ga3 F.pot (by omega) (by decide) (by decide) fun r H4 r0 r3 s4 hP4 => ⟨1, r, rfl, rfl, a_nil ⟨1 + r, rfl, by omega, by omega, ?_⟩⟩)))⟩)
      have F4 := F.step s4 hP4 oa hoa
      refine ⟨G3, rangeD 0 (1 + r).toNat, fun i σ H' => ∃ (G9 : Hp) (vs : List V) (rs : List Rw) (u11 : Option V), σ = [some (.ref a), some (.int 5), some (.int m), u3, u4, some v5, u6, some v7, some (.ref l), u9, u10, u11, u12, u13, u14, u15, u16, u17, u18, u19, u20, u21] ∧ Same G3 G9 ∧ i ≤ 3 ∧ i ≤ rs.length ∧ rs.length ≤ 11 + i ∧ (∀ r ∈ rs, RwOk m r) ∧
        LAt K G H a (c + 701 + i * 21) l (rs.map rwD) G9 vs H', walks_range, ?_, ?_, ?_, ?_⟩
      · exact ⟨G3, vs, rs, _, rfl, Same.refl G3, by omega, by omega, by omega, hrs, F4⟩
      · rintro i σ H' ⟨G9, vs, rs, _, rfl, sg, _, _, _, _, F9⟩
        exact sg.trans F9.st.s
      · rintro i d x σ H' H9 hi ⟨G9, vs, rs, w11, rfl, sg, i3, i1, il, hrs, F9⟩ hw
        obtain ⟨him, rfl⟩ := rangeD_get hi
        obtain ⟨G10, s10, hx10⟩ := hw G9 sg F9.st.s
        have F10 := F9.pure s10 oa hoa
        refine g_name 11 scMoving.nd (b_one (s_expr (w_append 8 rfl F10.hl (w_tup (a_cons (w_call hS hr (by decide) (a_cons (w_var 0 rfl (a_cons (w_pu (pu_listR (n := m) (pu_var 2 rfl (.int m)) (by omega) B.list B.range) F10.st.s fun v11 G11 H11 s11 hv11 => a_cons (w_min B.min (a_cons (w_var 2 rfl (a_cons (w_draw hO hr (by decide) 0 rfl (pua_cons (pu_lst (ds := ofI [1, 2, 2, 2, 3]) (pua_cons pu_int (pua_cons pu_int (pua_cons pu_int (pua_cons pu_int (pua_cons pu_int pua_nil))))) (by decide)) pua_nil) s11.s ((F10.pure s11 oa hoa).st.out ga hoa) (F10.pure s11 oa hoa).pot (by omega) (.inl ⟨_, rfl, by decide, by decide⟩) fun d v12 G12 H12 hp s12 hP12 hv12 => a_nil ?_)))))))))))))))
        have F12 := (F10.pure s11 oa hoa).step s12 hP12 oa hoa
        obtain ⟨z, rfl, z1, z3⟩ : ∃ z : Int, d = .int z ∧ 1 ≤ z ∧ z ≤ 3 := by
          rcases hp with ⟨xs, e, hm⟩ | ⟨_, _, e, _⟩
          · injection e with e
            injection e with e
            subst e
            simp only [ofI, List.map_cons, List.map_nil, List.mem_cons, List.not_mem_nil, or_false] at hm
            rcases hm with h | h | h | h | h <;> exact ⟨_, h, by decide, by decide⟩
          · cases e
        obtain rfl := hv12.int_inv
        obtain ⟨n, hn, n1, n3, nm⟩ : ∃ n : Nat, (if z < (m : Int) then z else (m : Int)) = n ∧ 1 ≤ n ∧ n ≤ 3 ∧ n ≤ m := by
          by_cases h : z < (m : Int)
          · exact ⟨z.toNat, by rw [if_pos h]; omega, by omega, by omega, by omega⟩
          · exact ⟨m, by rw [if_neg h], by omega, by omega, by omega⟩
        refine ⟨m, z, rfl, ?_⟩
        rw [hn]
        refine a_nil ?_
        refine ⟨a, [v11, .int n], G12, [.list (ofI (rng m)), .int n], c + 702 + i * 21, rfl, rfl, F12.st.s, F12.st.out ga hoa, F12.pot.up (by omega), by omega, .cons ?_ (.one (.int _)), ⟨ofI (rng m), n, rfl, by simpa [ofI, rng_len] using nm, by simp [ofI, rng_len]; omega⟩, fun d v13 G13 H13 hp13 s13 hP13 hv13 => ?_⟩
        · have := hv11.mono s12.g
          rw [rangeD_rng] at this
          exact this
        obtain ⟨cs, rest, rfl, hcl, hcp⟩ := some_ints hp13
        have hcn := (List.nodup_append.mp ((hcp.nodup_iff).mpr (rng_nodup m))).1
        have hcm : ∀ x ∈ cs, 0 ≤ x ∧ x < m := fun x hx => mem_rng.mp (hcp.mem_iff.mp (List.mem_append_left _ hx))
        have F13 := F12.step (n' := c + 722 + i * 21) s13 (hP13.up (by omega)) oa hoa
        refine a_cons (w_non (a_cons (w_non (a_cons (w_non (a_nil ⟨by show 4 ≤ sizeLine; decide, fun t' ht' => a_nil ?_⟩))))))
        obtain ⟨G14, g14, F14⟩ := F13.app oa hoa ht' (.cons hv13 (.cons .non (.cons .non (.one .non))))
        have hlen := F13.ds.length
        refine rAppend_q (xs := vs) (by rw [upd_ne (ne_of_none F13.hl ht')]; exact F13.hl) (by
          rw [hlen, List.length_map]
          omega) ?_
        refine ⟨G14, vs ++ [.ref t'], rs ++ [⟨cs, none, none, none⟩], _, rfl, sg.trans (s10.g.trans (s11.g.trans (s12.g.trans (s13.g.trans g14)))), by omega, by simp; omega, by simp; omega, ?_, ?_⟩
        · intro r hr'
          rcases List.mem_append.mp hr' with h | h
          · exact hrs r h
          · rw [List.mem_singleton] at h
            subst h
            exact ⟨⟨⟨hcn, hcm⟩, by show 1 ≤ cs.length; omega, by show cs.length ≤ 3; omega⟩, fun x h => (by cases h), fun x h => (by cases h), fun x h => (by cases h)⟩
        · rw [List.map_append]
          exact F14.up (by omega)
      · rintro σ H' ⟨G9, vs, rs, w11, rfl, sg, i3, i1, il, hrs, F9⟩
        rw [rangeD_len] at i3 i1 il F9
        have s9 := F9.st.freeze F9.h0 F9.hl F9.gl
        have gm : Same G3 (upd G9 l (.lst vs)) := sg.trans (Same.toUpd F9.gl)
        exact tail10 m hh prs rs _ _ _ _ _ _ _ _ _ _ _ _ _ _ _ _ _ _ _ _ _ m2 m5 s9 (F9.pot.up (by omega)) (hv5.mono gm) (hv7.mono gm) (.lst upd_same (F9.ds.mono (Same.toUpd F9.gl))) (by omega) hrs hown
    -- who comes and goes
    have tail8 : ∀ (m : Nat) (kp : Int) (mv : List Int) (hh : List Int) (prs : List (Int × Int)) (l : Addr) (rs : List Rw) (G3 H3 : Hp) (vs : List V) (v5 v7 v9 : V) (u3 u6 u10 u11 u12 u13 u14 u15 u16 u17 u18 u19 u20 u21 : Option V), 2 ≤ m → m ≤ 5 → 0 ≤ kp → kp < m →
        LAt K G H a (c + 50) l (rs.map rwD) G3 vs H3 → Da K G3 v5 (.list (ofI hh)) → Da K G3 v7 (dctD (prs.map fun p => (.inl p.1, .int p.2))) → Da K G3 v9 (.list (ofI mv)) → mv.length ≤ 2 → (∀ x ∈ mv, 0 ≤ x ∧ x < m ∧ x ≠ kp) → rs.length ≤ 1 → (∀ r ∈ rs, RwOk m r) →
        (∀ nms ks, nms.length = m → nms.Nodup → (∀ x ∈ nms, Nm x ∧ x ∉ resS) → 1 ≤ ks.length → ks.length ≤ 8 → (ks.map (·.nm)).Nodup → (∀ k ∈ ks, (Nm k.nm ∧ k.nm ∉ resS) ∧ RowOk m k.cs k.b k.e k.g) → OwnOk ⟨nms, hh, prs, ks⟩) →
        eB (cxOf CX0 P w K mg base nMoving "_law_moving" (defScope sMoving) f cdv A outer s H E).nox ((defBody sMoving).drop 8) { nx := fun _ H' => Q .non H', rt := Q }
          [some (.ref a), some (.int 5), some (.int m), u3, some (.int kp), some v5, u6, some v7, some (.ref l), some v9, u10, u11, u12, u13, u14, u15, u16, u17, u18, u19, u20, u21] H3 := by
      intro m kp mv hh prs l rs G3 H3 vs v5 v7 v9 u3 u6 u10 u11 u12 u13 u14 u15 u16 u17 u18 u19 u20 u21 m2 m5 kp0 kpm F hv5 hv7 hv9 hmv hmx hrl hrs hown
      refine b_cons (s_forD (src_list (pu_var 9 rfl hv9)) F.st.s fun G8 H8 s8 => ⟨fun i σ H' => ∃ (G9 : Hp) (vs : List V) (rs : List Rw) (u10 : Option V), σ = [some (.ref a), some (.int 5), some (.int m), u3, some (.int kp), some v5, u6, some v7, some (.ref l), some v9, u10, u11, u12, u13, u14, u15, u16, u17, u18, u19, u20, u21] ∧ Same G8 G9 ∧ rs.length ≤ 1 + i * 5 ∧ (∀ r ∈ rs, RwOk m r) ∧
        LAt K G H a (c + 50 + i * 300) l (rs.map rwD) G9 vs H', ?_, ?_, ?_, ?_⟩)
      · exact ⟨G8, vs, rs, _, rfl, Same.refl G8, by omega, hrs, F.pure s8 oa hoa⟩
      · rintro i σ H' ⟨G9, vs, rs, _, rfl, sg, _, _, F9⟩
        exact sg.trans F9.st.s
      · rintro i d x σ H' H9 hi ⟨G9, vs, rs, w10, rfl, sg, il, hrs, F9⟩ hw
        have hil := (List.getElem?_eq_some_iff.mp hi).1
        have hil' : i < mv.length := by simpa [ofI] using hil
        obtain ⟨z, hz, rfl⟩ := List.mem_map.mp (List.mem_of_getElem? hi)
        obtain ⟨z0, zm, zk⟩ := hmx z hz
        obtain ⟨G10, s10, hx10⟩ := hw G9 sg F9.st.s
        obtain rfl := hx10.int_inv
        have F10 := F9.pure s10 oa hoa
        refine g_name 10 scMoving.nd (b_one (s_expr (w_extend 8 rfl F10.hl (w_draw (ds := [.int m, .int z, .int kp]) hM hr (by decide) 0 rfl (pua_cons (pu_var 2 rfl (.int m)) (pua_cons (pu_var 10 rfl (.int z)) (pua_cons (pu_var 4 rfl (.int kp)) pua_nil))) F10.st.s (F10.st.out ga hoa) F10.pot (by omega) ⟨m, z, kp, rfl, m2, m5, z0, zm, kp0, kpm, zk⟩ fun d v11 G11 H11 hp s11 hP11 hv11 => a_nil ?_))))
        obtain ⟨rs2, rfl, hr2, hro2⟩ := moves_inv hp
        have F11 := F10.step s11 hP11 oa hoa
        obtain ⟨l2, vs2, rfl, h1, h2⟩ := hv11.lst_inv
        have hlen := F11.ds.length
        have hlen2 := h2.length
        rw [List.length_map] at hlen hlen2
        refine ⟨l, l2, vs, vs2, rfl, rfl, F11.hl, F11.st.s _ _ h1, ?_, ?_⟩
        · exact Nat.le_trans (show vs.length + vs2.length ≤ 100 by omega) (by decide)
        · refine ⟨G11, vs ++ vs2, rs ++ rs2, _, rfl, sg.trans (s10.g.trans s11.g), by rw [List.length_append]; omega, fun r h => ?_, ?_⟩
          · rcases List.mem_append.mp h with h | h
            · exact hrs r h
            · exact hro2 r h
          · rw [List.map_append]
            exact (F11.ext oa hoa h2).up (by omega)
      · rintro σ H' ⟨G9, vs, rs, w10, rfl, sg, il, hrs, F9⟩
        have hml : (ofI mv).length = mv.length := by simp [ofI]
        rw [hml] at il F9
        have gm : Same G3 G9 := s8.g.trans sg
        exact tail9 m hh prs l rs _ _ vs _ _ _ _ _ _ _ _ _ _ _ _ _ _ _ _ _ _ m2 m5 (F9.up (by omega)) (hv5.mono gm) (hv7.mono gm) (by omega) hrs hown
    -- many, order, keeper
    refine b_cons (s_set 2 scMoving.nd (w_add (w_int (w_take hT hr (by decide) 0 rfl (u := 5 - 1) (pu_sub (pu_var 1 rfl (.int 5)) pu_int) g ga g ga hP (by omega) (by decide) (by decide) fun t0 H1 t1 t2 s1 hP1 => ⟨2, t0, rfl, rfl, ?_⟩))))
    obtain ⟨m, hm, m2, m5⟩ : ∃ m : Nat, 2 + t0 = m ∧ 2 ≤ m ∧ m ≤ 5 := ⟨(2 + t0).toNat, by omega, by omega, by omega⟩
    rw [hm]
    refine b_cons (s_set 3 scMoving.nd (w_draw (ds := [.list (ofI (rng m)), .int m]) hS hr (by decide) 0 rfl (pua_cons (Pu.to (pu_listR (n := m) (pu_var 2 rfl (.int m)) (by omega) B.list B.range) (by rw [rangeD_rng]; rfl)) (pua_cons (pu_var 2 rfl (.int m)) pua_nil)) s1.s (s1.out ga hoa) hP1 (by omega) ⟨ofI (rng m), m, rfl, by simp [ofI, rng_len], by simp [ofI, rng_len]; omega⟩ fun d2 v3 G2 H2 hp2 s2 hP2 hv3 => ?_))
    obtain ⟨os, rest, rfl, hol, hop⟩ := some_ints hp2
    have hrest : rest = [] := by
      have := hop.length_eq
      rw [List.length_append, rng_len] at this
      exact List.length_eq_zero_iff.mp (by omega)
    subst hrest
    rw [List.append_nil] at hop
    have hos_nd : os.Nodup := (hop.nodup_iff).mpr (rng_nodup m)
    have hos_m : ∀ x, x ∈ os ↔ 0 ≤ x ∧ x < m := fun x => by rw [hop.mem_iff, mem_rng]
    obtain ⟨kp, os', rfl⟩ : ∃ kp os', os = kp :: os' := by
      cases os with
      | nil => simp at hol; omega
      | cons x xs => exact ⟨x, xs, rfl⟩
    have hkp := (hos_m kp).mp List.mem_cons_self
    have st2 := s1.trans s2
    refine b_cons (s_set 4 scMoving.nd (w_pu (pu_ixL (i := 0) (d := .int kp) (pu_var 3 rfl hv3) pu_int (by decide) rfl) s2.s fun v4 G3 H3 s3 hv4 => ?_))
    obtain rfl := hv4.int_inv
    have st3 := st2.trans s3.pure
    have ga3 := st3.out ga hoa
    have hP3 := hP2.step s3 (by simp)
    have hv3' := hv3.mono s3.g
    obtain ⟨lo, vo, rfl, hlo, hvo⟩ := hv3'.lst_inv
    obtain rfl := hvo.ints
    -- here
    refine b_cons (s_set 5 scMoving.nd (w_sorted (w_slice sl_list (w_var 3 rfl (o_none (o_some (w_add (w_int (w_take hT hr (by decide) 0 rfl (u := m) (pu_var 2 rfl (.int m)) s3.s ga3 s3.s ga3 hP3 (by omega) (by omega) (by omega) fun r4 H4 r40 r41 s4 hP4 => ⟨1, r4, rfl, rfl, 1 + r4, rfl, ?_⟩))))))) B.sorted))
    refine ⟨lo, _, rfl, SqL.of (s4.s _ _ hlo), fun p hp => ⟨p, (kp :: os').take (1 + r4).toNat, rfl, SqL.of (by rw [cutV_take _ (by omega), ← List.map_take]; exact upd_same), ?_, fun hh p2 hperm hsort hp2 => ?_⟩⟩
    · rw [List.length_take]; omega
    obtain ⟨k4, hk4⟩ : ∃ k4, (1 + r4).toNat = k4 + 1 := ⟨r4.toNat, by omega⟩
    rw [hk4] at hperm
    have hh_nd : hh.Nodup := (hperm.nodup_iff).mpr (hos_nd.sublist (List.take_sublist _ _))
    have hh_lt : hh.Pairwise (· < ·) := (hsort.and (List.nodup_iff_pairwise_ne.mp hh_nd)).imp fun {x y} h => by omega
    have hh_m : ∀ x ∈ hh, 0 ≤ x ∧ x < m := fun x hx => (hos_m x).mp (List.mem_of_mem_take (hperm.mem_iff.mp hx))
    have hh_kp : kp ∈ hh := hperm.mem_iff.mpr (by rw [List.take_succ_cons]; exact List.mem_cons_self)
    have hh_l : hh.length ≤ 5 := by
      have h1 := hperm.length_eq
      rw [List.length_take] at h1
      omega
    have s5 : Step [a] G3 H3 (upd G3 p2 (.lst (hh.map V.int))) (upd (upd H4 p (.lst (cutV ((kp :: os').map V.int) none (some (1 + r4))))) p2 (.lst (hh.map V.int))) := (s4.allocF hp).trans (Step.alloc (s4.allocF hp).s hp2)
    have hP5 : PotAt (upd (upd H4 p (.lst (cutV ((kp :: os').map V.int) none (some (1 + r4))))) p2 (.lst (hh.map V.int))) a (c + 22) := by
      have nap : a ≠ p := ne_of_none hP4.some.choose_spec hp
      have nap2 : a ≠ p2 := ne_of_none (show (upd H4 p (.lst (cutV ((kp :: os').map V.int) none (some (1 + r4))))) a = some _ by rw [upd_ne nap]; exact hP4.some.choose_spec) hp2
      exact (hP4.up (by omega)).of (by rw [upd_ne nap2, upd_ne nap])
    have hv5 : Da K (upd G3 p2 (.lst (hh.map V.int))) (.ref p2) (.list (ofI hh)) := .lst upd_same (Das.ofInts _)
    have hlo' := s5.g _ _ hlo
    generalize upd G3 p2 (.lst (hh.map V.int)) = G5 at s5 hv5 hlo'
    generalize upd (upd H4 p (.lst (cutV ((kp :: os').map V.int) none (some (1 + r4))))) p2 (.lst (hh.map V.int)) = H5 at s5 hP5
    have st5 := st3.trans s5
    -- away
    have hrl : (rng m).length ≤ 5 := by rw [rng_len]; omega
    refine b_cons (s_set 6 scMoving.nd (w_pu (pu_lc1 10 (cd := PyData.int) (ns := rng m) (by rw [← rangeD_rng]; exact src_range (n := m) (pu_var 2 rfl (.int _)) (by omega) (by omega) B.range) PyData.int (fun x => !decide (x ∈ hh)) scMoving.nd
      (fun n hn v G3 g3 hv _ _ _ _ _ => puts_one (put_c (c_ninI (pu_var 10 rfl hv) (pu_var 5 rfl (hv5.mono g3))))) (fun n hn _ v G3 g3 hv _ _ _ _ _ => pu_var 10 rfl hv) (by omega)) st5.s fun v6 G6 H6 s6 hv6 => ?_))
    generalize haw : (rng m).filter (fun x => !decide (x ∈ hh)) = aw at hv6
    have mem_aw : ∀ x, x ∈ aw ↔ (0 ≤ x ∧ x < m) ∧ x ∉ hh := fun x => by
      rw [← haw, List.mem_filter, mem_rng]
      constructor
      · rintro ⟨h1, h2⟩
        exact ⟨h1, fun h => by rw [decide_eq_true h] at h2; cases h2⟩
      · rintro ⟨h1, h2⟩
        exact ⟨h1, by rw [decide_eq_false h2]; rfl⟩
    have aw_l : aw.length ≤ 5 := by rw [← haw]; exact Nat.le_trans (List.length_filter_le _ _) hrl
    have aw_nd : aw.Nodup := by rw [← haw]; exact (rng_nodup m).filter _
    have st6 := st5.trans s6.pure
    have ga6 := st6.out ga hoa
    have hP6 := hP5.step s6 (by simp)
    have hv5' := hv5.mono s6.g
    -- rights
    refine b_cons (s_set 7 scMoving.nd (w_dictC (w_lc [("hand", 10)] (blkOk_by (by kernel_rfl)) scMoving.nd (lc1P 10 a (c + 22) 2 scMoving.nd ((src_list (pu_var 6 rfl hv6)) G6 H6 (Same.refl G6) s6.s _ fun J G8 H8 s8 hw =>
      ⟨G8, ofI aw, fun i acc => i ≤ 5 ∧ ∃ prs : List (Int × Int), acc = (prs.map fun p => (.tuple [.int p.1, .int p.2] : Dt)) ∧ prs.map (·.1) = aw.take i ∧ ∀ p ∈ prs, p.2 ∈ hh, s8.s, hw, s8.out ga6 hP6.some.choose_spec, hP6.step s8 (by simp), ⟨by omega, [], rfl, rfl, by simp⟩, ?r1, ?r2, ?r3⟩))) B.dict))
    case r1 =>
      rintro i acc ⟨hi, prs, rfl, hk, _⟩
      have := congrArg List.length hk
      rw [List.length_map, List.length_take] at this
      rw [List.length_map]
      omega
    case r2 =>
      intro i d x G9 H9 acc hd g9 s9 ga9 hP9 hR hx s0 H0 C cl fp Q q
      obtain ⟨hi1, prs, rfl, hk, hpr⟩ := hR
      have hil := (List.getElem?_eq_some_iff.mp hd).1
      have hil' : i < aw.length := by simpa [ofI] using hil
      obtain ⟨z, hz, rfl⟩ : ∃ z, aw[i]? = some z ∧ d = .int z := by
        unfold ofI at hd
        rw [List.getElem?_map] at hd
        obtain ⟨z, hz, rfl⟩ := Option.map_eq_some_iff.mp hd
        exact ⟨z, hz, rfl⟩
      obtain rfl := hx.int_inv
      refine w_tup (a_cons (w_var 10 rfl (a_cons (eE.mono (Q' := fun v H' => ∃ (y : Int) (G' : Hp), v = .int y ∧ y ∈ hh ∧ Step [a] G9 H9 G' H' ∧ PotAt H' a (c + 22 + (i + 1) * 2)) (w_if (t_cmp op_gt (w_take hT hr (by decide) 0 rfl (u := 3) pu_int s9 ga9 s9 ga9 hP9 (by omega) (by decide) (by decide) fun r H1 r0 r1 s1 hP1 => w_int ⟨r, 0, rfl, rfl, _, rfl, ite2 (fun _ => ?_) (fun _ => ?_)⟩))) ?_))))
      · exact w_var 4 rfl ⟨kp, G9, rfl, hh_kp, s1, hP1.up (by omega)⟩
      · refine w_draw hO hr (by decide) 0 rfl (pua_cons (pu_var 5 rfl ((hv5'.mono s8.g).mono g9)) pua_nil) s1.s (s1.out ga9 hP9.some.choose_spec) hP1 (by omega) (.inl ⟨_, rfl, by simp only [ofI, List.length_map]; exact List.length_pos_of_mem hh_kp, by simp only [ofI, List.length_map]; omega⟩) fun d' v' G10 H10 hp s10 hP10 hv' => ?_
        obtain ⟨y, hy, rfl⟩ := List.mem_map.mp (of_inv hp)
        exact ⟨y, G10, hv'.int_inv, hy, s1.trans s10, hP10.up (by omega)⟩
      rintro v' H10 ⟨y, G10, rfl, hy, s10, hP10⟩
      refine a_nil ⟨by show 2 ≤ sizeLine; decide, fun t ht => ?_⟩
      refine q _ (.tuple [.int z, .int y]) _ _ (s10.trans (Step.alloc s10.s ht)) (.tup (SqT.of upd_same) (.cons (.int _) (.one (.int _)))) ?_ ⟨by omega, prs ++ [(z, y)], by simp, ?_, ?_⟩
      · exact hP10.of (upd_ne (ne_of_none hP10.some.choose_spec ht))
      · rw [List.map_append, hk, List.take_add_one, hz]
        rfl
      · intro p hp
        rcases List.mem_append.mp hp with h | h
        · exact hpr p h
        · rw [List.mem_singleton] at h
          subst h
          exact hy
    case r3 =>
      intro v7 G9 H9 acc s9 hv7 hR hP9
      have hal : (ofI aw).length = aw.length := by simp [ofI]
      rw [hal] at hR hP9
      obtain ⟨hi1, prs, rfl, hk, hpr⟩ := hR
      rw [List.take_length] at hk
      have e8 : (prs.map fun p => (.tuple [.int p.1, .int p.2] : Dt)) = ((prs.map fun p => ((.inl p.1 : Key), (.int p.2 : Dt))).map fun p => .tuple [keyD p.1, p.2]) := by
        rw [List.map_map]
        rfl
      rw [e8] at hv7
      refine ⟨G9, _, hv7, s9.s, ?_, fun v9 G10 H10 s10 hv9 => ?_⟩
      · rw [List.map_map]
        have : ((fun x : Key × Dt => x.1) ∘ fun p : Int × Int => ((.inl p.1 : Key), (.int p.2 : Dt))) = (Sum.inl ∘ Prod.fst) := rfl
        rw [this, ← List.map_map, hk, List.nodup_iff_pairwise_ne, List.pairwise_map]
        refine (List.nodup_iff_pairwise_ne.mp aw_nd).imp fun {x y} h e => h ?_
        have e' : (Sum.inl x : Key) = Sum.inl y := e
        injection e' with e'
      have hown : ∀ nms ks, nms.length = m → nms.Nodup → (∀ x ∈ nms, Nm x ∧ x ∉ resS) → 1 ≤ ks.length → ks.length ≤ 8 → (ks.map (·.nm)).Nodup → (∀ k ∈ ks, (Nm k.nm ∧ k.nm ∉ resS) ∧ RowOk m k.cs k.b k.e k.g) → OwnOk ⟨nms, hh, prs, ks⟩ := by
        intro nms ks h1 h2 h3 h4 h5 h6 h7
        refine ⟨by show 2 ≤ nms.length; omega, by show nms.length ≤ 5; omega, h2, h3, hh_lt, fun h => ?_, fun x hx => ?_, ?_, hpr, h4, h5, h6, fun q hq => ?_⟩
        · have h' : hh = [] := h
          rw [h'] at hh_kp
          cases hh_kp
        · have := hh_m x hx
          show 0 ≤ x ∧ x < (nms.length : Int)
          omega
        · show prs.map (·.1) = (rng nms.length).filter fun x => !decide (x ∈ hh)
          rw [hk, h1, haw]
        · show (Nm q.nm ∧ q.nm ∉ resS) ∧ RowOk (nms.length : Nat) q.cs q.b q.e q.g
          rw [h1]
          exact h7 q hq
      have st10 : Step [a] G H G10 H10 := st6.trans (s8.pure.trans (s9.trans s10.pure))
      have hP10 : PotAt H10 a (c + 32) := (hP9.step s10 (by simp)).up (by omega)
      have ga10 := st10.out ga hoa
      have g610 : Same G6 G10 := s8.g.trans (s9.g.trans s10.g)
      -- rows
      refine b_cons (s_set 8 scMoving.nd (eE.mono (Q' := fun v H' => ∃ (l : Addr) (rs : List Rw) (G' : Hp) (vs : List V), v = .ref l ∧ rs.length ≤ 1 ∧ (∀ r ∈ rs, RwOk m r) ∧ Same G10 G' ∧ LAt K G H a (c + 33) l (rs.map rwD) G' vs H') (w_if (t_cmp op_gt (w_take hT hr (by decide) 0 rfl (u := 4) pu_int st10.s ga10 st10.s ga10 hP10 (by omega) (by decide) (by decide) fun r H1 r0 r1 s1 hP1 => w_int ⟨r, 0, rfl, rfl, _, rfl, ite2 (fun _ => ?_) (fun _ => ?_)⟩))) ?_))
      · refine w_lst (a_cons (w_pu (d := rwD ⟨[kp], none, none, none⟩) (pu_tup (pua_cons (pu_lst (pua_cons (pu_var 4 rfl (.int kp)) pua_nil)) (pua_cons pu_non (pua_cons pu_non (pua_cons pu_non pua_nil))))) s1.s fun v11 G11 H11 s11 hv11 => a_nil ⟨by show 1 ≤ sizeLine; decide, fun l hl => ?_⟩))
        have F := (LAt.new (oa := oa) (st10.trans (s1.trans s11.pure)) (hP1.step s11 (by simp)) hl).ext oa hoa (.one hv11)
        rw [upd_upd] at F
        exact ⟨l, [⟨[kp], none, none, none⟩], G11, _, rfl, by simp, fun r hr' => by
          rw [List.mem_singleton] at hr'
          subst hr'
          exact ⟨⟨⟨by simp, fun x hx => by rw [List.mem_singleton] at hx; omega⟩, by simp, by simp⟩, fun x h => (by cases h), fun x h => (by cases h), fun x h => (by cases h)⟩, s11.g, F⟩
      · exact w_emptyM fun l hl => ⟨l, [], G10, [], rfl, by simp, by simp, Same.refl _, LAt.new (oa := oa) (st10.trans s1) hP1 hl⟩
      rintro v8 H11 ⟨l, rs, G11, vs, rfl, rs1, hrs, g11, F⟩
      -- movers
      have gg : Same G5 G11 := s6.g.trans (g610.trans g11)
      have hv3'' : Da K G11 (.ref lo) (.list (ofI (kp :: os'))) := .lst (gg _ _ hlo') (Das.ofInts _)
      have hv6' := hv6.mono (g610.trans g11)
      have hfl : ((kp :: os').filter fun x => !decide (x ∈ aw) && !decide (x = kp)).length ≤ 5 := Nat.le_trans (List.length_filter_le _ _) (by omega)
      refine b_cons (s_set 9 scMoving.nd (w_slice sl_list (w_pu (d := .list (ofI (aw ++ (kp :: os').filter fun x => !decide (x ∈ aw) && !decide (x = kp)))) (Pu.to (pu_cat (pu_var 6 rfl hv6') (pu_lc1 10 (cd := PyData.int) (ns := kp :: os') (src_list (pu_var 3 rfl hv3'')) PyData.int (fun x => !decide (x ∈ aw) && !decide (x = kp)) scMoving.nd
        (fun n hn v G3 g3 hv _ _ _ _ _ => puts_one (put_w (puw_and (put_c (c_ninI (pu_var 10 rfl hv) (pu_var 6 rfl (hv6'.mono g3)))) fun _ => puw_and1 (put_c (c_neI (pu_var 10 rfl hv) (pu_var 4 rfl (.int kp))))))) (fun n hn _ v G3 g3 hv _ _ _ _ _ => pu_var 10 rfl hv) (by omega)) ?mlen) ?meq) F.st.s fun v12 G12 H12 s12 hv12 => o_none (o_some (w_add (w_int (w_take hT hr (by decide) 0 rfl (u := 2) pu_int (F.pure s12 oa hoa).st.s ((F.pure s12 oa hoa).st.out ga hoa) (F.pure s12 oa hoa).st.s ((F.pure s12 oa hoa).st.out ga hoa) (F.pure s12 oa hoa).pot (by omega) (by decide) (by decide)
        fun r H13 r0 r1 s13 hP13 => ⟨1, r, rfl, rfl, 1 + r, rfl, ?_⟩)))))))
      case mlen =>
        simp only [List.length_map]
        exact Nat.le_trans (show aw.length + _ ≤ 10 by omega) (by decide)
      case meq => simp [ofI]
      obtain ⟨lc, vc, rfl, h1, h2⟩ := hv12.lst_inv
      obtain rfl := h2.ints
      have F13 := (F.pure s12 oa hoa).step s13 hP13 oa hoa
      refine ⟨lc, _, rfl, SqL.of (s13.s _ _ h1), fun p hp => ?_⟩
      have hmv : ∀ x ∈ (aw ++ (kp :: os').filter fun x => !decide (x ∈ aw) && !decide (x = kp)).take (1 + r).toNat, 0 ≤ x ∧ x < m ∧ x ≠ kp := by
        intro x hx
        rcases List.mem_append.mp (List.mem_of_mem_take hx) with h | h
        · obtain ⟨h1, h2⟩ := (mem_aw x).mp h
          exact ⟨h1.1, h1.2, fun e => h2 (e ▸ hh_kp)⟩
        · rw [List.mem_filter] at h
          have := (hos_m x).mp h.1
          refine ⟨this.1, this.2, fun e => ?_⟩
          have h2 := h.2
          rw [e, decide_eq_true (rfl : kp = kp)] at h2
          simp at h2
      have hmvl : ((aw ++ (kp :: os').filter fun x => !decide (x ∈ aw) && !decide (x = kp)).take (1 + r).toNat).length ≤ 2 := by
        rw [List.length_take]
        omega
      have ec : cutV ((aw ++ (kp :: os').filter fun x => !decide (x ∈ aw) && !decide (x = kp)).map V.int) none (some (1 + r)) = ((aw ++ (kp :: os').filter fun x => !decide (x ∈ aw) && !decide (x = kp)).take (1 + r).toNat).map V.int := by
        rw [cutV_take _ (by omega), List.map_take]
      rw [ec]
      generalize (aw ++ (kp :: os').filter fun x => !decide (x ∈ aw) && !decide (x = kp)).take (1 + r).toNat = mv at hmv hmvl
      have F14 := F13.step (n' := c + 50) (Step.alloc (o := .lst (mv.map V.int)) F13.st.s hp) ((F13.pot.up (by omega)).of (upd_ne (ne_of_none F13.pot.some.choose_spec hp))) oa hoa
      have g14 : Same G10 (upd G12 p (.lst (mv.map V.int))) := g11.trans (s12.g.trans (Same.toUpd (F13.st.s.free hp)))
      exact tail8 m kp mv hh prs l rs _ _ vs _ _ _ _ _ _ _ _ _ _ _ _ _ _ _ _ _ m2 m5 hkp.1 hkp.2 F14 ((hv5'.mono g610).mono g14) (hv9.mono g14) (.lst upd_same (Das.ofInts _)) hmvl hmv rs1 hrs hown
end
end Mb

set_option Elab.async false
set_option linter.all false
set_option maxRecDepth 100000
set_option maxHeartbeats 2000000
namespace Mb
open PySem PySem.Spec PyProof.Rows L2 TL
section
variable {P : Program} {w : World} {K : PySem.W.Frag} {mg : Str → Option Value} {base : Heap}
abbrev HStill (P w K mg base) := Has P w K mg base "_law_still" 5 2 (spDraw K 300 1 preHall postHall)
abbrev HMoving (P w K mg base) := Has P w K mg base "_law_moving" 5 2 (spDraw K 1200 1 preHall postHall)
theorem scHall : FnScope ["pot", "most"] ["pot", "most"] (defScope sLawHall) := ⟨rfl, rfl, rfl, by decide +kernel, rfl, by decide +kernel, by decide +kernel⟩
theorem has_lawhall (T : Top1 K mg "_law_hall" sLawHall ["pot", "most"]) (B : Blt mg) (hT : HTake P w K mg base) (hS : HStill P w K mg base) (hM : HMoving P w K mg base) : Has P w K mg base "_law_hall" 6 2 (spDraw K 1300 1 preHall postHall) := by
  refine mkHas (k := 5) T scHall spDraw_len fun f cdv A outer s H vs Q E hr h => ?_
  obtain ⟨a, ws, G, ds, c, rfl, hl, g, ga, hP, hc, hds, rfl, k⟩ := h
  cases hds with
  | cons hd hn =>
    cases hn
    obtain rfl := hd.int_inv
    obtain ⟨oa, hoa⟩ := hP.some
    refine b_one (s_ret (w_if (t_cmp op_eq (w_take hT hr (by decide) 0 rfl (u := 2) pu_int g ga g ga hP (by omega) (by decide) (by decide) fun r H1 r0 r1 s1 hP1 => w_int ⟨rfl, _, rfl, ite2 (fun _ => ?_) (fun _ => ?_)⟩))))
    · exact w_draw hS hr (by decide) 0 rfl (pua_cons (pu_var 1 rfl (.int 5)) pua_nil) s1.s (s1.out ga hoa) hP1 (by omega) rfl fun d v G2 H2 hp s2 hP2 hv => k d v G2 H2 hp (s1.trans s2) (hP2.up (by omega)) hv
    · exact w_draw hM hr (by decide) 0 rfl (pua_cons (pu_var 1 rfl (.int 5)) pua_nil) s1.s (s1.out ga hoa) hP1 (by omega) rfl fun d v G2 H2 hp s2 hP2 hv => k d v G2 H2 hp (s1.trans s2) (hP2.up (by omega)) hv
end
end Mb

set_option Elab.async false
set_option linter.all false
set_option maxRecDepth 100000
set_option maxHeartbeats 2000000
namespace Mb
open PySem PySem.Spec PyProof.Rows L2 TL
/-! ### the text of a hall -/
def nmA (ns : List Str) (i : Int) : Str := (ns[i.toNat]?).getD ⟨#[]⟩
theorem nmA_get {ns : List Str} {i : Int} (h0 : 0 ≤ i) (h1 : i < ns.length) : (ofS ns)[i.toNat]? = some (.str (nmA ns i)) := by
  unfold ofS nmA
  rw [List.getElem?_map, List.getElem?_eq_getElem (show i.toNat < ns.length by omega)]
  rfl
theorem nmA_mem {ns : List Str} {i : Int} (h0 : 0 ≤ i) (h1 : i < ns.length) : nmA ns i ∈ ns := by
  unfold nmA
  rw [List.getElem?_eq_getElem (show i.toNat < ns.length by omega)]
  exact List.getElem_mem _
def optW (ns : List Str) (w : Str) : Option Int → List Str
  | .none => []
  | .some i => [w, nmA ns i]
def partsK (k : Kd) : List (Str × Option Int) := [("begins", k.b), ("ends", k.e), ("gives", k.g)]
def wordsK (ns : List Str) (k : Kd) : List Str := ("meet" : Str) :: k.nm :: (k.cs.map (nmA ns) ++ (partsK k).flatMap fun p => optW ns p.1 p.2)
def lineK (ns : List Str) (k : Kd) : Str := Txt.join " " (wordsK ns k)
def linesO (o : Own) : List Str := [Txt.join " " (("hands" : Str) :: o.names), Txt.join " " (("taken" : Str) :: o.taken.map (nmA o.names))] ++ o.rights.map (fun p => Txt.join " " [("right" : Str), nmA o.names p.1, nmA o.names p.2]) ++ o.kinds.map (lineK o.names)
def textO (o : Own) : Str := Txt.join "\n" (linesO o)
structure KdOk (m : Int) (k : Kd) : Prop where
  nm : Nm k.nm
  row : RowOk m k.cs k.b k.e k.g
theorem sum_le {b : Nat} : ∀ (l : List Nat), (∀ x ∈ l, x ≤ b) → l.sum ≤ l.length * b
  | [], _ => by simp
  | x :: l, h => by
    have := sum_le l fun y hy => h y (List.mem_cons_of_mem _ hy)
    have := h x List.mem_cons_self
    rw [List.sum_cons, List.length_cons, Nat.add_mul]
    omega
/-! a list that is being built, no pot -/
structure PAt (K : PySem.W.Frag) (G H : Hp) (l : Addr) (ds : List Dt) (G3 : Hp) (vs : List V) (H3 : Hp) : Prop where
  st : Step [] G H G3 H3
  hl : H3 l = some (.lst vs)
  gl : G3 l = none
  h0 : H l = none
  ds : Das K G3 vs ds
section
variable {K : PySem.W.Frag} {G H : Hp} {l : Addr} {ds es : List Dt} {G3 G5 : Hp} {vs : List V} {H3 H5 : Hp}
theorem PAt.pure (f : PAt K G H l ds G3 vs H3) (s : Step [] G3 H3 G5 H5) : PAt K G H l ds G5 vs H5 :=
  ⟨f.st.trans s, s.keep f.hl (by simp), s.out f.gl f.hl, f.h0, f.ds.mono s.g⟩
theorem PAt.ext (f : PAt K G H l ds G3 vs H3) {ws : List V} (hw : Das K G3 ws es) : PAt K G H l (ds ++ es) G3 (vs ++ ws) (upd H3 l (.lst (vs ++ ws))) :=
  ⟨f.st.mutF f.h0 f.gl f.hl, upd_same, f.gl, f.h0, f.ds.append hw⟩
theorem PAt.fin (f : PAt K G H l ds G3 vs H3) : Step [] G H (upd G3 l (.lst vs)) H3 := f.st.freeze f.h0 f.hl f.gl
theorem PAt.da (f : PAt K G H l ds G3 vs H3) : Da K (upd G3 l (.lst vs)) (.ref l) (.list ds) := .lst upd_same (f.ds.mono (Same.toUpd f.gl))
theorem PAt.new {vs : List V} (s : Step [] G H G3 H3) (hd : Das K G3 vs ds) (hl : H3 l = none) : PAt K G H l ds G3 vs (upd H3 l (.lst vs)) :=
  ⟨s.allocF hl, upd_same, s.s.free hl, s.free hl, hd⟩
end
section
variable {P : Program} {w : World} {K : PySem.W.Frag} {mg : Str → Option Value} {base : Heap}
theorem optN {K : PySem.W.Frag} {G : Hp} {o : Option Int} {v : V} (h : Da K G v (optD o)) : decide (v = V.non) = o.isNone := by
  cases o with
  | none =>
    obtain rfl := h.non_inv
    exact decide_eq_true rfl
  | some x =>
    obtain rfl := h.int_inv
    exact decide_eq_false fun e => nomatch e
theorem own_names (o : Own) : lookD [((.inr "names" : Key), PyData.list (ofS o.names)), (.inr "taken", .list (ofI o.taken)), (.inr "rights", dctD (o.rights.map fun p => (.inl p.1, .int p.2))), (.inr "kinds", .list (o.kinds.map kdD))] (.inr "names") = some (.list (ofS o.names)) := rfl
theorem own_taken (o : Own) : lookD [((.inr "names" : Key), PyData.list (ofS o.names)), (.inr "taken", .list (ofI o.taken)), (.inr "rights", dctD (o.rights.map fun p => (.inl p.1, .int p.2))), (.inr "kinds", .list (o.kinds.map kdD))] (.inr "taken") = some (.list (ofI o.taken)) := rfl
theorem own_rights (o : Own) : lookD [((.inr "names" : Key), PyData.list (ofS o.names)), (.inr "taken", .list (ofI o.taken)), (.inr "rights", dctD (o.rights.map fun p => (.inl p.1, .int p.2))), (.inr "kinds", .list (o.kinds.map kdD))] (.inr "rights") = some (dctD (o.rights.map fun p => (.inl p.1, .int p.2))) := rfl
theorem own_kinds (o : Own) : lookD [((.inr "names" : Key), PyData.list (ofS o.names)), (.inr "taken", .list (ofI o.taken)), (.inr "rights", dctD (o.rights.map fun p => (.inl p.1, .int p.2))), (.inr "kinds", .list (o.kinds.map kdD))] (.inr "kinds") = some (.list (o.kinds.map kdD)) := rfl
theorem nmA_len {ns : List Str} (h : ∀ x ∈ ns, Nm x ∧ x ∉ resS) (i : Int) : (nmA ns i).length ≤ 8 := by
  unfold nmA
  cases e : ns[i.toNat]? with
  | none => exact Nat.zero_le _
  | some x => exact (h x (List.mem_of_getElem? e)).1.2.2
theorem wordsK_len {ns : List Str} (h : ∀ x ∈ ns, Nm x ∧ x ∉ resS) {m : Int} {k : Kd} (hk : KdOk m k) : (wordsK ns k).length ≤ 11 ∧ ∀ x ∈ wordsK ns k, x.length ≤ 8 := by
  have hc := hk.row.rc.2.2
  have ho : ∀ (w : Str) (o : Option Int), (optW ns w o).length ≤ 2 ∧ (w.length ≤ 8 → ∀ x ∈ optW ns w o, x.length ≤ 8) := by
    intro w o
    cases o with
    | none => exact ⟨by simp [optW], fun _ x hx => by cases hx⟩
    | some i =>
      refine ⟨by simp [optW], fun hw x hx => ?_⟩
      rcases List.mem_cons.mp hx with rfl | hx
      · exact hw
      · rw [List.mem_singleton] at hx
        subst hx
        exact nmA_len h i
  constructor
  · have h1 := (ho "begins" k.b).1
    have h2 := (ho "ends" k.e).1
    have h3 := (ho "gives" k.g).1
    simp only [wordsK, partsK, List.length_cons, List.length_append, List.length_map, List.flatMap_cons, List.flatMap_nil, List.length_nil]
    omega
  · intro x hx
    simp only [wordsK, partsK, List.mem_cons, List.mem_append, List.mem_map, List.flatMap_cons, List.flatMap_nil, List.not_mem_nil, or_false] at hx
    rcases hx with rfl | rfl | ⟨i, _, rfl⟩ | hx | hx | hx
    · decide
    · exact hk.nm.2.2
    · exact nmA_len h i
    · exact (ho "begins" k.b).2 (by decide) x hx
    · exact (ho "ends" k.e).2 (by decide) x hx
    · exact (ho "gives" k.g).2 (by decide) x hx
theorem optW_len (ns : List Str) (w : Str) (o : Option Int) : (optW ns w o).length ≤ 2 := by
  cases o <;> simp [optW]
theorem optsW_len (ns : List Str) : ∀ l : List (Str × Option Int), (l.flatMap fun p => optW ns p.1 p.2).length ≤ 2 * l.length
  | [] => by simp
  | p :: l => by
    have := optsW_len ns l
    have := optW_len ns p.1 p.2
    rw [List.flatMap_cons, List.length_append, List.length_cons]
    omega
theorem join_size {ys : List Str} {b n : Nat} (h : ∀ x ∈ ys, x.length ≤ b) (hl : ys.length ≤ n) (hb : n * b + n ≤ 16777216) : (ys.map (·.length)).sum + ys.length * 1 ≤ 16777216 := by
  have h1 := sum_le (b := b) (ys.map (·.length)) fun x hx => by
    obtain ⟨y, hy, rfl⟩ := List.mem_map.mp hx
    exact h y hy
  rw [List.length_map] at h1
  have h2 := Nat.mul_le_mul_right b hl
  omega
abbrev nKindLine : List Str := ["own", "kind", "name", "comers", "begins", "ends", "gives", "words", "word", "hand"]
theorem scKindLine : FnScope nKindLine ["own", "kind"] (defScope sKindLine) := ⟨rfl, rfl, rfl, by decide +kernel, rfl, by decide +kernel, by decide +kernel⟩
def rKindLine : List Dt → Dt → Prop := fun ds d => ∃ (o : Own) (k : Kd), ds = [ownD o, kdD k] ∧ OwnOk o ∧ KdOk o.names.length k ∧ d = .str (lineK o.names k)
theorem has_kindline (T : Top1 K mg "_law_kind_line" sKindLine ["own", "kind"]) (B : Blt mg) : Has P w K mg base "_law_kind_line" 1 2 (spPure K 2 rKindLine) := by
  refine mkHas (k := 0) T scKindLine spPure_len fun f cdv A outer s H vs Q E hr h => ?_
  obtain ⟨G, ds, d, hm, g, hds, ⟨o, kk, rfl, ho, hk, rfl⟩, k⟩ := h
  have hu := hu64 hr
  cases hds with
  | cons d0 hn =>
  cases hn with
  | cons d1 hn =>
    cases hn
    rename_i v0 v1
    obtain ⟨t, ts, rfl, ht, hts⟩ := d1.tup_inv
    cases hts with
    | cons e1 hts =>
    cases hts with
    | cons e2 hts =>
    cases hts with
    | cons e3 hts =>
    cases hts with
    | cons e4 hts =>
    cases hts with
    | cons e5 hts =>
    cases hts
    rename_i x1 x2 x3 x4 x5
    have hcl : kk.cs.length ≤ 3 := hk.row.rc.2.2
    have hcm : ∀ x ∈ kk.cs, 0 ≤ x ∧ x < o.names.length := hk.row.rc.1.2
    refine b_cons (s_asg (w_var 1 rfl (g_tup (SqT.same g ht) rfl (gs_cons (g_name 2 scKindLine.nd (gs_cons (g_name 3 scKindLine.nd (gs_cons (g_name 4 scKindLine.nd (gs_cons (g_name 5 scKindLine.nd (gs_cons (g_name 6 scKindLine.nd (gs_nil ?_))))))))))))))
    -- words
    refine b_cons (s_set 7 scKindLine.nd (w_bin op_cat (w_pu (d := .list (ofS ["meet", kk.nm])) (pu_lst (pua_cons pu_str (pua_cons (pu_var 2 rfl e1) pua_nil))) g fun va G1 H1 s1 hva => w_pu (d := .list (ofS (kk.cs.map (nmA o.names)))) (Pu.to (pu_lc1 9 (cd := PyData.int) (ns := kk.cs) (src_tup (pu_var 3 rfl (e2.mono s1.g))) (fun i => .str (nmA o.names i)) (fun _ => true) scKindLine.nd
      (fun _ _ _ _ _ _ _ _ _ _ _ => puts_nil) (fun n hn _ v G2 g2 hv _ _ _ _ _ => pu_ixL (pu_dget (.inr "names") (pu_var 0 rfl ((d0.mono s1.g).mono g2)) pu_str (own_names o) (by exact Nat.lt_of_le_of_lt (Nat.add_le_add_left (by decide : 1 ≤ 64) _) hu)) (pu_var 9 rfl hv) (hcm n hn).1 (nmA_get (hcm n hn).1 (hcm n hn).2)) (by omega)) (by rw [filter_tt]; simp [ofS])) s1.s fun vb G2 H2 s2 hvb => ?_)))
    obtain ⟨la, xa, rfl, ha1, ha2⟩ := (hva.mono s2.g).lst_inv
    obtain ⟨lb, xb, rfl, hb1, hb2⟩ := hvb.lst_inv
    refine ⟨la, lb, xa, xb, rfl, rfl, s2.s _ _ ha1, s2.s _ _ hb1, ?_, fun l hl => ?_⟩
    · rw [ha2.length, hb2.length]
      simp only [ofS, List.length_map, List.length_cons, List.length_nil]
      exact Nat.le_trans (show 0 + 1 + 1 + kk.cs.length ≤ 5 by omega) (by decide)
    have F : PAt K G H l (ofS (("meet" : Str) :: kk.nm :: kk.cs.map (nmA o.names))) G2 (xa ++ xb) (upd H2 l (.lst (xa ++ xb))) := PAt.new (s1.trans s2) (ha2.append hb2) hl
    have gg := s1.g.trans s2.g
    refine b_cons (s_forD (ds := (partsK kk).map fun (p : Str × Option Int) => PyData.tuple [.str p.1, optD p.2]) (src_tup (pu_tup (ds := (partsK kk).map fun (p : Str × Option Int) => PyData.tuple [.str p.1, optD p.2]) (pua_cons (pu_tup (pua_cons pu_str (pua_cons (pu_var 4 rfl (e3.mono gg)) pua_nil))) (pua_cons (pu_tup (pua_cons pu_str (pua_cons (pu_var 5 rfl (e4.mono gg)) pua_nil))) (pua_cons (pu_tup (pua_cons pu_str (pua_cons (pu_var 6 rfl (e5.mono gg)) pua_nil))) pua_nil))) (by show 3 ≤ sizeLine; decide))) F.st.s fun G3 H3 s3 => ⟨fun i σ H' => ∃ (G9 : Hp) (vs : List V) (u8 u9 : Option V), σ = [some v0, some (.ref t), some x1, some x2, some x3, some x4, some x5, some (.ref l), u8, u9] ∧ Same G3 G9 ∧
      PAt K G H l (ofS (("meet" : Str) :: kk.nm :: (kk.cs.map (nmA o.names) ++ ((partsK kk).take i).flatMap fun p => optW o.names p.1 p.2))) G9 vs H', ?_, ?_, ?_, ?_⟩)
    · exact ⟨G3, _, _, _, rfl, Same.refl G3, by simpa using F.pure s3⟩
    · rintro i σ H' ⟨G9, vs, _, _, rfl, sg, F9⟩
      exact sg.trans F9.st.s
    · rintro i d x σ H' H9 hi ⟨G9, vs, u8, u9, rfl, sg, F9⟩ hw
      rw [List.getElem?_map] at hi
      obtain ⟨q, hq, rfl⟩ := Option.map_eq_some_iff.mp hi
      obtain ⟨G10, s10, hx10⟩ := hw G9 sg F9.st.s
      have F10 := F9.pure s10
      obtain ⟨t2, ts2, rfl, ht2, hts2⟩ := hx10.tup_inv
      cases hts2 with
      | cons y1 hts2 =>
      cases hts2 with
      | cons y2 hts2 =>
      cases hts2
      rename_i z1 z2
      have hrange : ∀ x, q.2 = some x → 0 ≤ x ∧ x < o.names.length := by
        intro x hx
        have hqm := List.mem_of_getElem? hq
        simp only [partsK, List.mem_cons, List.not_mem_nil, or_false] at hqm
        rcases hqm with rfl | rfl | rfl
        · have := hk.row.rb x hx
          exact ⟨this.1, this.2.1⟩
        · exact hcm x (hk.row.re x hx).1
        · have := hk.row.rg x hx
          exact ⟨this.1, this.2.1⟩
      have hd0 := d0.mono (gg.trans (s3.g.trans (sg.trans s10.g)))
      refine g_tup (SqT.same s10.s ht2) rfl (gs_cons (g_name 8 scKindLine.nd (gs_cons (g_name 9 scKindLine.nd (gs_nil (b_one (s_expr (w_extend 7 rfl F10.hl (w_pu (d := .list (ofS (optW o.names q.1 q.2))) (pu_if (put_c (c_notN q.2.isNone (pu_var 9 rfl y2) fun G' v _ hv => optN hv)) (fun h => ?ct) (fun h => Pu.to (pu_lst pua_nil) ?cf)) F10.st.s fun v11 G11 H11 s11 hv11 => a_nil ?_)))))))))
      case ct =>
        cases e : q.2 with
        | none => rw [e] at h; cases h
        | some x =>
          rw [e] at y2
          obtain ⟨r0, r1⟩ := hrange x e
          exact pu_lst (ds := ofS [q.1, nmA o.names x]) (pua_cons (pu_var 8 rfl y1) (pua_cons (pu_ixL (pu_dget (.inr "names") (pu_var 0 rfl hd0) pu_str (own_names o) (by exact Nat.lt_of_le_of_lt (Nat.add_le_add_left (by decide : 1 ≤ 64) _) hu)) (pu_var 9 rfl y2) r0 (nmA_get r0 r1)) pua_nil))
      case cf =>
        cases e : q.2 with
        | none => rfl
        | some x => rw [e] at h; cases h
      have F11 := F10.pure s11
      obtain ⟨l2, vs2, rfl, h1, h2⟩ := hv11.lst_inv
      refine ⟨l, l2, vs, vs2, rfl, rfl, F11.hl, F11.st.s _ _ h1, ?_, ?_⟩
      · have q1 := F11.ds.length
        have q2 := h2.length
        have q3 := optsW_len o.names ((partsK kk).take i)
        have q4 := optW_len o.names q.1 q.2
        have q5 : ((partsK kk).take i).length ≤ 3 := by
          rw [List.length_take]
          exact Nat.min_le_right _ _
        simp only [ofS, List.length_map, List.length_cons, List.length_append] at q1 q2
        exact Nat.le_trans (show vs.length + vs2.length ≤ 20 by omega) (by decide)
      · refine ⟨G11, vs ++ vs2, _, _, rfl, sg.trans (s10.g.trans s11.g), ?_⟩
        have := F11.ext h2
        rw [List.take_add_one, hq, List.flatMap_append]
        simpa [ofS] using this
    · rintro σ H' ⟨G9, vs, u8, u9, rfl, sg, F9⟩
      rw [List.length_map, List.take_length] at F9
      have hw := wordsK_len ho.nm hk
      refine b_one (s_ret (w_pu (d := .str (lineK o.names kk)) (pu_join (ys := wordsK o.names kk) pu_str (pu_var 7 rfl F9.da) (join_size hw.2 hw.1 (by decide))) F9.fin.s fun v11 G11 H11 s11 hv11 => k v11 G11 H11 (F9.fin.trans s11) hv11))
end
end Mb

set_option Elab.async false
set_option linter.all false
set_option maxRecDepth 100000
set_option maxHeartbeats 2000000
namespace Mb
open PySem PySem.Spec PyProof.Rows L2 TL
theorem join_len_le (y : Str) (b : Nat) (ys : List Str) (h : ∀ x ∈ ys, x.length ≤ b) : (Txt.join y ys).length ≤ ys.length * (b + y.length) := by
  rw [len_tl, join_eq, tl_join]
  rw [len_tl y]
  have key : ∀ zs : List Str, (∀ x ∈ zs, x.length ≤ b) → (joinL (tl y) (zs.map tl)).length ≤ zs.length * (b + (tl y).length) := by
    intro zs
    induction zs with
    | nil => intro _; exact Nat.zero_le _
    | cons z zs ih =>
      intro hz
      have h1 := hz z List.mem_cons_self
      have h2 := ih fun x hx => hz x (List.mem_cons_of_mem _ hx)
      rw [len_tl] at h1
      cases zs with
      | nil =>
        show (tl z).length ≤ _
        rw [List.length_singleton, Nat.one_mul]
        omega
      | cons z2 zs =>
        show (tl z ++ (tl y ++ joinL (tl y) ((z2 :: zs).map tl))).length ≤ _
        rw [List.length_append, List.length_append, List.length_cons, Nat.add_mul, Nat.one_mul]
        omega
  exact key ys h
theorem lineK_len {ns : List Str} (h : ∀ x ∈ ns, Nm x ∧ x ∉ resS) {m : Int} {k : Kd} (hk : KdOk m k) : (lineK ns k).length ≤ 99 := by
  have hw := wordsK_len h hk
  refine Nat.le_trans (join_len_le " " 8 _ hw.2) ?_
  exact Nat.le_trans (Nat.mul_le_mul_right _ hw.1) (by decide)
theorem pigI : ∀ (l m : List Int), l.Nodup → (∀ x ∈ l, x ∈ m) → l.length ≤ m.length
  | [], m, _, _ => Nat.zero_le _
  | x :: l, m, hn, hs => by
    have hx : x ∈ m := hs x List.mem_cons_self
    obtain ⟨h1, h2⟩ := List.nodup_cons.mp hn
    have ih := pigI l (m.erase x) h2 fun y hy => by
      have hxy : y ≠ x := fun e => h1 (e ▸ hy)
      exact (List.mem_erase_of_ne hxy).mpr (hs y (List.mem_cons_of_mem _ hy))
    rw [List.length_erase_of_mem hx] at ih
    have := List.length_pos_of_mem hx
    rw [List.length_cons]
    omega
section
variable {o : Own}
theorem OwnOk.kd (ho : OwnOk o) : ∀ k ∈ o.kinds, KdOk o.names.length k := fun k hk => ⟨(ho.kk k hk).1.1, (ho.kk k hk).2⟩
theorem OwnOk.tl5 (ho : OwnOk o) : o.taken.length ≤ 5 := by
  have h : o.taken.Nodup := List.nodup_iff_pairwise_ne.mpr (ho.tk.imp fun {a b} h => by omega)
  have := pigI o.taken (rng o.names.length) h fun x hx => mem_rng.mpr (ho.tr x hx)
  rw [rng_len] at this
  exact Nat.le_trans this ho.m5
theorem OwnOk.rl5 (ho : OwnOk o) : o.rights.length ≤ 5 := by
  have h := congrArg List.length ho.rk
  rw [List.length_map] at h
  rw [h]
  exact Nat.le_trans (List.length_filter_le _ _) (by rw [rng_len]; exact ho.m5)
theorem OwnOk.rks (ho : OwnOk o) : (o.rights.map (·.1)).Pairwise (· < ·) := by
  rw [ho.rk]
  exact (rng_sorted _).filter _
theorem OwnOk.rkm (ho : OwnOk o) : ∀ p ∈ o.rights, 0 ≤ p.1 ∧ p.1 < o.names.length ∧ p.1 ∉ o.taken := by
  intro p hp
  have : p.1 ∈ o.rights.map (·.1) := List.mem_map_of_mem hp
  rw [ho.rk, List.mem_filter, mem_rng] at this
  exact ⟨this.1.1, this.1.2, fun h => by have := this.2; rw [decide_eq_true h] at this; cases this⟩
theorem look_rights {prs : List (Int × Int)} (hn : (prs.map (·.1)).Pairwise (· < ·)) {p : Int × Int} (hp : p ∈ prs) : lookD (prs.map fun p => ((.inl p.1 : Key), (.int p.2 : Dt))) (.inl p.1) = some (.int p.2) := by
  induction prs with
  | nil => cases hp
  | cons q prs ih =>
    rw [List.map_cons, List.pairwise_cons] at hn
    unfold lookD at ih ⊢
    rw [List.map_cons, List.find?_cons]
    rcases List.mem_cons.mp hp with rfl | h
    · simp
    · have : q.1 < p.1 := hn.1 p.1 (List.mem_map_of_mem h)
      have hne : ¬ ((.inl q.1 : Key) = .inl p.1) := fun e => by injection e with e; omega
      rw [decide_eq_false hne]
      exact ih hn.2 h
end
section
variable {X : Cx} {σ : L2.St} {G H : Hp} {a b : Expr} {p pos : Pos}
theorem pu_sortedDI {prs : List (Int × Int)} (ha : Pu X a σ G (dctD (prs.map fun p => (.inl p.1, .int p.2)))) (hs : (prs.map (·.1)).Pairwise (· < ·)) (h64 : prs.length < 64) (hm : X.mg "sorted" = none) (hc : X.calm = true := by rfl) (hg : Gl X "sorted" := by rfl)
    (he : starEach [a] X.env = [(false, eval a X.env)] := by rfl) : Pu X (.Call (.Name "sorted" p) [a] [] pos) σ G (.list (ofI (prs.map (·.1)))) :=
  pu_one (call_sortedDI hc) ha (fun G1 H v g s hv Q q => by
    obtain ⟨l, kvs, rfl, h1, h2⟩ := hv.dct_inv
    have hk := h2.keys
    refine ⟨l, kvs, prs.map (·.1), rfl, Rd.mono' s h1, ?_, by rw [List.length_map]; exact h64, fun ys p hp hy hpn => ?_⟩
    · rw [hk, List.map_map, List.map_map]
      rfl
    · have e : ys = prs.map (·.1) := List.Perm.eq_of_pairwise (fun _ _ _ _ a b => Int.le_antisymm a b) hy (hs.imp fun {a b} h => by omega) hp
      subst e
      exact q _ _ _ (Step.alloc s hpn) (.lst upd_same (Das.ofInts _))) hm boot_sorted hg (by decide) (by decide) he
end
end Mb

set_option Elab.async false
set_option linter.all false
set_option maxRecDepth 100000
set_option maxHeartbeats 2000000
namespace Mb
open PySem PySem.Spec PyProof.Rows L2 TL
theorem hu1 {n : Nat} (h : n + 64 < cLine) : n + 1 < cLine := Nat.lt_of_le_of_lt (Nat.add_le_add_left (by decide : 1 ≤ 64) n) h
section
variable {P : Program} {w : World} {K : PySem.W.Frag} {mg : Str → Option Value} {base : Heap}
abbrev HKindLine (P w K mg base) := Has P w K mg base "_law_kind_line" 1 2 (spPure K 2 rKindLine)
abbrev nHallText : List Str := ["own", "names", "lines", "hand", "kind"]
theorem scHallText : FnScope nHallText ["own"] (defScope sHallText) := ⟨rfl, rfl, rfl, by decide +kernel, rfl, by decide +kernel, by decide +kernel⟩
def rHallText : List Dt → Dt → Prop := fun ds d => ∃ (o : Own), ds = [ownD o] ∧ OwnOk o ∧ d = .str (textO o)
theorem len1 {x y : Str} : (("hands" : Str)).length ≤ 8 := by decide
theorem linesO_len {o : Own} (ho : OwnOk o) : (linesO o).length ≤ 15 ∧ ∀ x ∈ linesO o, x.length ≤ 99 := by
  have h5 := ho.m5
  have t5 := ho.tl5
  have r5 := ho.rl5
  have k8 := ho.k8
  constructor
  · simp only [linesO, List.length_append, List.length_cons, List.length_nil, List.length_map]
    omega
  · intro x hx
    simp only [linesO, List.mem_append, List.mem_cons, List.not_mem_nil, or_false, List.mem_map] at hx
    rcases hx with ((rfl | rfl) | ⟨p, _, rfl⟩) | ⟨q, hq, rfl⟩
    · refine Nat.le_trans (join_len_le " " 8 _ fun x hx => ?_) (Nat.le_trans (Nat.mul_le_mul_right _ (show _ ≤ 6 by rw [List.length_cons]; omega)) (by decide))
      rcases List.mem_cons.mp hx with rfl | hx
      · decide
      · exact (ho.nm x hx).1.2.2
    · refine Nat.le_trans (join_len_le " " 8 _ fun x hx => ?_) (Nat.le_trans (Nat.mul_le_mul_right _ (show _ ≤ 6 by rw [List.length_cons, List.length_map]; omega)) (by decide))
      rcases List.mem_cons.mp hx with rfl | hx
      · decide
      · obtain ⟨i, _, rfl⟩ := List.mem_map.mp hx
        exact nmA_len ho.nm i
    · refine Nat.le_trans (join_len_le " " 8 _ fun x hx => ?_) (by show 3 * (8 + 1) ≤ 99; decide)
      simp only [List.mem_cons, List.not_mem_nil, or_false] at hx
      rcases hx with rfl | rfl | rfl
      · decide
      · exact nmA_len ho.nm _
      · exact nmA_len ho.nm _
    · exact lineK_len ho.nm (ho.kd q hq)
theorem has_halltext (T : Top1 K mg "_law_hall_text" sHallText ["own"]) (B : Blt mg) (hK : HKindLine P w K mg base) : Has P w K mg base "_law_hall_text" 2 1 (spPure K 1 rHallText) := by
  refine mkHas (k := 1) T scHallText spPure_len fun f cdv A outer s H vs Q E hr h => ?_
  obtain ⟨G, ds, d, hm, g, hds, ⟨o, rfl, ho, rfl⟩, k⟩ := h
  have hu := hu1 (hu64 hr)
  cases hds with
  | cons d0 hn =>
    cases hn
    rename_i v0
    have m5 := ho.m5
    have t5 := ho.tl5
    have r5 := ho.rl5
    have k8 := ho.k8
    refine b_cons (s_set 1 scHallText.nd (w_pu (pu_dget (.inr "names") (pu_var 0 rfl d0) pu_str (own_names o) hu) g fun v1 G1 H1 s1 hv1 => ?_))
    refine b_cons (s_set 2 scHallText.nd (w_lst (a_cons (w_pu (d := .str (Txt.join " " (("hands" : Str) :: o.names))) (pu_join (ys := ("hands" : Str) :: o.names) pu_str (Pu.to (pu_cat (pu_lst (ds := ofS ["hands"]) (pua_cons pu_str pua_nil)) (pu_var 1 rfl hv1) ?l1) rfl) ?j1) s1.s fun va G2 H2 s2 hva => a_cons (w_pu (d := .str (Txt.join " " (("taken" : Str) :: o.taken.map (nmA o.names))))
      (pu_join (ys := ("taken" : Str) :: o.taken.map (nmA o.names)) pu_str (Pu.to (pu_cat (pu_lst (ds := ofS ["taken"]) (pua_cons pu_str pua_nil)) (pu_lc1 3 (cd := PyData.int) (ns := o.taken) (src_list (pu_dget (.inr "taken") (pu_var 0 rfl (d0.mono (s1.g.trans s2.g))) pu_str (own_taken o) hu)) (fun i => .str (nmA o.names i)) (fun _ => true) scHallText.nd
        (fun _ _ _ _ _ _ _ _ _ _ _ => puts_nil) (fun n hn _ v G2 g2 hv _ _ _ _ _ => pu_ixL (pu_var 1 rfl ((hv1.mono s2.g).mono g2)) (pu_var 3 rfl hv) (ho.tr n hn).1 (nmA_get (ho.tr n hn).1 (ho.tr n hn).2)) (by omega)) ?l2) ?e2) ?j2) s2.s fun vb G3 H3 s3 hvb => a_nil ⟨by show 2 ≤ sizeLine; decide, fun l hl => ?_⟩)))))
    case l1 =>
      simp only [ofS, List.length_map, List.length_cons, List.length_nil]
      exact Nat.le_trans (show 0 + 1 + o.names.length ≤ 10 by omega) (by decide)
    case j1 =>
      refine join_size (b := 8) (n := 6) (fun x hx => ?_) (by rw [List.length_cons]; omega) (by decide)
      rcases List.mem_cons.mp hx with rfl | hx
      · decide
      · exact (ho.nm x hx).1.2.2
    case l2 =>
      rw [filter_tt]
      simp only [ofS, List.length_map, List.length_cons, List.length_nil]
      exact Nat.le_trans (show 0 + 1 + o.taken.length ≤ 10 by omega) (by decide)
    case e2 =>
      rw [filter_tt]
      simp [ofS]
    case j2 =>
      refine join_size (b := 8) (n := 6) (fun x hx => ?_) (by rw [List.length_cons, List.length_map]; omega) (by decide)
      rcases List.mem_cons.mp hx with rfl | hx
      · decide
      · obtain ⟨i, _, rfl⟩ := List.mem_map.mp hx
        exact nmA_len ho.nm i
    have gg : Same G G3 := s1.g.trans (s2.g.trans s3.g)
    have F : PAt K G H l (ofS [Txt.join " " (("hands" : Str) :: o.names), Txt.join " " (("taken" : Str) :: o.taken.map (nmA o.names))]) G3 [va, vb] (upd H3 l (.lst [va, vb])) := PAt.new (s1.trans (s2.trans s3)) (.cons (hva.mono s3.g) (.one hvb)) hl
    have hv1' := hv1.mono (s2.g.trans s3.g)
    -- rights
    refine b_cons (s_expr (w_extend 2 rfl F.hl (w_pu (d := .list (ofS (o.rights.map fun p => Txt.join " " [("right" : Str), nmA o.names p.1, nmA o.names p.2]))) (Pu.to (pu_lc1 3 (cd := fun (p : Int × Int) => PyData.int p.1) (ns := o.rights) (by
        have e : (o.rights.map fun p => PyData.int p.1) = ofI (o.rights.map (·.1)) := by simp [ofI]
        rw [e]
        exact src_list (pu_sortedDI (pu_dget (.inr "rights") (pu_var 0 rfl (d0.mono gg)) pu_str (own_rights o) hu) ho.rks (by omega) B.sorted)) (fun (p : Int × Int) => PyData.str (Txt.join " " [("right" : Str), nmA o.names p.1, nmA o.names p.2])) (fun _ => true) scHallText.nd
        (fun _ _ _ _ _ _ _ _ _ _ _ => puts_nil) (fun n hn _ v G2 g2 hv _ _ _ _ _ => pu_join (ys := [("right" : Str), nmA o.names n.1, nmA o.names n.2]) pu_str (pu_lst (pua_cons pu_str (pua_cons (pu_ixL (pu_var 1 rfl (hv1'.mono g2)) (pu_var 3 rfl hv) (ho.rkm n hn).1 (nmA_get (ho.rkm n hn).1 (ho.rkm n hn).2.1)) (pua_cons (pu_ixL (pu_var 1 rfl (hv1'.mono g2)) (pu_dget (.inl n.1) (pu_dget (.inr "rights") (pu_var 0 rfl ((d0.mono gg).mono g2)) pu_str (own_rights o) hu) (pu_var 3 rfl hv) (look_rights ho.rks hn) hu) (ho.tr _ (ho.rv n hn)).1 (nmA_get (ho.tr _ (ho.rv n hn)).1 (ho.tr _ (ho.rv n hn)).2)) pua_nil)))) ?j3) (by omega)) ?e3) F.st.s fun vc G4 H4 s4 hvc => a_nil ?_)))
    case j3 =>
      refine join_size (b := 8) (n := 3) (fun x hx => ?_) (by simp) (by decide)
      simp only [List.mem_cons, List.not_mem_nil, or_false] at hx
      rcases hx with rfl | rfl | rfl
      · decide
      · exact nmA_len ho.nm _
      · exact nmA_len ho.nm _
    case e3 =>
      rw [filter_tt]
      simp [ofS]
    have F4 := F.pure s4
    obtain ⟨l2, vs2, rfl, h1, h2⟩ := hvc.lst_inv
    have q2 := h2.length
    simp only [ofS, List.length_map] at q2
    refine ⟨l, l2, [va, vb], vs2, rfl, rfl, F4.hl, F4.st.s _ _ h1, Nat.le_trans (show 2 + vs2.length ≤ 20 by omega) (by decide), ?_⟩
    have F5 := F4.ext h2
    have gk : Same G G4 := gg.trans s4.g
    have gl4 : Same G (upd G4 l (.lst ([va, vb] ++ vs2))) := gk.trans (Same.toUpd F5.gl)
    refine b_one (s_ret (w_pu (d := .str (textO o)) (pu_join (ys := linesO o) pu_str (Pu.to (pu_cat (pu_var 2 rfl F5.da) (pu_lc1 4 (cd := kdD) (ns := o.kinds) (src_list (pu_dget (.inr "kinds") (pu_var 0 rfl (d0.mono gl4)) pu_str (own_kinds o) hu)) (fun q => .str (lineK o.names q)) (fun _ => true) scHallText.nd
      (fun _ _ _ _ _ _ _ _ _ _ _ => puts_nil) (fun n hn _ v G2 g2 hv _ _ _ _ _ => pu_call hK hr (by decide) (pua_cons (pu_var 0 rfl ((d0.mono gl4).mono g2)) (pua_cons (pu_var 4 rfl hv) pua_nil)) ⟨o, n, rfl, ho, ho.kd n hn, rfl⟩ rfl) (by omega)) ?l4) ?e4) ?j4) F5.fin.s fun v11 G11 H11 s11 hv11 => k v11 G11 H11 (F5.fin.trans s11) hv11))
    case l4 =>
      rw [filter_tt]
      simp only [ofS, List.length_map, List.length_cons, List.length_nil, List.length_append]
      exact Nat.le_trans (show 0 + 1 + 1 + o.rights.length + o.kinds.length ≤ 20 by omega) (by decide)
    case e4 =>
      rw [filter_tt]
      simp [ofS, linesO]
    case j4 =>
      have hL := linesO_len ho
      exact join_size hL.2 hL.1 (by decide)
end
end Mb

set_option Elab.async false
set_option linter.all false
set_option maxRecDepth 100000
set_option maxHeartbeats 2000000
namespace Mb
open PySem PySem.Spec PyProof.Rows L2 TL
section
variable {X : Cx} {σ : L2.St} {G H : Hp} {a b c : Expr} {p p2 pos : Pos} {d : Dt}
theorem pu_isi {k : Bool} {T : String} {x : Str} (ha : Pu X a σ G d) (ht : ∀ G' H v, Same G' H → Da X.K G' v d → ∃ t, TyX X.K H v t ∧ PySem.W.kitOne X.K t (.type T) = some k) (hm : X.mg "isinstance" = none) (hm2 : X.mg x = none) (hb : bootBuiltins x = some (.type T)) (hg : Gl X "isinstance" := by rfl) (hg2 : Gl X x := by rfl)
    (hn : x ≠ "__name__" := by decide) (hdb : (x == ("__debug__" : Str)) = false := by decide)
    (he : starEach [a, .Name x p2] X.env = (false, eval a X.env) :: starEach [.Name x p2] X.env := by rfl) (he2 : starEach [.Name x p2] X.env = (false, eval (.Name x p2) X.env) :: starEach [] X.env := by rfl) (hpl : (backTo pos (starEach [.Name x p2] X.env)).any (·.1) = false := by rfl) :
    Pu X (.Call (.Name "isinstance" p) [a, .Name x p2] [] pos) σ G (.bool k) := fun G1 H g s Q q =>
  w_callB call_isi hm (by decide +kernel) (a_cons (ha G1 H g s _ fun v G2 H2 s2 h2 => a_cons (w_bltn hm2 hb (v := .ty T) rfl (a_nil (by
    obtain ⟨t, h3, h4⟩ := ht G2 H2 v s2.s h2
    exact ⟨v, .ty T, t, .type T, k, rfl, .ty T, h3, h4, q _ _ _ s2 (.bl k)⟩)) hg2 hn hdb) he2) he) hg (by decide) (by decide) he hpl
theorem isS_str {K : PySem.W.Frag} {x : Str} {G' H : Hp} {v : V} (h : Da K G' v (.str x)) : ∃ t, TyX K H v t ∧ PySem.W.kitOne K t (.type "str") = some true := by
  obtain rfl := h.str_inv
  exact ⟨_, .base (.str x), kit_ty (by decide +kernel)⟩
theorem put_chainLe {i j k : Int} (ha : Pu X a σ G (.int i)) (hb : Pu X b σ G (.int j)) (hc : Pu X c σ G (.int k)) (hm : lastMarks [.LtE, .LtE] [b, c] = false := by with_unfolding_all rfl) : PuT X (.Compare a [.LtE, .LtE] [b, c] pos) σ G (decide (i ≤ j) && decide (j ≤ k)) := fun G1 H g s Q q =>
  t_chain op_le op_le (ha G1 H g s _ fun v G2 H2 s2 h2 => hb G2 H2 (g.trans s2.g) s2.s _ fun w G3 H3 s3 h3 => ⟨i, j, h2.int_inv, h3.int_inv, decide (i ≤ j), rfl, by
    cases e : decide (i ≤ j) with
    | true =>
      rw [if_pos rfl]
      refine hc G3 H3 (g.trans (s2.g.trans s3.g)) s3.s _ fun z G4 H4 s4 h4 => ⟨j, k, h3.int_inv, h4.int_inv, _, rfl, ?_⟩
      rw [e, Bool.true_and] at q
      exact q G4 H4 (s2.trans (s3.trans s4))
    | false =>
      rw [if_neg Bool.false_ne_true]
      refine ⟨false, rfl, ?_⟩
      rw [e, Bool.false_and] at q
      exact q G3 H3 (s2.trans s3)⟩) hm
theorem c_inSign {n : Nat} {z : Str} (ha : Pu X a σ G (.str ⟨#[n]⟩)) (hb : Pu X b σ G (.str z)) (hm : behindInMarks .In b = false := by rfl) : PuC X .In a b σ G (decide (n ∈ tl z)) :=
  ⟨_, _, _, op_in_sign, ha, hb, (rv_val (fun _ _ _ h => h.str_inv) (fun _ _ _ h => h.str_inv) (fun _ _ => .bl _) fun H Q q => ⟨n, z, rfl, rfl, q⟩), hm⟩
end
/-- the names of the program's modules -/
structure Glb (K : PySem.W.Frag) (mg : Str → Option Value) : Prop where
  letters : ∃ u, mg "LETTERS" = some u ∧ RelV (.str abc) u
  longest : ∃ u, mg "LONGEST_NAME" = some u ∧ RelV (.int 8) u
  reserved : ∃ a u, mg "RESERVED" = some u ∧ RelV (.ref a) u ∧ ∀ G, Da K G (.ref a) (.tuple (ofS resS))
  here : ∃ u, mg "HERE" = some u ∧ RelV (.int (-1)) u
  fewest : ∃ u, mg "FEWEST_HANDS" = some u ∧ RelV (.int 2) u
  mostH : ∃ u, mg "MOST_HANDS" = some u ∧ RelV (.int 5) u
  mostK : ∃ u, mg "MOST_KINDS" = some u ∧ RelV (.int 8) u
  mostC : ∃ u, mg "MOST_COMERS" = some u ∧ RelV (.int 3) u
def nmB (x : Str) : Bool := (decide (1 ≤ (x.length : Int)) && decide ((x.length : Int) ≤ 8)) && (tl x).all fun c => decide (c ∈ tl abc)
theorem mem_abc {c : Nat} : c ∈ tl abc ↔ 97 ≤ c ∧ c ≤ 122 := by
  rw [tl_abc]
  simp only [List.mem_cons, List.not_mem_nil, or_false]
  omega
theorem nmB_iff {x : Str} : nmB x = true ↔ Nm x := by
  unfold nmB Nm Lets
  rw [Bool.and_eq_true, Bool.and_eq_true, decide_eq_true_eq, decide_eq_true_eq, List.all_eq_true]
  constructor
  · rintro ⟨⟨h1, h2⟩, h3⟩
    exact ⟨fun c hc => mem_abc.mp (of_decide_eq_true (h3 c hc)), by omega, by omega⟩
  · rintro ⟨h1, h2, h3⟩
    exact ⟨⟨by omega, by omega⟩, fun c hc => decide_eq_true (mem_abc.mpr (h1 c hc))⟩
section
variable {P : Program} {w : World} {K : PySem.W.Frag} {mg : Str → Option Value} {base : Heap}
theorem scIsName : FnScope ["value", "sign"] ["value"] (defScope sIsName) := ⟨rfl, rfl, rfl, by decide +kernel, rfl, by decide +kernel, by decide +kernel⟩
def rIsName : List Dt → Dt → Prop := fun ds d => ∃ x : Str, ds = [.str x] ∧ x.length < 100000 ∧ d = .bool (nmB x)
theorem has_isname (T : Top1 K mg "is_name" sIsName ["value"]) (B : Blt mg) (L : Glb K mg) : Has P w K mg base "is_name" 1 1 (spPure K 1 rIsName) := by
  refine mkHas (k := 0) T scIsName spPure_len fun f cdv A outer s H vs Q E hr h => ?_
  obtain ⟨G, ds, d, hm, g, hds, ⟨x, rfl, hx, rfl⟩, k⟩ := h
  cases hds with
  | cons d0 hn =>
    cases hn
    obtain ⟨u1, g1, r1⟩ := L.letters
    obtain ⟨u2, g2, r2⟩ := L.longest
    have hxs : x.length ≤ sizeLine := Nat.le_trans (Nat.le_of_lt hx) (by decide)
    refine b_cons (s_if (t_pu (put_w (puw_or (put_not (put_val (pu_isi (k := true) (pu_var 0 rfl d0) (fun _ _ _ _ hv => isS_str hv) B.isinstance B.str (by decide +kernel)))) fun _ => puw_or1 (put_not (put_chainLe pu_int (pu_lenS (pu_var 0 rfl d0) hxs B.len) (pu_glob g2 r2 (.int 8)))))) g fun G1 H1 s1 => ite2 (fun hc => ?_) (fun hc => ?_)))
    · refine b_one (s_ret (w_bl ?_))
      have e : (decide (1 ≤ (x.length : Int)) && decide ((x.length : Int) ≤ 8)) = false := by
        cases e : (decide (1 ≤ (x.length : Int)) && decide ((x.length : Int) ≤ 8)) with
        | false => rfl
        | true => rw [e] at hc; cases hc
      refine k _ G1 H1 s1 ?_
      unfold nmB
      rw [e, Bool.false_and]
      exact .bl _
    · refine b_nil (b_one (s_ret (w_pu (pu_all (bs := (tl x).map fun c => decide (c ∈ tl abc)) (Pu.to (pu_lc1 1 (cd := fun (c : Nat) => PyData.str ⟨#[c]⟩) (ns := tl x) (src_str (pu_var 0 rfl (d0.mono s1.g))) (fun c => .bool (decide (c ∈ tl abc))) (fun _ => true) scIsName.nd
        (fun _ _ _ _ _ _ _ _ _ _ _ => puts_nil) (fun n hn _ v G2 g2 hv _ _ _ _ _ => pu_c (c_inSign (pu_var 1 rfl hv) (pu_glob g1 r1 (.str abc)))) (by rw [← len_tl]; exact hx)) ?e1) B.all) s1.s fun v G2 H2 s2 hv => ?_)))
      case e1 => rw [filter_tt, List.map_map]; rfl
      have e : (decide (1 ≤ (x.length : Int)) && decide ((x.length : Int) ≤ 8)) = true := by
        cases e : (decide (1 ≤ (x.length : Int)) && decide ((x.length : Int) ≤ 8)) with
        | true => rfl
        | false => rw [e] at hc; exact (hc rfl).elim
      refine k v G2 H2 (s1.trans s2) ?_
      unfold nmB
      rw [e, Bool.true_and]
      rw [List.all_map] at hv
      exact hv
end
end Mb

set_option Elab.async false
set_option linter.all false
set_option maxRecDepth 100000
set_option maxHeartbeats 2000000
namespace Mb
open PySem PySem.Spec PyProof.Rows L2 TL
def ascB (ns : List Int) : Bool := (ns.zip (ns.drop 1)).all fun p => decide (p.1 < p.2)
theorem ascB_of : ∀ {ns : List Int}, ns.Pairwise (· < ·) → ascB ns = true
  | [], _ => rfl
  | [_], _ => rfl
  | x :: y :: ns, h => by
    have ih : ascB (y :: ns) = true := ascB_of (List.pairwise_cons.mp h).2
    have hxy : x < y := (List.pairwise_cons.mp h).1 y List.mem_cons_self
    unfold ascB at ih ⊢
    show (decide (x < y) && ((y :: ns).zip ns).all fun p => decide (p.1 < p.2)) = true
    rw [decide_eq_true hxy, Bool.true_and]
    exact ih
theorem cutD_drop (xs : List Dt) : cutD xs (some 1) none = xs.drop 1 := by
  unfold cutD
  have e1 : HT.sIx xs.length 0 (some 1) = min 1 xs.length := sIx_some' xs.length
  have e2 : HT.sIx xs.length xs.length none = xs.length := rfl
  rw [e1, e2]
  cases xs with
  | nil => rfl
  | cons x xs =>
    have : min 1 (x :: xs).length = 1 := by rw [List.length_cons]; omega
    rw [this]
    exact List.take_of_length_le (by rw [List.length_drop]; omega)
where
  sIx_some' (n : Nat) : HT.sIx n 0 (some 1) = min 1 n := by
    unfold HT.sIx
    simp
section
variable {P : Program} {w : World} {K : PySem.W.Frag} {mg : Str → Option Value} {base : Heap}
abbrev HIsName (P w K mg base) := Has P w K mg base "is_name" 1 1 (spPure K 1 rIsName)
theorem scAsc : FnScope ["values", "low", "high"] ["values"] (defScope sIsAsc) := ⟨rfl, rfl, rfl, by decide +kernel, rfl, by decide +kernel, by decide +kernel⟩
def rIsAsc : List Dt → Dt → Prop := fun ds d => ∃ ns : List Int, ds = [.list (ofI ns)] ∧ ns.length < 100000 ∧ d = .bool (ascB ns)
theorem has_isasc (T : Top1 K mg "is_ascending" sIsAsc ["values"]) (B : Blt mg) : Has P w K mg base "is_ascending" 1 1 (spPure K 1 rIsAsc) := by
  refine mkHas (k := 0) T scAsc spPure_len fun f cdv A outer s H vs Q E hr h => ?_
  obtain ⟨G, ds, d, hm, g, hds, ⟨ns, rfl, hx, rfl⟩, k⟩ := h
  cases hds with
  | cons d0 hn =>
    cases hn
    have ez : zipD (ofI ns) ((ofI ns).drop 1) = (ns.zip (ns.drop 1)).map fun p => .tuple [.int p.1, .int p.2] := by
      unfold zipD ofI
      rw [← List.map_drop, List.zipWith_map_left, List.zipWith_map_right, List.zip, List.map_zipWith]
    refine b_one (s_ret (w_pu (pu_all (bs := (ns.zip (ns.drop 1)).map fun p => decide (p.1 < p.2)) (Pu.to (pu_lc [("low", 1), ("high", 2)] scAsc.nd (lc2 1 2 (ns := ns.zip (ns.drop 1)) (c1 := fun p => .int p.1) (c2 := fun p => .int p.2) (by
      rw [← ez]
      exact src_zip (pu_var 0 rfl d0) (Pu.to (pu_slL (pu_var 0 rfl d0) (puo_some pu_int) puo_none) (by rw [cutD_drop])) B.zip) (fun p => .bool (decide (p.1 < p.2))) (fun _ => true) scAsc.nd
      (fun _ _ _ _ _ _ _ _ _ _ _ _ _ => puts_nil) (fun n hn _ v w G3 g3 hv hw _ _ _ _ _ => pu_c (c_lt (pu_var 1 rfl hv) (pu_var 2 rfl hw))) (by rw [List.length_zip]; omega)) (blkOk_by (by kernel_rfl))) ?e1) B.all) g fun v G2 H2 s2 hv => ?_))
    case e1 => rw [filter_tt, List.map_map]; rfl
    refine k v G2 H2 s2 ?_
    unfold ascB
    rw [List.all_map] at hv
    exact hv
theorem scCalled : FnScope ["word"] ["word"] (defScope sCalled) := ⟨rfl, rfl, rfl, by decide +kernel, rfl, by decide +kernel, by decide +kernel⟩
def rCalled : List Dt → Dt → Prop := fun ds d => ∃ x : Str, ds = [.str x] ∧ x.length < 100000 ∧ d = .bool (nmB x && !decide (x ∈ resS))
theorem has_called (T : Top1 K mg "may_be_called" sCalled ["word"]) (B : Blt mg) (L : Glb K mg) (hI : HIsName P w K mg base) : Has P w K mg base "may_be_called" 2 1 (spPure K 1 rCalled) := by
  refine mkHas (k := 1) T scCalled spPure_len fun f cdv A outer s H vs Q E hr h => ?_
  obtain ⟨G, ds, d, hm, g, hds, ⟨x, rfl, hx, rfl⟩, k⟩ := h
  cases hds with
  | cons d0 hn =>
    cases hn
    obtain ⟨ar, u1, g1, r1, hr1⟩ := L.reserved
    refine b_one (s_ret (w_pu (pu_and (pu_call hI hr (by decide) (pua_cons (pu_var 0 rfl d0) pua_nil) ⟨x, rfl, hx, rfl⟩ rfl) fun _ => pu_bo1 (pu_c (c_ninST (pu_var 0 rfl d0) (pu_glob g1 r1 (hr1 _))))) g fun v G2 H2 s2 hv => k v G2 H2 s2 hv))
section
variable {X : Cx} {σ : L2.St} {G H : Hp} {a : Expr} {p pos : Pos}
theorem pu_sorted {ns : List Int} (ha : Pu X a σ G (.list (ofI ns))) (h64 : ns.length < 64) (hm : X.mg "sorted" = none) (hg : Gl X "sorted" := by rfl)
    (he : starEach [a] X.env = [(false, eval a X.env)] := by rfl) : Pu X (.Call (.Name "sorted" p) [a] [] pos) σ G (.list (ofI (PySem.W.sortI ns))) :=
  pu_one cr_sorted ha (fun G1 H v g s hv Q q => by
    obtain ⟨l, vs, rfl, h1, h2⟩ := hv.lst_inv
    obtain rfl := h2.ints
    refine ⟨l, ns, rfl, SqL.of (s _ _ h1), h64, fun ys p hp hy hpn => ?_⟩
    obtain rfl := PySem.W.eq_sortI hp hy
    exact q _ _ _ (Step.alloc s hpn) (.lst upd_same (Das.ofInts _))) hm boot_sorted hg (by decide) (by decide) he
end
theorem scLotTold : FnScope ["kind", "comers", "begins", "begun"] ["kind"] (defScope sLotTold) := ⟨rfl, rfl, rfl, by decide +kernel, rfl, by decide +kernel, by decide +kernel⟩
def lotK (k : Kd) : List Int := PySem.W.sortI (k.cs ++ k.b.toList)
def rLotTold : List Dt → Dt → Prop := fun ds d => ∃ k : Kd, ds = [kdD k] ∧ k.cs.length < 60 ∧ d = .tuple (ofI (lotK k))
theorem has_lottold (T : Top1 K mg "lot_told" sLotTold ["kind"]) (B : Blt mg) : Has P w K mg base "lot_told" 1 1 (spPure K 1 rLotTold) := by
  refine mkHas (k := 0) T scLotTold spPure_len fun f cdv A outer s H vs Q E hr h => ?_
  obtain ⟨G, ds, d, hm, g, hds, ⟨kk, rfl, hl, rfl⟩, k⟩ := h
  cases hds with
  | cons d0 hn =>
    cases hn
    refine b_cons (s_par 1 2 scLotTold.nd (a_cons (w_pu (pu_ixT (i := 1) (d := .tuple (ofI kk.cs)) (pu_var 0 rfl d0) pu_int (by decide) rfl) g fun v1 G1 H1 s1 hv1 => a_cons (w_pu (pu_ixT (i := 2) (d := optD kk.b) (pu_var 0 rfl (d0.mono s1.g)) pu_int (by decide) rfl) s1.s fun v2 G2 H2 s2 hv2 => a_nil ⟨_, _, rfl, ?_⟩))))
    refine b_cons (s_set 3 scLotTold.nd (w_pu (d := .list (ofI kk.b.toList)) (pu_if (put_c (c_isN kk.b.isNone (pu_var 2 rfl hv2) fun G' v _ hv => optN hv)) (fun h => Pu.to (pu_lst pua_nil) ?cn) (fun h => ?cs)) s2.s fun v3 G3 H3 s3 hv3 => ?_))
    case cn =>
      cases e : kk.b with
      | none => rfl
      | some x => rw [e] at h; cases h
    case cs =>
      cases e : kk.b with
      | none => rw [e] at h; cases h
      | some x =>
        rw [e] at hv2
        exact pu_lst (ds := ofI [x]) (pua_cons (pu_var 2 rfl hv2) pua_nil)
    have hbl : kk.b.toList.length ≤ 1 := by cases kk.b <;> simp
    refine b_one (s_ret (w_pu (pu_tupleL (pu_sorted (ns := kk.cs ++ kk.b.toList) (Pu.to (pu_lst (pua_starT (pu_var 1 rfl (hv1.mono (s2.g.trans s3.g))) (pua_starL (pu_var 3 rfl hv3) pua_nil)) ?l1) ?e1) ?l2 B.sorted) B.tuple) s3.s fun v G4 H4 s4 hv => k v G4 H4 (s1.trans (s2.trans (s3.trans s4))) hv))
    case l1 =>
      simp only [ofI, List.length_append, List.length_map, List.length_nil]
      exact Nat.le_trans (show _ ≤ 100 by omega) (by decide)
    case e1 => simp [ofI]
    case l2 =>
      rw [List.length_append]
      omega
end
end Mb

set_option Elab.async false
set_option linter.all false
set_option maxRecDepth 100000
/-! len(set(texts)), the texts in a list, as many as there are -/
namespace MbS
open PySem PySem.Spec PyProof.Rows
def stepS (l : List Str) (x : Str) : List Str := if l.any (· == x) then l else l ++ [x]
def metS (xs : List Str) : List Str := xs.foldl stepS []
theorem metS_succ (xs : List Str) {i : Nat} (h : i < xs.length) : metS (xs.take (i + 1)) = stepS (metS (xs.take i)) (xs.getD i Str.empty) := by
  unfold metS
  have e : xs.take (i + 1) = xs.take i ++ [xs.getD i Str.empty] := by
    rw [List.take_add_one, List.getElem?_eq_getElem h, List.getD_eq_getElem?_getD, List.getElem?_eq_getElem h]
    rfl
  rw [e, List.foldl_append]
  rfl
theorem stepS_any (l : List Str) (x k : Str) : (stepS l x).any (· == k) = (l.any (· == k) || decide (k = x)) := by
  unfold stepS
  by_cases h : l.any (· == x) = true
  · rw [if_pos h]
    by_cases e : k = x
    · subst e; rw [h]; simp
    · simp [e]
  · rw [if_neg h, List.any_append]
    by_cases e : k = x
    · subst e; simp
    · have hb : (x == k) = false := by simpa [beq_iff_eq] using (fun h' : x = k => e h'.symm)
      simp [hb, e]
theorem stepS_len (l : List Str) (x : Str) : (stepS l x).length = if l.any (· == x) = true then l.length else l.length + 1 := by
  unfold stepS
  split <;> simp
theorem metS_len : ∀ (xs : List Str) (acc : List Str), (xs.foldl stepS acc).length ≤ acc.length + xs.length
  | [], acc => by simp
  | x :: xs, acc => by
    have h1 := metS_len xs (stepS acc x)
    have h2 := stepS_len acc x
    rw [List.foldl_cons, List.length_cons]
    by_cases h : acc.any (· == x) = true
    · rw [if_pos h] at h2; omega
    · rw [if_neg h] at h2; omega
theorem metS_le (xs : List Str) : (metS xs).length ≤ xs.length := by
  have := metS_len xs []
  simpa [metS] using this
section
variable {prog : Program} {w : World} {A : Around} {R : Result → Shared → Prop} {I : Addr} {fp wr : List Addr} {G : Array GenState → Array GenState → Prop} {n : Nat} {P : Nat → Value → Prop} {St : Nat → Shared → Prop}
theorem loopStrs (W : WalksS prog w A.in1 I fp wr G n P St) (S : Addr) (hSf : S ∉ fp) (xs : List Str) (hsz : xs.length = n) (hn1 : n + 1 < scanBound)
    (hval : ∀ i v, P i v → ∃ t, v = .str (xs.getD i Str.empty) t) :
    ∀ (k i : Nat) (s : Shared), n - i = k → i ≤ n → St i s →
      s.heap.SetOf (PySem.strKind prog w) S (fun k' => (metS (xs.take i)).any (· == k')) (metS (xs.take i)).length →
      (∀ s', Moved (S :: wr) G s s' → s'.heap.SetOf (PySem.strKind prog w) S (fun k' => (metS (xs.take n)).any (· == k')) (metS (xs.take n)).length → R (.ok (.ret .none)) s') →
      codeAny (model prog w) A (.builtin "set.update.loop" ⟨[.ref S, .ref I], []⟩) R s := by
  have hSw : S ∉ wr := fun h => hSf (W.sub _ h)
  have hsub : ∀ b ∈ wr, b ∈ S :: wr := fun b hb => List.mem_cons_of_mem _ hb
  intro k
  induction k with
  | zero =>
    intro i s hk hi hst hS hR
    obtain rfl : i = n := by omega
    refine codeAny_builtin PyProof.Rows.F.entry_set_update_loop ?_
    rw [Around.under_plainId PyProof.Rows.F.plain_set_update_loop _]
    show wpAny _ A.in1 (pyNext (.ref I) >>= _) _ _ s
    refine wpAny_bind (W.done s _ _ hst fun s' hm => ?_)
    show wpAny _ A.in1 (ret Value.none) _ _ s'
    exact wpAny_pure (hR s' (hm.mono hsub) (by
      obtain ⟨o, es, ep, t, ho, rest⟩ := hS
      exact ⟨o, es, ep, t, hm.heap S _ hSw ho, rest⟩))
  | succ k ih =>
    intro i s hk hi hst hS hR
    have hlt : i < n := by omega
    refine codeAny_builtin PyProof.Rows.F.entry_set_update_loop ?_
    rw [Around.under_plainId PyProof.Rows.F.plain_set_update_loop _]
    show wpAny _ A.in1 (pyNext (.ref I) >>= _) _ _ s
    refine wpAny_bind (W.item i s _ _ hlt hst fun v s' hP hst' hm => ?_)
    obtain ⟨t, rfl⟩ := hval i v hP
    have hS' : s'.heap.SetOf (PySem.strKind prog w) S (fun k' => (metS (xs.take i)).any (· == k')) (metS (xs.take i)).length := by
      obtain ⟨o, es, ep, tb, ho, rest⟩ := hS
      exact ⟨o, es, ep, tb, hm.heap S _ hSw ho, rest⟩
    show wpAny _ A.in1 (holding [Value.str (xs.getD i Str.empty) t] (setAdd S (.str (xs.getD i Str.empty) t)) >>= _) _ _ s'
    refine wpAny_bind (wpAny_holding ?_)
    unfold setAdd
    refine wpAny_holding ?_
    refine wpAny_bind ((PySem.strKind prog w).pyHash (k := xs.getD i Str.empty) (strKind_is _ _ _ _) ?_)
    have hroom : (metS (xs.take i)).length + 1 < scanBound := by
      have := metS_le (xs.take i)
      rw [List.length_take] at this
      omega
    refine wpAny_setAddHashed_of (knd := PySem.strKind prog w) (s := { s' with toks := s'.toks + 1 }) (strKind_is _ _ _ _) rfl hS' hroom fun h' hsb hS2 => ?_
    have hSi : h'.SetOf (PySem.strKind prog w) S (fun k' => (metS (xs.take (i + 1))).any (· == k')) (metS (xs.take (i + 1))).length :=
      SetOf_congr hS2 (fun k' => by rw [metS_succ xs (by omega), stepS_any]) (by rw [metS_succ xs (by omega), stepS_len])
    refine wpAny_pure ⟨plainId_quiet PyProof.Rows.F.plain_set_update_loop _, ih (i + 1) _ (by omega) hlt (W.frame _ s' _ _ hst' (Nat.le_succ _) fun b hb o e => ?_) hSi fun s'' hm'' hS'' => ?_⟩
    · rw [hsb.2 b (fun h : b = S => hSf (by rw [← h]; exact hb))]; exact e
    · refine hR s'' (Moved.trans W.gtrans ((hm.mono hsub).then_heap (Nat.le_succ _) fun b o hb e => ?_) hm'') hS''
      rw [hsb.2 b (fun h : b = S => hb (by rw [h]; exact List.mem_cons_self))]; exact e
end
section
variable {prog : Program} {w : World} {A : Around} {E : Value → Shared → Prop} {s : Shared}
set_option maxHeartbeats 3200000 in
theorem set_texts {l : Addr} {items : Array Value} {xs : List Str} {Q : Value → Shared → Prop}
    (hh : A.handled = none) (hl : s.heap.IsList l items) (hi : PyProof.Rows.StrsAre items.toList xs) (hn1 : xs.length + 1 < scanBound)
    (h : ∀ (h' : Heap) (tk : Nat), h'.SetOf (PySem.strKind prog w) s.heap.objs.size (fun k' => (metS xs).any (· == k')) (metS xs).length →
      (∀ b o, b < s.heap.objs.size → s.heap.get? b = some o → h'.get? b = some o) → Q (.ref s.heap.objs.size) { s with heap := h', toks := tk }) :
    wpAny (model prog w) A (call (.type "set") [.ref l]) Q E s := by
  obtain ⟨c, tl, hmro⟩ := PySem.F.called_set.mro
  have hmade := PySem.F.called_set.made
  have hsub := PySem.F.called_set.sub
  refine wpAny_call (codeAny_of_tree ?_)
  show wpAny _ _ (callAny (.type "set") _) _ _ _
  refine wpAny_pure ⟨Code.quiet_builtin _ (by decide +kernel), codeAny_builtin PySem.F.entry_type_call ?_⟩
  rw [Around.under_plain (weight_type_call_type "set" [.ref l] []) rfl]
  have h1 := PySem.F.called_set.notType
  have h2 := PySem.F.called_set.canCreate
  have hct := PySem.F.typeCall_set_1 (.ref l)
  repeat (any_goals (first | assumption | wp_step))
  refine codeAny_mono (code_set_new_1 (.ref l) (E := E) (Q₁ := fun obj s₁ => ∃ led : Bool, obj = .ref s.heap.objs.size ∧ s₁ = { s with heap := s.heap.push { cls := .type "set", dict := none, data := .set #[] 0 (.fresh 0 0 led) } }) fun led => ⟨led, rfl, rfl⟩) fun r s₁ hr => ?_
  cases r with
  | error e => exact hr
  | ok fl =>
    cases fl with
    | ret obj =>
      obtain ⟨led, rfl, rfl⟩ := hr
      have hS : (s.heap.push { cls := .type "set", dict := none, data := .set #[] 0 (.fresh 0 0 led) }).get? s.heap.objs.size = some { cls := .type "set", dict := none, data := .set #[] 0 (.fresh 0 0 led) } := Heap.get?_push_size _ rfl
      have hT : Shared.TypeIs { s with heap := s.heap.push { cls := .type "set", dict := none, data := .set #[] 0 (.fresh 0 0 led) } } (.ref s.heap.objs.size) "set" := ⟨_, hS, rfl⟩
      have hli := PySem.F.called_set.init.lookup
      have hbi := PySem.F.called_set.init.bind (.ref s.heap.objs.size)
      repeat (any_goals (first | assumption | wp_step))
      refine codeAny_mono (codeAny_call_builtin (R := wants (fun r s₂ => r = .none ∧ ∃ h' tk, s₂ = { s with heap := h', toks := tk } ∧
          h'.SetOf (PySem.strKind prog w) s.heap.objs.size (fun k' => (metS xs).any (· == k')) (metS xs).length ∧
          (∀ b o, b < s.heap.objs.size → s.heap.get? b = some o → h'.get? b = some o)) E) PySem.F.called_set.init.plain PySem.F.entry_set_init (check_set_init_1 hT ?_)) fun r₂ s₂ hr₂ => ?_
      · obtain ⟨ol, hol, hcl, nl, hdl⟩ := hl
        obtain ⟨ocls, odict, odata, oslots⟩ := ol
        simp only at hcl hdl
        subst hcl; subst hdl
        have hol' : (s.heap.push { cls := .type "set", dict := none, data := .set #[] 0 (.fresh 0 0 led) }).get? l = some { cls := .type "list", dict := odict, data := .seq items nl, slots := oslots } := Heap.get?_push_of_some _ hol
        have hsls := PySem.F.sub_list_set
        have hslf := PySem.F.sub_list_frozenset
        have hne : (Value.type "list" == Value.type "dict") = false := by decide
        have hl1 : (s.heap.push { cls := .type "set", dict := none, data := .set #[] 0 (.fresh 0 0 led) }).IsList l items := ⟨_, hol', rfl, nl, rfl⟩
        unfold Builtin.«set.__init__» noKeywords Builtin.Frozenset.updateFrom
        generalize hPI : pyIter = PI
        wp_walk
        subst hPI
        refine wpAny_pyIter_list hl1 ?_
        refine wpAny_bind (wpAny_runValue ?_)
        have hlS : l < s.heap.objs.size := Heap.lt_size hol
        have hh3 : A.in1.in1.in1.handled = none := by simp [hh]
        have hneI : l ≠ (s.heap.push { cls := .type "set", dict := none, data := .set #[] 0 (.fresh 0 0 led) }).objs.size := by
          rw [Heap.size_push]; exact Nat.ne_of_lt (Nat.lt_succ_of_lt hlS)
        have hSf : s.heap.objs.size ∉ [(s.heap.push { cls := .type "set", dict := none, data := .set #[] 0 (.fresh 0 0 led) }).objs.size, l] := by
          rw [Heap.size_push]; simp only [List.mem_cons, List.mem_singleton, List.not_mem_nil, or_false, not_or]
          exact ⟨Nat.ne_of_lt (Nat.lt_succ_self _), Nat.ne_of_gt hlS⟩
        have hsz : xs.length = items.size := by rw [← StrsAre.len_eq hi, Array.length_toList]
        have hval : ∀ (i : Nat) (v : Value), items[i]? = some v → ∃ t, v = .str (xs.getD i Str.empty) t := fun i v hv => SS.strs_at hi i v (by rw [Array.getElem?_toList]; exact hv)
        refine loopStrs ((Walks.list hh3 _ l hneI items).toS) s.heap.objs.size
          hSf xs hsz (by rw [← hsz]; exact hn1) hval (items.size - 0) 0 _ (by omega) (Nat.zero_le _)
          ⟨⟨_, Heap.get?_push_size _ rfl, rfl, rfl⟩, (hl1.push _)⟩ ?hS0 ?hR
        case hS0 =>
          have hget : ((s.heap.push { cls := .type "set", dict := none, data := .set #[] 0 (.fresh 0 0 led) }).push { cls := .type "list_iterator", data := .fields #[.ref l, .int 0 0] }).get? s.heap.objs.size
              = some { cls := .type "set", dict := none, data := .set #[] 0 (.fresh 0 0 led) } := Heap.get?_push_of_some _ hS
          exact PyProof.Rows.SetOf_congr ((PyProof.Rows.setObjOf_fresh (knd := PySem.strKind prog w) led).setOf hget (by unfold scanBound; omega)) (fun _ => rfl) rfl
        case hR =>
          intro s' hm hS'
          obtain ⟨h', g', d', tk', os'⟩ := s'
          have eg : g' = s.gens := hm.gens
          have ed : d' = s.drawn := hm.drawn
          have eo : os' = s.os := hm.os
          subst eg; subst ed; subst eo
          show wpAny _ _ _ _ _ _
          refine wpAny_pure ?_
          show wpAny _ _ (ret Value.none) _ _ _
          rw [← hsz, List.take_length] at hS'
          refine wpAny_pure ⟨rfl, h', tk', rfl, hS', fun b o hb e => ?_⟩
          have hb1 : b ≠ s.heap.objs.size := Nat.ne_of_lt hb
          have hb2 : b ≠ (s.heap.push { cls := .type "set", dict := none, data := .set #[] 0 (.fresh 0 0 led) }).objs.size := by
            rw [Heap.size_push]; exact Nat.ne_of_lt (Nat.lt_succ_of_lt hb)
          exact hm.heap b o (by simp only [List.mem_cons, List.mem_singleton, List.not_mem_nil, or_false, not_or]; exact ⟨hb1, hb2⟩) (Heap.get?_push_of_some _ (Heap.get?_push_of_some _ e))
      · cases r₂ with
        | error e => exact hr₂
        | ok fl₂ =>
          cases fl₂ with
          | ret r =>
            obtain ⟨rfl, h', tk, rfl, hS', hk'⟩ := hr₂
            repeat (any_goals (first | assumption | wp_step))
            exact h _ _ hS' hk'
          | _ => exact hr₂.elim
    | _ => exact hr.elim
end
end MbS

set_option Elab.async false
set_option linter.all false
set_option maxRecDepth 100000
set_option maxHeartbeats 2000000
namespace Mb
open PySem PySem.Spec PyProof.Rows L2
open MbS (metS set_texts)
def tLenSetS (K : PySem.W.Frag) (ta : TE) : TE := fun σ H Q => ta σ H fun x H1 => ∃ (l : Addr) (xs : List Str), x = .ref l ∧ SqL K H1 l (xs.map V.str) ∧ xs.length ≤ 1000 ∧ Q (.int (metS xs).length) H1
theorem pe_lenSetS {X : Cx} {a : Expr} {ta : TE} {p p2 q pos : Pos} (hc : X.calm = true) (hg : Gl X "len") (hm : X.mg "len" = none) (hg2 : Gl X "set") (hm2 : X.mg "set" = none) (ha : PE X a ta)
    (na : starEach [a] X.env = (false, eval a X.env) :: starEach [] X.env := by rfl) : PE X (.Call (.Name "len" p) [.Call (.Name "set" p2) [a] [] q] [] pos) (tLenSetS X.K ta) := by
  refine ⟨fun pins s σ H Q I h => ?_⟩
  refine Call_ (ld_blt I hg hm PySem.boot_len ?_)
  refine PyProof.Rows.callWith_builtin1 (PyProof.Rows.args_cons ?_ rfl) rfl rfl
  refine Call_ (ld_blt I hg2 hm2 PyProof.Rows.boot_set ?_)
  refine PyProof.Rows.callWith_type1 (PyProof.Rows.args_cons (thn (ha.run pins s σ H _ I h) fun v s1 ⟨x, H1, I1, r1, q1⟩ => PyProof.Rows.args_nil ?_) na) na rfl
  obtain ⟨l, xs, rfl, hq, hl, q1⟩ := q1
  cases r1
  obtain ⟨its, r, pl, hz⟩ := I1.list hq
  have hle := MbS.metS_le xs
  refine set_texts (I1.ok.hd hc) pl.isList (by simpa using strsAre_of r) (by unfold scanBound; omega) fun h' tk hS hk => ?_
  refine PyProof.Rows.args_nil ?_
  obtain ⟨o, es, ep, t, ho, hex, hd, _, _, _, hf, hn⟩ := hS
  have I2 : Inv X pins σ H1 { s1 with heap := h', toks := tk } := I1.kept fun b o e => hk b o (Heap.lt_size e) e
  exact call_len_set ho hex hd hf (by rw [hn]; omega) ⟨.int (metS xs).length, H1, I2.tok _, ⟨_, by rw [hn]⟩, q1⟩
def tLenSetT (K : PySem.W.Frag) (ta : TE) : TE := fun σ H Q => ta σ H fun x H1 => ∃ (l : Addr) (ns : List Int), x = .ref l ∧ SqT K H1 l (ns.map V.int) ∧ ns.length ≤ 1000 ∧ ∀ ms : List Int, ms.Nodup → (∀ k, k ∈ ms ↔ k ∈ ns) → Q (.int ms.length) H1
theorem pe_lenSetT {X : Cx} {a : Expr} {ta : TE} {p p2 q pos : Pos} (hc : X.calm = true) (hg : Gl X "len") (hm : X.mg "len" = none) (hg2 : Gl X "set") (hm2 : X.mg "set" = none) (ha : PE X a ta)
    (na : starEach [a] X.env = (false, eval a X.env) :: starEach [] X.env := by rfl) : PE X (.Call (.Name "len" p) [.Call (.Name "set" p2) [a] [] q] [] pos) (tLenSetT X.K ta) := by
  refine ⟨fun pins s σ H Q I h => ?_⟩
  refine Call_ (ld_blt I hg hm PySem.boot_len ?_)
  refine PyProof.Rows.callWith_builtin1 (PyProof.Rows.args_cons ?_ rfl) rfl rfl
  refine Call_ (ld_blt I hg2 hm2 PyProof.Rows.boot_set ?_)
  refine PyProof.Rows.callWith_type1 (PyProof.Rows.args_cons (thn (ha.run pins s σ H _ I h) fun v s1 ⟨x, H1, I1, r1, q1⟩ => PyProof.Rows.args_nil ?_) na) na rfl
  obtain ⟨l, ns, rfl, hq, hl, q1⟩ := q1
  cases r1
  obtain ⟨its, r, pl, hz⟩ := I1.tuple hq
  refine call_set_tupI ns (I1.ok.hd hc) pl (by simpa using r.ints) (by unfold scanBound; omega) fun h' tk c hS hle hk => ?_
  refine PyProof.Rows.args_nil ?_
  obtain ⟨o, es, ep, t, ho, hex, hd, _, hnd, hmem, _, hf, hn, _⟩ := hS
  have I2 : Inv X pins σ H1 { s1 with heap := h', toks := tk } := I1.kept fun b o e => hk b o e
  have q2 := q1 (es.toList.map keyOf) hnd fun k => by rw [← hmem k]; simp
  rw [List.length_map, Array.length_toList] at q2
  exact call_len_set ho hex hd hf (by rw [hn]; omega) ⟨.int es.size, H1, I2.tok _, ⟨_, rfl⟩, q2⟩
section
variable {X : Cx} {σ : L2.St} {G H : Hp} {a : Expr} {p p2 q pos : Pos}
theorem pu_lenSetS {xs : List Str} (ha : Pu X a σ G (.list (ofS xs))) (hl : xs.length ≤ 1000) (hm : X.mg "len" = none) (hm2 : X.mg "set" = none) (hc : X.calm = true := by rfl) (hg : Gl X "len" := by rfl) (hg2 : Gl X "set" := by rfl)
    (na : starEach [a] X.env = (false, eval a X.env) :: starEach [] X.env := by rfl) : Pu X (.Call (.Name "len" p) [.Call (.Name "set" p2) [a] [] q] [] pos) σ G (.int (metS xs).length) := fun G1 H g s Q k => by
  refine eE.mk (pe_lenSetS hc hg hm hg2 hm2 pe_e na) (ha G1 H g s _ fun v G2 H2 s2 h2 => ?_)
  obtain ⟨l, vs, rfl, h3, h4⟩ := h2.lst_inv
  obtain rfl := h4.strs
  exact ⟨l, xs, rfl, SqL.of (s2.s _ _ h3), hl, k _ _ _ s2 (.int _)⟩
theorem pu_lenSetT {ns : List Int} {n : Nat} (ha : Pu X a σ G (.tuple (ofI ns))) (hl : ns.length ≤ 1000) (hn : ∀ ms : List Int, ms.Nodup → (∀ k, k ∈ ms ↔ k ∈ ns) → ms.length = n) (hm : X.mg "len" = none) (hm2 : X.mg "set" = none) (hc : X.calm = true := by rfl) (hg : Gl X "len" := by rfl) (hg2 : Gl X "set" := by rfl)
    (na : starEach [a] X.env = (false, eval a X.env) :: starEach [] X.env := by rfl) : Pu X (.Call (.Name "len" p) [.Call (.Name "set" p2) [a] [] q] [] pos) σ G (.int n) := fun G1 H g s Q k => by
  refine eE.mk (pe_lenSetT hc hg hm hg2 hm2 pe_e na) (ha G1 H g s _ fun v G2 H2 s2 h2 => ?_)
  obtain ⟨l, vs, rfl, h3, h4⟩ := h2.tup_inv
  obtain rfl := h4.ints
  refine ⟨l, ns, rfl, SqT.same s2.s h3, hl, fun ms h5 h6 => ?_⟩
  rw [hn ms h5 h6]
  exact k _ _ _ s2 (.int _)
end
theorem metS_nodup : ∀ {xs : List Str}, xs.Nodup → metS xs = xs := by
  have key : ∀ (xs acc : List Str), (acc ++ xs).Nodup → xs.foldl MbS.stepS acc = acc ++ xs := by
    intro xs
    induction xs with
    | nil => intro acc _; simp
    | cons x xs ih =>
      intro acc h
      have hx : ¬ acc.any (· == x) = true := by
        intro hc
        obtain ⟨y, hy, e⟩ := List.any_eq_true.mp hc
        have e' : y = x := eq_of_beq e
        subst e'
        rw [List.nodup_append] at h
        exact h.2.2 y hy y List.mem_cons_self rfl
      rw [List.foldl_cons]
      have e : MbS.stepS acc x = acc ++ [x] := by
        unfold MbS.stepS
        rw [if_neg hx]
      rw [e, ih (acc ++ [x]) (by simpa [List.append_assoc] using h), List.append_assoc]
      rfl
  intro xs h
  have := key xs [] (by simpa using h)
  simpa [metS] using this
end Mb

set_option Elab.async false
set_option linter.all false
set_option maxRecDepth 100000
set_option maxHeartbeats 2000000
/-! enumerate of a tuple; of a list, from a start -/
namespace Mb
open PySem PySem.Spec PyProof.Rows L2
/-- what enumerate hands out, the items those of xs wherever Sq tells them -/
def Itn (Sq : Hp → List V → Prop) (k0 : Int) : It :=
  ⟨fun i H => ∃ (xs : List V) (x : V), Sq H xs ∧ xs[i]? = some x, fun i H v H' => ∃ T x, v = .ref T ∧ H T = none ∧ H' = upd H T (.tup [.int (k0 + ((i : Nat) : Int)), x]) ∧ ∀ xs, Sq H xs → xs[i]? = some x, fun i H => ∃ xs : List V, Sq H xs ∧ xs.length ≤ i⟩
theorem turn_enumG {P : Program} {w : World} {K : PySem.W.Frag} {elts : List Expr} {kk : Nat} {tpos : Pos} {Sq : Hp → List V → Prop} {Ir : Nat → Heap → Prop} {Is : Heap → Array Value → Prop} (a e it : Addr) (k0 : Int)
    (hD : ∀ (A : Around), A.handled = none → ∀ items : Array Value, Draws P w A it [it, a] items.size (fun i v => items[i]? = some v) (fun i h => Ir i h ∧ Is h items))
    (hsq : ∀ (X : Cx), X.prog = P → X.w = w → X.K = K → ∀ (pins : List (Addr × Obj)) (s : Shared) (σ : L2.St) (H : Hp) (xs : List V), Inv X pins σ H s → Sq H xs → ∃ its : List Value, Vals xs its ∧ Is s.heap its.toArray)
    (hinj : ∀ (X : Cx), X.prog = P → X.w = w → X.K = K → ∀ (pins : List (Addr × Obj)) (s : Shared) (σ : L2.St) (H : Hp) (xs ys : List V), Inv X pins σ H s → Sq H xs → Sq H ys → xs = ys)
    (hE : ∀ (A : Around), A.handled = none → ∀ (items : Array Value) (i : Nat) (s : Shared) (Q : Value → Shared → Prop) (E : Value → Shared → Prop), Ir i s.heap → Is s.heap items → items.size ≤ i → (∀ h' e, Heap.ExtBut it s.heap h' → (∃ o, h'.get? e = some o ∧ o.cls = .type "StopIteration") → E (.ref e) { s with heap := h' }) → wpAny (model P w) A (Builtin.SmallTypes.nextOf (.ref it)) Q E s)
    (hlive : ∀ i h, Ir i h → ∃ o, h.get? it = some o ∧ ∀ v, o.data ≠ .cell v)
    (hfr : ∀ i h h', Ir i h → (∀ o, h.get? it = some o → h'.get? it = some o) → Ir i h') :
    Turn P w K (.Tuple elts kk tpos) (Itn Sq k0) [e, it] e (fun i h => (∃ old, IsEnum h e it (k0 + ((i : Nat) : Int)) old) ∧ Ir i h ∧ e ≠ it ∧ e ≠ a) where
  mem := by simp
  obj := fun i h st b hb => by
    obtain ⟨⟨old, he⟩, hi, _⟩ := st
    have e' : b = e ∨ b = it := by simpa using hb
    rcases e' with z | z
    · rw [z]; exact ⟨_, he, fun v q => nomatch q⟩
    · rw [z]; exact hlive i h hi
  keep := fun i h h' st k => let ⟨⟨old, he⟩, hi, hne⟩ := st; ⟨⟨old, k e (by simp) _ he⟩, hfr i h h' hi fun o q => k it (by simp) o q, hne⟩
  item := by
    intro X hP hw hK hc i pins s σ H E I hf st hg
    obtain ⟨⟨old, he⟩, hit, hne, hea⟩ := st
    obtain ⟨xs, x, hq, hx⟩ := hg
    obtain ⟨its, rv, p⟩ := hsq X hP hw hK pins s σ H xs I hq
    subst hP hw hK
    obtain ⟨u, hu, ru⟩ := rv.get hx
    have hel : e < s.heap.objs.size := Heap.lt_size he
    have hil : it < s.heap.objs.size := by obtain ⟨_, q, _⟩ := hlive _ _ hit; exact Heap.lt_size q
    have hisz : i < its.toArray.size := by
      have := (List.getElem?_eq_some_iff.mp hu).1
      simpa using this
    refine wpAny_pyNext_enum_itemC (hD X.A.in1 (by have := I.ok.hd hc; simpa using this) its.toArray) he ⟨hit, p⟩ hisz hne (by simp; exact ⟨hne, hea⟩) fun u' h' tk hP' ho hst' hT hsz hk => ?_
    obtain rfl : u = u' := by
      have q1 : its[i]? = some u' := by simpa using hP'
      exact Option.some.inj (hu.symm.trans q1)
    refine ⟨_, rfl, wpAny_letOwnedTupleGo_enum (s := { s with heap := h', toks := tk + 1 }) ho fun h'' he' sb => ?_⟩
    have hT2 : h''.get? s.heap.objs.size = some { cls := .type "tuple", data := .seq #[.int (k0 + ((i : Nat) : Int)) tk, u] } := (sb.2 _ (Nat.ne_of_gt hel)).trans hT
    have new : ObjOk X.prog X.w (upd H s.heap.objs.size (.tup [.int (k0 + ((i : Nat) : Int)), x])) h'' s.heap.objs.size (.tup [.int (k0 + ((i : Nat) : Int)), x]) :=
      ⟨by show 2 ≤ sizeLine; decide, [.int (k0 + ((i : Nat) : Int)) tk, u], .cons ⟨_, rfl⟩ (.cons ru .nil), ⟨_, hT2, rfl, _, rfl⟩⟩
    have I1 : Inv X pins σ (upd H s.heap.objs.size (.tup [.int (k0 + ((i : Nat) : Int)), x])) { s with heap := h'', toks := tk + 1 } :=
      I.turnedNew (ch := [e, it]) (fun b ob hb q => (sb.2 b (fun z => hb (by simp [z]))).trans (hk b ob (fun z => hb (by simp [z])) (fun z => hb (by simp [z])) q)) hf (Nat.le_refl _) new
    refine ⟨.ref s.heap.objs.size, _, I1, rfl, ⟨_, x, rfl, I.hok.fresh (Nat.le_refl _), rfl, fun ys hy => by rw [hinj X rfl rfl rfl pins s σ H ys xs I hy hq]; exact hx⟩, ⟨⟨u, ?_⟩, hfr _ _ _ hst'.1 fun o q => (sb.2 it (Ne.symm hne)).trans q, hne, hea⟩, fun b hb => ?_⟩
    · have e1 : k0 + ((i + 1 : Nat) : Int) = k0 + ((i : Nat) : Int) + 1 := by omega
      rw [e1]; exact he'
    · have hb' : b < s.heap.objs.size := by
        have e' : b = e ∨ b = it := by simpa using hb
        rcases e' with z | z
        · rw [z]; exact hel
        · rw [z]; exact hil
      rw [upd_ne (Nat.ne_of_lt hb')]
      exact (hf b hb).1
  done := by
    intro X hP hw hK hc i pins s σ H E I hf st hg
    obtain ⟨⟨old, he⟩, hit, hne, hea⟩ := st
    obtain ⟨xs, hq, hx⟩ := hg
    obtain ⟨its, rv, p⟩ := hsq X hP hw hK pins s σ H xs I hq
    subst hP hw hK
    obtain ⟨f0, f1, f2, f3, f4, f5⟩ := hf it (by simp)
    have hl := rv.length
    have hT : s.TypeIs (.ref e) "enumerate" := ⟨_, he, rfl⟩
    unfold pyNext
    refine wpAny_bind (wpAny_attempt (wpAny_callSpecial?_slot (name := Str.ofString "__next__") hT F.slot_enumerate_next
      (wpAny_call_entry F.slot_enumerate_next hT F.entry_enumerate_next ?_ (F.args_enumerate_next_1 _))))
    show wpAny _ _ (field (.ref e) 2 >>= _) _ _ _
    refine wpAny_bind (wpAny_field he rfl (x := .ref it) rfl ?_)
    refine wpAny_bind (hE _ (by have := I.ok.hd hc; simpa using this) its.toArray i _ _ _ hit p (by simp; omega) fun h' e' hx hs => ?_)
    obtain ⟨o, ho, hcls⟩ := hs
    refine wpAny_bind (wpAny_isInstance (T := "StopIteration") (b := true) ⟨o, ho, hcls⟩ isSubtype_stop ?_)
    exact wpAny_pure ⟨rfl, I.turned (t' := s.toks) (fun b o hb q => hx b o hb q) f0 f1 f3 f4 f5⟩
  self := fun A i s Q E st h => let ⟨⟨_, he⟩, _⟩ := st; wpAny_pyIter_enum he h

set_option maxHeartbeats 1000000 in
theorem meets_enum1 {v : Value} {o : Obj} {H : Heap → Prop} (B : Begins v o H) :
    Meets (Builtin.«enumerate.__new__» ⟨[.type "enumerate", v], []⟩) (fun _ R s => H s.heap ∧
      R (.ok (.ret (.ref (s.heap.push o).objs.size))) { s with heap := (s.heap.push o).push { cls := .type "enumerate", data := .fields #[.none, .bool false, .ref s.heap.objs.size, rawInt 0, .none, .none] } }) :=
  .of_wp fun prog w A R s h => by
    obtain ⟨hp, g, d, tk, os⟩ := s; obtain ⟨h1, h⟩ := h
    have hsub := sub_enumerate
    have q1 : ∀ {A' : Around} {E : Value → Shared → Prop} {Q : Value → Shared → Prop}, Q (.ref hp.objs.size) ⟨hp.push o, g, d, tk, os⟩ → wpAny (model prog w) A' (pyIter v) Q E ⟨hp, g, d, tk, os⟩ :=
      fun q => B.iter prog w _ _ ⟨hp, g, d, tk, os⟩ _ h1 q
    wp_walk using q1
    refine wpAny_stack_any fun st => wpAny_pure ?_
    split
    · rename_i c _ _ _ _ _
      cases (c == Value.type "enumerate")
      · wp_walk using q1
        exact ⟨_, rfl, h⟩
      · wp_walk using q1
        exact ⟨_, rfl, h⟩
    · wp_walk using q1
      exact ⟨_, rfl, h⟩
section
variable {prog : Program} {w : World} {A : Around} {E : Value → Shared → Prop} {s : Shared}
theorem call_enum1 {v : Value} {o : Obj} {H : Heap → Prop} {Q : Value → Shared → Prop} (B : Begins v o H) (h1 : H s.heap)
    (h : ∀ h', IsEnum h' (s.heap.objs.size + 1) s.heap.objs.size 0 .none → h'.get? s.heap.objs.size = some o → h'.objs.size = s.heap.objs.size + 2 →
      (∀ b o, s.heap.get? b = some o → h'.get? b = some o) → Q (.ref (s.heap.objs.size + 1)) { s with heap := h' }) :
    wpAny (model prog w) A (call (.type "enumerate") [v]) Q E s := by
  refine callType_new F.called_enumerate (by decide) (F.typeCall_enumerate_1 _) (F.newCall_enumerate_1 _) (fun obj => F.args_object_init_2 obj _) F.entry_enumerate_new (meets_enum1 B) ⟨h1, ?_⟩
  have hz : (s.heap.push o).objs.size = s.heap.objs.size + 1 := Heap.size_push ..
  show _ ∧ _
  rw [hz]
  have he : IsEnum ((s.heap.push o).push { cls := .type "enumerate", data := .fields #[.none, .bool false, .ref s.heap.objs.size, rawInt 0, .none, .none] }) (s.heap.objs.size + 1) s.heap.objs.size 0 .none := by
    have := Heap.get?_push_size (s.heap.push o) (o := { cls := .type "enumerate", data := .fields #[.none, .bool false, .ref s.heap.objs.size, rawInt 0, .none, .none] }) rfl
    rw [hz] at this; exact this
  exact ⟨⟨_, he, rfl⟩, h _ he (Heap.get?_push_of_some _ (Heap.get?_push_size _ B.free)) (by rw [Heap.size_push, hz]) fun b o x => Heap.get?_push_of_some _ (Heap.get?_push_of_some _ x)⟩
end
theorem turn_enumT {P : Program} {w : World} {K : PySem.W.Frag} {elts : List Expr} {kk : Nat} {tpos : Pos} (a e it : Addr) (k0 : Int) (hai : a ≠ it) :
    Turn P w K (.Tuple elts kk tpos) (Itn (fun H xs => SqT K H a xs) k0) [e, it] e (fun i h => (∃ old, IsEnum h e it (k0 + ((i : Nat) : Int)) old) ∧ h.IsTupleIter it a i ∧ e ≠ it ∧ e ≠ a) :=
  turn_enumG (Ir := fun i h => h.IsTupleIter it a i) (Is := fun h items => h.IsTuple a items) a e it k0 (fun A hh items => .tuple hh it a hai items)
    (fun X hP hw hK pins s σ H xs I h => by
      subst hK
      obtain ⟨its, rv, p, _⟩ := I.tuple h
      exact ⟨its, rv, p⟩)
    (fun X hP hw hK pins s σ H xs ys I h h' => by subst hK; exact I.tuple_inj h h')
    (fun A hh items i s Q E h1 h2 h3 h4 => wpAny_nextOf_tuple_end hh h1 h2 (by simp; exact h3) h4)
    (fun i h st => by
      obtain ⟨o, ho, hc, hd⟩ := st
      exact ⟨o, ho, fun v q => by rw [hd] at q; cases q⟩)
    (fun i h h' st k => st.at k)
theorem turn_enumL {P : Program} {w : World} {K : PySem.W.Frag} {elts : List Expr} {kk : Nat} {tpos : Pos} (a e it : Addr) (k0 : Int) (hai : a ≠ it) :
    Turn P w K (.Tuple elts kk tpos) (Itn (fun H xs => SqL K H a xs) k0) [e, it] e (fun i h => (∃ old, IsEnum h e it (k0 + ((i : Nat) : Int)) old) ∧ h.IsListIter it a i ∧ e ≠ it ∧ e ≠ a) :=
  turn_enumG (Ir := fun i h => h.IsListIter it a i) (Is := fun h items => h.IsList a items) a e it k0 (fun A hh items => .list hh it a hai items)
    (fun X hP hw hK pins s σ H xs I h => by
      subst hK
      obtain ⟨its, rv, p, _⟩ := I.list h
      exact ⟨its, rv, p.isList⟩)
    (fun X hP hw hK pins s σ H xs ys I h h' => by subst hK; exact I.list_inj h h')
    (fun A hh items i s Q E h1 h2 h3 h4 => wpAny_nextOf_list_end hh h1 h2 (by simp; exact h3) h4)
    (fun i h st => by
      obtain ⟨o, ho, hc, hd⟩ := st
      exact ⟨o, ho, fun v q => by rw [hd] at q; cases q⟩)
    (fun i h h' st k => st.at k)
def iEnumT (K : PySem.W.Frag) (ta : TA) : TI := fun σ H R => ta σ H fun vs H1 => ∃ a xs, vs = [.ref a] ∧ SqT K H1 a xs ∧ R (Itn (fun H xs => SqT K H a xs) 0) H1
theorem pi_enumT {X : Cx} {e : Expr} {ta : TA} {p pos tpos : Pos} {elts : List Expr} {kk : Nat} (hg : Gl X "enumerate") (hm : X.mg "enumerate" = none) (ha : PA X [e] ta) (hs : starEach [e] X.env = [(false, eval e X.env)] := by rfl) :
    PI X (.Tuple elts kk tpos) (.Call (.Name "enumerate" p) [e] [] pos) (iEnumT X.K ta) := by
  refine ⟨fun pins s σ H R I h => ?_⟩
  refine Call_ (ld_blt I hg hm boot_enumerate (PyProof.Rows.callWith_type1 (thn (ha.run pos pins s σ H _ I h) fun us s1 ⟨vs, H1, I1, r1, q1⟩ => ?_) hs rfl))
  obtain ⟨a, xs, ex, hq, q⟩ := q1
  subst ex
  cases r1 with
  | cons r rr =>
    cases rr
    cases r
    obtain ⟨its, rv, p', hz⟩ := I1.tuple hq
    have hal : a < s1.heap.objs.size := by obtain ⟨o, ho, _⟩ := p'; exact Heap.lt_size ho
    refine call_enum1 (begins_tuple a its.toArray) p' fun h' he hit hsz hk => wpAny_pyIter_enum he ?_
    have I2 : Inv X pins σ H1 { s1 with heap := h' } := I1.kept (t' := s1.toks) hk
    refine ⟨s1.heap.objs.size + 1, [s1.heap.objs.size + 1, s1.heap.objs.size], _, _, H1, rfl, I2, turn_enumT a (s1.heap.objs.size + 1) s1.heap.objs.size 0 (Nat.ne_of_lt hal), ⟨⟨.none, he⟩, ⟨_, hit, rfl, rfl⟩, Nat.succ_ne_self _, Nat.ne_of_gt (Nat.lt_succ_of_lt hal)⟩, fun b hb => ?_, q⟩
    have e' : b = s1.heap.objs.size + 1 ∨ b = s1.heap.objs.size := by simpa using hb
    have hle : s1.heap.objs.size ≤ b := by
      rcases e' with z | z
      · rw [z]; exact Nat.le_add_right _ _
      · rw [z]; exact Nat.le_refl _
    exact I1.fpOk hle (I1.hok.fresh hle)
theorem callWith_typeKwB {M : Model} {A : Around} {E : Value → Shared → Prop} {s : Shared} {pos : Pos} {T : String} {first : List Value} {args : List (Bool × Sem Value)} {keywords : List (Option Str × Sem Value)} {Q : Value → Shared → Prop}
    (hplain : args.any (·.1) = false) (hkw : keywords.any (·.1.isNone) = false)
    (h : wpAny M A (evalArgs (.type T) true args keywords) (fun a s₁ => wpAny M A (call (.type T) (first ++ a.pos) a.kw) Q E s₁) E s) :
    wpAny M A (callWith pos (.type T) first args keywords) Q E s := by
  unfold callWith
  refine wpAny_bind (wpAny_holding (wpAny_mono h (fun a s₁ h₁ => wpAny_bind (wpAny_standAt ?_)) fun _ _ x => x))
  simp only [hplain, hkw, Bool.or_false]
  refine wpAny_bind (wpAny_pure ?_)
  exact wpAny_bind (wpAny_mono h₁ (fun r s₂ hr => wpAny_bind (wpAny_holding (wpAny_point (wpAny_pure hr)))) fun _ _ x => x)
theorem callWith_typeKw {M : Model} {A : Around} {E : Value → Shared → Prop} {s : Shared} {env : Env} {pos : Pos} {T : String} {e : Expr} {rest : List Expr} {kws : List Keyword} {Q : Value → Shared → Prop}
    (h : wpAny M A (spliced (backTo pos (starEach (e :: rest) env))) (fun vs s₁ => wpAny M A (evalAll ((backToKw pos (keywordEach kws env)).map (·.2)))
      (fun kvs s₂ => wpAny M A (call (.type T) vs (((backToKw pos (keywordEach kws env)).filterMap (·.1)).zip kvs)) Q E s₂) E s₁) E s)
    (he : backTo pos (starEach (e :: rest) env) = (false, eval e env) :: backTo pos (starEach rest env)) (hplain : (backTo pos (starEach (e :: rest) env)).any (·.1) = false)
    (hall : (backToKw pos (keywordEach kws env)).all (·.1.isSome) = true) (hkw : (backToKw pos (keywordEach kws env)).any (·.1.isNone) = false) :
    wpAny M A (callWith pos (.type T) [] (backTo pos (starEach (e :: rest) env)) (backToKw pos (keywordEach kws env))) Q E s := by
  refine callWith_typeKwB hplain hkw ?_
  rw [he] at h ⊢
  exact evalArgs_kwB hall h
/-- enumerate(xs, start=k) of a list -/
def iEnumK (K : PySem.W.Frag) (k : Int) (ta : TA) : TI := fun σ H R => ta σ H fun vs H1 => ∃ a xs, vs = [.ref a] ∧ SqL K H1 a xs ∧ R (Itn (fun H xs => SqL K H a xs) k) H1
theorem pi_enumK {X : Cx} {e : Expr} {ta : TA} {p pos tpos kp cp : Pos} {elts : List Expr} {kk j : Nat} {k : Int} (hk0 : -(2 ^ 63) ≤ k) (hk1 : k < 2 ^ 63) (hg : Gl X "enumerate") (hm : X.mg "enumerate" = none) (ha : PA X [e] ta)
    (he : backTo pos (starEach [e] X.env) = (false, eval e X.env) :: backTo pos (starEach [] X.env) := by rfl) (hpl : (backTo pos (starEach [e] X.env)).any (·.1) = false := by rfl)
    (hall : (backToKw pos (keywordEach [⟨some "start", .Constant (.int k) j cp, kp⟩] X.env)).all (·.1.isSome) = true := by rfl) (hnone : (backToKw pos (keywordEach [⟨some "start", .Constant (.int k) j cp, kp⟩] X.env)).any (·.1.isNone) = false := by rfl) (hks : (backToKw pos (keywordEach [⟨some "start", .Constant (.int k) j cp, kp⟩] X.env)).filterMap (·.1) = [("start" : Str)] := by rfl) :
    PI X (.Tuple elts kk tpos) (.Call (.Name "enumerate" p) [e] [⟨some "start", .Constant (.int k) j cp, kp⟩] pos) (iEnumK X.K k ta) := by
  refine ⟨fun pins s σ H R I h => ?_⟩
  refine wpAny_Call_Name_kw (ld_blt I hg hm boot_enumerate ?_)
  have hk : PK X [⟨some "start", .Constant (.int k) j cp, kp⟩] _ := pk_cons pe_int pk_nil
  refine callWith_typeKw (thn (ha.run pos pins s σ H _ I h) fun us s1 ⟨vs, H1, I1, r1, q1⟩ => thn (hk.run pos pins s1 σ H1 (fun zs H2 => zs = [.int k] ∧ H2 = H1) I1 ⟨rfl, rfl⟩) fun ws s2 ⟨zs, H2, I2, r2, q2⟩ => ?_) he hpl hall hnone
  rw [hks]
  obtain ⟨rfl, rfl⟩ := q2
  obtain ⟨a, xs, ex, hq, q⟩ := q1
  subst ex
  cases r1 with
  | cons r rr =>
    cases rr
    cases r
    cases r2 with
    | cons rz rr2 =>
      cases rr2
      obtain ⟨t, rfl⟩ := rz
      obtain ⟨its, rv, p', hz⟩ := I2.list hq
      have p2 := p'.isList
      have hal : a < s2.heap.objs.size := by obtain ⟨o, ho, _⟩ := p2; exact Heap.lt_size ho
      refine enum_begins_start (begins_list a its.toArray) p2 hk0 hk1 fun h' he hit hsz hk => wpAny_pyIter_enum he ?_
      have I3 : Inv X pins σ H2 { s2 with heap := h' } := I2.kept (t' := s2.toks) hk
      refine ⟨s2.heap.objs.size + 1, [s2.heap.objs.size + 1, s2.heap.objs.size], _, _, H2, rfl, I3, turn_enumL a (s2.heap.objs.size + 1) s2.heap.objs.size k (Nat.ne_of_lt hal), ⟨⟨.none, by simpa using he⟩, ⟨_, hit, rfl, rfl⟩, Nat.succ_ne_self _, Nat.ne_of_gt (Nat.lt_succ_of_lt hal)⟩, fun b hb => ?_, q⟩
      have e' : b = s2.heap.objs.size + 1 ∨ b = s2.heap.objs.size := by simpa using hb
      have hle : s2.heap.objs.size ≤ b := by
        rcases e' with z | z
        · rw [z]; exact Nat.le_add_right _ _
        · rw [z]; exact Nat.le_refl _
      exact I2.fpOk hle (I2.hok.fresh hle)
end Mb

set_option Elab.async false
set_option linter.all false
set_option maxRecDepth 100000
set_option maxHeartbeats 2000000
namespace Mb
open PySem PySem.Spec PyProof.Rows L2 TL
def enumD (k0 : Int) (ds : List Dt) : List Dt := ds.mapIdx fun i d => .tuple [.int (k0 + (i : Nat)), d]
section
variable {X : Cx} {σ : L2.St} {G G' H : Hp} {a b c e tg : Expr} {es : List Expr} {pos p p2 : Pos} {d d1 d2 : Dt} {ds : List Dt}
theorem walks_enum {K : PySem.W.Frag} {Sq : Hp → List V → Prop} {vs : List V} {k0 : Int} (hq : ∀ H, Same G H → Sq H vs) (hd : Das K G vs ds) : Walks K (Itn Sq k0) G (enumD k0 ds) := fun i G1 H g s => by
  have hH := hq H (g.trans s)
  refine ⟨fun d hz => ?_, fun hi => ⟨vs, hH, by
    unfold enumD at hi
    rw [List.length_mapIdx] at hi
    rw [hd.length]
    exact hi⟩⟩
  unfold enumD at hz
  rw [List.getElem?_mapIdx] at hz
  obtain ⟨x, hx, rfl⟩ := Option.map_eq_some_iff.mp hz
  obtain ⟨v, hv, hv2⟩ := hd.get' hx
  refine ⟨⟨vs, v, hH, hv⟩, fun z H' hz' => ?_⟩
  obtain ⟨T, x', rfl, hT, rfl, k1⟩ := hz'
  have e1 := k1 vs hH
  rw [hv] at e1
  cases e1
  exact ⟨_, Step.alloc s hT, .tup (SqT.of upd_same) (.cons (.int _) (.one ((hv2.mono g).mono (Same.toUpd (s.free hT)))))⟩
theorem src_enumT {elts : List Expr} {kk : Nat} {tpos : Pos} (ha : Pu X a σ G (.tuple ds)) (hm : X.mg "enumerate" = none) (hg : Gl X "enumerate" := by rfl) (hs : starEach [a] X.env = [(false, eval a X.env)] := by rfl) :
    Src X (.Tuple elts kk tpos) (.Call (.Name "enumerate" p) [a] [] pos) σ G (enumD 0 ds) := fun G1 H g s R q => by
  refine ⟨_, pi_enumT hg hm pa_e hs, a_cons (ha G1 H g s _ fun v G2 H2 s2 hd => a_nil ?_) hs⟩
  obtain ⟨l, vs, rfl, h1, h2⟩ := hd.tup_inv
  exact ⟨l, vs, rfl, SqT.same s2.s h1, q _ G2 H2 s2 (walks_enum (fun H h => SqT.same h h1) h2)⟩
theorem src_enumK {elts : List Expr} {kk j : Nat} {tpos kp cp : Pos} {k : Int} (ha : Pu X a σ G (.list ds)) (hm : X.mg "enumerate" = none) (hk0 : -(2 ^ 63) ≤ k) (hk1 : k < 2 ^ 63) (hg : Gl X "enumerate" := by rfl)
    (he : backTo pos (starEach [a] X.env) = (false, eval a X.env) :: backTo pos (starEach [] X.env) := by rfl) (hpl : (backTo pos (starEach [a] X.env)).any (·.1) = false := by rfl)
    (hall : (backToKw pos (keywordEach [⟨some "start", .Constant (.int k) j cp, kp⟩] X.env)).all (·.1.isSome) = true := by rfl) (hnone : (backToKw pos (keywordEach [⟨some "start", .Constant (.int k) j cp, kp⟩] X.env)).any (·.1.isNone) = false := by rfl) (hks : (backToKw pos (keywordEach [⟨some "start", .Constant (.int k) j cp, kp⟩] X.env)).filterMap (·.1) = [("start" : Str)] := by rfl)
    (hs : starEach [a] X.env = [(false, eval a X.env)] := by rfl) :
    Src X (.Tuple elts kk tpos) (.Call (.Name "enumerate" p) [a] [⟨some "start", .Constant (.int k) j cp, kp⟩] pos) σ G (enumD k ds) := fun G1 H g s R q => by
  refine ⟨_, pi_enumK hk0 hk1 hg hm pa_e he hpl hall hnone hks, a_cons (ha G1 H g s _ fun v G2 H2 s2 hd => a_nil ?_) hs⟩
  obtain ⟨l, vs, rfl, h1, h2⟩ := hd.lst_inv
  exact ⟨l, vs, rfl, SqL.of (s2.s _ _ h1), q _ G2 H2 s2 (walks_enum (fun H h => SqL.of (h _ _ h1)) h2)⟩
theorem put_isN {k : Bool} (ha : Pu X a σ G d) (hk : ∀ G' v, Same G G' → Da X.K G' v d → decide (v = V.non) = k) : PuT X (.Compare a [.Is] [.Constant .none 0 p] pos) σ G k := put_c (c_isN k ha hk)
end
theorem PAt.app {K : PySem.W.Frag} {G H G3 H3 : Hp} {l t : Addr} {ds es : List Dt} {vs xs : List V} (f : PAt K G H l ds G3 vs H3) (ht : H3 t = none) (hx : Das K G3 xs es) : ∃ G', Same G3 G' ∧ PAt K G H l (ds ++ [.tuple es]) G' (vs ++ [.ref t]) (upd (upd H3 t (.tup xs)) l (.lst (vs ++ [.ref t]))) := by
  have gt := f.st.s.free ht
  have f1 : PAt K G H l ds (upd G3 t (.tup xs)) vs (upd H3 t (.tup xs)) := f.pure (Step.alloc f.st.s ht)
  exact ⟨_, Same.toUpd gt, f1.ext (.one (.tup (SqT.of upd_same) (hx.mono (Same.toUpd gt))))⟩
/-! ### a standing, told -/
def rightsOf (hs : List Int) (i : Nat) : List Int := (hs.zipIdx.filter fun p => decide (p.1 = (i : Int))).map fun p => (p.2 : Int)
def stD (hs : List Int) : List Dt := hs.mapIdx fun i h => if h = -1 then .tuple [.str "here", .tuple (ofI (rightsOf hs i))] else .tuple [.str "away"]
section
variable {P : Program} {w : World} {K : PySem.W.Frag} {mg : Str → Option Value} {base : Heap}
theorem enumD_ints (hs : List Int) : enumD 0 (ofI hs) = hs.zipIdx.map fun p => .tuple [.int (p.2 : Int), .int p.1] := by
  unfold enumD ofI
  apply List.ext_getElem?
  intro i
  rw [List.getElem?_mapIdx, List.getElem?_map, List.getElem?_map, List.getElem?_zipIdx]
  cases hs[i]? with
  | none => rfl
  | some x => simp
abbrev nStanding : List Str := ["holders", "standing", "hand", "holder", "rights", "other", "owner"]
theorem scStanding : FnScope nStanding ["holders"] (defScope sStanding) := ⟨rfl, rfl, rfl, by decide +kernel, rfl, by decide +kernel, by decide +kernel⟩
def rStanding : List Dt → Dt → Prop := fun ds d => ∃ hs : List Int, ds = [.tuple (ofI hs)] ∧ hs.length < 60 ∧ d = .tuple (stD hs)
theorem has_standing (T : Top1 K mg "standing_told" sStanding ["holders"]) (B : Blt mg) (L : Glb K mg) : Has P w K mg base "standing_told" 1 1 (spPure K 1 rStanding) := by
  refine mkHas (k := 0) T scStanding spPure_len fun f cdv A outer s H vs Q E hr h => ?_
  obtain ⟨G, ds, d, hm, g, hds, ⟨hs, rfl, hl, rfl⟩, k⟩ := h
  cases hds with
  | cons d0 hn =>
    cases hn
    rename_i v0
    obtain ⟨uh, gh, rh⟩ := L.here
    refine b_cons (s_set 1 scStanding.nd (w_emptyM fun l hl0 => ?_))
    have F : PAt K G H l [] G [] (upd H l (.lst [])) := PAt.new (Step.refl g) .nil hl0
    refine b_cons (s_forD (ds := hs.zipIdx.map fun p => .tuple [.int (p.2 : Int), .int p.1]) (by rw [← enumD_ints]; exact src_enumT (pu_var 0 rfl d0) B.enumerate) F.st.s fun G3 H3 s3 => ⟨fun i σ H' => ∃ (G9 : Hp) (vs : List V) (u2 u3 u4 u5 u6 : Option V), σ = [some v0, some (.ref l), u2, u3, u4, u5, u6] ∧ Same G3 G9 ∧
      PAt K G H l ((stD hs).take i) G9 vs H', ?_, ?_, ?_, ?_⟩)
    · exact ⟨G3, _, _, _, _, _, _, rfl, Same.refl G3, by simpa using F.pure s3⟩
    · rintro i σ H' ⟨G9, vs, _, _, _, _, _, rfl, sg, F9⟩
      exact sg.trans F9.st.s
    · rintro i d x σ H' H9 hi ⟨G9, vs, u2, u3, u4, u5, u6, rfl, sg, F9⟩ hw
      rw [List.getElem?_map, List.getElem?_zipIdx] at hi
      obtain ⟨q, hq, rfl⟩ := Option.map_eq_some_iff.mp hi
      obtain ⟨hv, hhv, rfl⟩ := Option.map_eq_some_iff.mp hq
      have hil := (List.getElem?_eq_some_iff.mp hhv).1
      obtain ⟨G10, s10, hx10⟩ := hw G9 sg F9.st.s
      have F10 := F9.pure s10
      obtain ⟨t2, ts2, rfl, ht2, hts2⟩ := hx10.tup_inv
      cases hts2 with
      | cons y1 hts2 =>
      cases hts2 with
      | cons y2 hts2 =>
      cases hts2
      obtain rfl := y1.int_inv
      obtain rfl := y2.int_inv
      have d10 := d0.mono (s3.g.trans (sg.trans s10.g))
      have hlen := F10.ds.length
      have hst : (stD hs).take (i + 1) = (stD hs).take i ++ [if hv = -1 then .tuple [.str "here", .tuple (ofI (rightsOf hs i))] else .tuple [.str "away"]] := by
        rw [List.take_add_one]
        unfold stD
        rw [List.getElem?_mapIdx, hhv]
        rfl
      refine g_tup (SqT.same s10.s ht2) rfl (gs_cons (g_name 2 scStanding.nd (gs_cons (g_name 3 scStanding.nd (gs_nil (b_one (s_if (t_pu (put_c (c_eqI (pu_var 3 rfl (.int _)) (pu_glob gh rh (.int (-1))))) F10.st.s fun G11 H11 s11 => ite2 (fun hc => ?_) (fun hc => ?_)))))))))
      · have hh : hv = -1 := of_decide_eq_true hc
        have F11 := F10.pure s11
        have d11 := d10.mono s11.g
        refine b_cons (s_setPo 4 [("other", 5), ("owner", 6)] (lc2 5 6 (ns := hs.zipIdx) (c1 := fun p => .int (p.2 : Int)) (c2 := fun p => .int p.1) (by rw [← enumD_ints]; exact src_enumT (pu_var 0 rfl d11) B.enumerate) (fun p => .int (p.2 : Int)) (fun p => decide (p.1 = (i : Int))) scStanding.nd
          (fun n hn v w G3 g3 hv hw _ _ _ _ _ => puts_one (put_c (PuC.to (c_eqI (pu_var 6 rfl hw) (pu_var 2 rfl (.int _))) (by simp)))) (fun n hn _ v w G3 g3 hv hw _ _ _ _ _ => pu_var 5 rfl hv) (by rw [List.length_zipIdx]; omega)) F11.st.s scStanding.nd fun v12 G12 H12 s12 hv12 => ?_)
        have F12 := F11.pure s12
        have e12 : ((hs.zipIdx.filter fun p => decide (p.1 = (i : Int))).map fun p => (PyData.int (p.2 : Int))) = ofI (rightsOf hs i) := by
          unfold rightsOf ofI
          rw [List.map_map]
          rfl
        rw [e12] at hv12
        refine b_one (s_expr (w_append 1 rfl F12.hl (w_tup (a_cons (w_str (a_cons (w_pu (pu_tupleL (pu_var 4 rfl hv12) B.tuple) F12.st.s fun v13 G13 H13 s13 hv13 => a_nil ⟨by show 2 ≤ sizeLine; decide, fun t' ht' => a_nil ?_⟩)))))))
        have F13 := F12.pure s13
        obtain ⟨G14, g14, F14⟩ := F13.app ht' (.cons (.str "here") (.one hv13))
        refine rAppend_q (xs := vs) (by rw [upd_ne (ne_of_none F13.hl ht')]; exact F13.hl) (by
          rw [hlen, List.length_take]
          unfold stD
          rw [List.length_mapIdx]
          omega) ?_
        refine ⟨G14, vs ++ [.ref t'], _, _, _, _, _, rfl, sg.trans (s10.g.trans (s11.g.trans (s12.g.trans (s13.g.trans g14)))), ?_⟩
        rw [hst, if_pos hh]
        exact F14
      · have hh : ¬ hv = -1 := fun e => hc (decide_eq_true e)
        have F11 := F10.pure s11
        refine b_one (s_expr (w_append 1 rfl F11.hl (w_tup (a_cons (w_str (a_nil ⟨by show 1 ≤ sizeLine; decide, fun t' ht' => a_nil ?_⟩))))))
        obtain ⟨G14, g14, F14⟩ := F11.app ht' (.one (.str "away"))
        refine rAppend_q (xs := vs) (by rw [upd_ne (ne_of_none F11.hl ht')]; exact F11.hl) (by
          rw [hlen, List.length_take]
          unfold stD
          rw [List.length_mapIdx]
          omega) ?_
        refine ⟨G14, vs ++ [.ref t'], _, _, _, _, _, rfl, sg.trans (s10.g.trans (s11.g.trans g14)), ?_⟩
        rw [hst, if_neg hh]
        exact F14
    · rintro σ H' ⟨G9, vs, u2, u3, u4, u5, u6, rfl, sg, F9⟩
      have e : (stD hs).take (hs.zipIdx.map fun p => (.tuple [.int (p.2 : Int), .int p.1] : Dt)).length = stD hs := by
        rw [List.length_map, List.length_zipIdx]
        exact List.take_of_length_le (by unfold stD; rw [List.length_mapIdx]; exact Nat.le_refl _)
      rw [e] at F9
      refine b_one (s_ret (w_pu (pu_tupleL (pu_var 1 rfl F9.da) B.tuple) F9.fin.s fun v11 G11 H11 s11 hv11 => k v11 G11 H11 (F9.fin.trans s11) hv11))
end
end Mb

set_option Elab.async false
set_option linter.all false
set_option maxRecDepth 100000
set_option maxHeartbeats 2000000
namespace Mb
open PySem PySem.Spec PyProof.Rows L2 TL
def ddI : List Int → List Int
  | [] => []
  | x :: xs => if x ∈ xs then ddI xs else x :: ddI xs
theorem mem_ddI {x : Int} : ∀ {xs : List Int}, x ∈ ddI xs ↔ x ∈ xs
  | [] => Iff.rfl
  | y :: ys => by
    unfold ddI
    by_cases h : y ∈ ys
    · rw [if_pos h, mem_ddI, List.mem_cons]
      constructor
      · exact fun hx => .inr hx
      · rintro (rfl | hx)
        · exact h
        · exact hx
    · rw [if_neg h, List.mem_cons, List.mem_cons, mem_ddI]
theorem nodup_ddI : ∀ {xs : List Int}, (ddI xs).Nodup
  | [] => List.nodup_nil
  | y :: ys => by
    unfold ddI
    by_cases h : y ∈ ys
    · rw [if_pos h]
      exact nodup_ddI
    · rw [if_neg h, List.nodup_cons]
      exact ⟨fun hx => h (mem_ddI.mp hx), nodup_ddI⟩
theorem ddI_self : ∀ {xs : List Int}, xs.Nodup → ddI xs = xs
  | [], _ => rfl
  | y :: ys, h => by
    obtain ⟨h1, h2⟩ := List.nodup_cons.mp h
    unfold ddI
    rw [if_neg h1, ddI_self h2]
theorem ddI_len {ns ms : List Int} (h : ms.Nodup) (hm : ∀ k, k ∈ ms ↔ k ∈ ns) : ms.length = (ddI ns).length :=
  Nat.le_antisymm (pigI _ _ h fun x hx => mem_ddI.mpr ((hm x).mp hx)) (pigI _ _ nodup_ddI fun x hx => (hm x).mpr (mem_ddI.mp hx))
def mctB (cs : List Int) (b e g : Option Int) : Bool :=
  if (!(decide (1 ≤ (cs.length : Int)) && decide ((cs.length : Int) ≤ 3)) || decide (((ddI cs).length : Int) < (cs.length : Int))) = true then false
  else if (!b.isNone && b.any fun x => decide (x ∈ cs)) = true then false
  else if (!e.isNone && (!(e.any fun x => decide (x ∈ cs)) || decide ((cs.length : Int) = 1))) = true then false
  else g.isNone || (!(g.any fun x => decide (x ∈ cs)) && !decide (g = b))
theorem mctB_of {m : Int} {cs : List Int} {b e g : Option Int} (h : RowOk m cs b e g) : mctB cs b e g = true := by
  obtain ⟨⟨⟨hn, _⟩, h1, h3⟩, hb, he, hg⟩ := h
  unfold mctB
  rw [ddI_self hn]
  have e1 : (!(decide (1 ≤ (cs.length : Int)) && decide ((cs.length : Int) ≤ 3)) || decide ((cs.length : Int) < (cs.length : Int))) = false := by
    rw [decide_eq_true (by omega : 1 ≤ (cs.length : Int)), decide_eq_true (by omega : (cs.length : Int) ≤ 3), decide_eq_false (by omega : ¬ (cs.length : Int) < (cs.length : Int))]
    rfl
  have e2 : (!b.isNone && b.any fun x => decide (x ∈ cs)) = false := by
    cases b with
    | none => rfl
    | some x =>
      show (true && decide (x ∈ cs)) = false
      rw [decide_eq_false (hb x rfl).2.2]
      rfl
  have e3 : (!e.isNone && (!(e.any fun x => decide (x ∈ cs)) || decide ((cs.length : Int) = 1))) = false := by
    cases e with
    | none => rfl
    | some x =>
      obtain ⟨q1, q2⟩ := he x rfl
      show (true && (!decide (x ∈ cs) || decide ((cs.length : Int) = 1))) = false
      rw [decide_eq_true q1, decide_eq_false (by omega : ¬ (cs.length : Int) = 1)]
      rfl
  rw [e1, e2, e3, if_neg Bool.false_ne_true, if_neg Bool.false_ne_true, if_neg Bool.false_ne_true]
  cases g with
  | none => rfl
  | some x =>
    obtain ⟨q1, q2, q3, q4⟩ := hg x rfl
    show (false || (!decide (x ∈ cs) && !decide (some x = b))) = true
    rw [decide_eq_false q3, decide_eq_false (fun q => q4 q.symm)]
    rfl
section
variable {X : Cx} {σ : L2.St} {G H : Hp} {a b c : Expr} {p pos : Pos}
def oV : Option Int → V
  | .none => .non
  | .some i => .int i
theorem oV_of {K : PySem.W.Frag} {G : Hp} {v : V} {o : Option Int} (h : Da K G v (optD o)) : v = oV o := by
  cases o with
  | none => exact h.non_inv
  | some x => exact h.int_inv
theorem inV_o {o : Option Int} {ns : List Int} : inV (oV o) (ns.map V.int) = o.any fun x => decide (x ∈ ns) := by
  cases o with
  | some x => exact inV_ints
  | none =>
    show inV .non (ns.map V.int) = false
    unfold inV
    rw [List.any_map, List.any_eq_false]
    intro x _
    simp [eqV]
theorem c_ninOT {o : Option Int} {ns : List Int} (ha : Pu X a σ G (optD o)) (hb : Pu X b σ G (.tuple (ofI ns))) (hm : behindInMarks .NotIn b = false := by rfl) : PuC X .NotIn a b σ G (!(o.any fun x => decide (x ∈ ns))) :=
  ⟨_, _, _, op_notIn_seq, ha, hb, rv_in (neg := true) (v0 := oV o) (vs0 := ns.map V.int) (fun _ _ _ h => oV_of h) (fun G1 v _ h => by
    obtain ⟨l, vs, rfl, h1, h2⟩ := h.tup_inv
    exact ⟨l, vs, rfl, .inr h1, h2.ints⟩) (by cases o <;> rfl) flat_ints inV_o, hm⟩
theorem c_neO {o o' : Option Int} (ha : Pu X a σ G (optD o)) (hb : Pu X b σ G (optD o')) : PuC X .NotEq a b σ G (!decide (o = o')) := ⟨_, _, _, op_ne, ha, hb, (rv_val (v := oV o) (w := oV o') (fun _ _ _ h => oV_of h) (fun _ _ _ h => oV_of h) (fun _ _ => .bl _) fun H Q q => ⟨by cases o <;> cases o' <;> rfl, by
  have e : decide (oV o = oV o') = decide (o = o') := by
    cases o <;> cases o' <;> simp [oV]
  rw [e]
  exact q⟩), by first | exact nomark _ | rfl⟩
end
section
variable {P : Program} {w : World} {K : PySem.W.Frag} {mg : Str → Option Value} {base : Heap}
theorem scTogether : FnScope ["comers", "begins", "ends", "gives"] ["comers", "begins", "ends", "gives"] (defScope sTogether) := ⟨rfl, rfl, rfl, by decide +kernel, rfl, by decide +kernel, by decide +kernel⟩
def rTogether : List Dt → Dt → Prop := fun ds d => ∃ (cs : List Int) (b e g : Option Int), ds = [.tuple (ofI cs), optD b, optD e, optD g] ∧ cs.length ≤ 1000 ∧ d = .bool (mctB cs b e g)
theorem has_together (T : Top1 K mg "may_come_together" sTogether ["comers", "begins", "ends", "gives"]) (B : Blt mg) (L : Glb K mg) : Has P w K mg base "may_come_together" 1 4 (spPure K 4 rTogether) := by
  refine mkHas (k := 0) T scTogether spPure_len fun f cdv A outer s H vs Q E hr h => ?_
  obtain ⟨G, ds, d, hm, g, hds, ⟨cs, b, e, gv, rfl, hl, rfl⟩, k⟩ := h
  cases hds with
  | cons d0 hn =>
  cases hn with
  | cons d1 hn =>
  cases hn with
  | cons d2 hn =>
  cases hn with
  | cons d3 hn =>
    cases hn
    obtain ⟨uc, gc, rc⟩ := L.mostC
    have el : (ofI cs).length = cs.length := by simp [ofI]
    unfold mctB at k
    refine b_cons (s_if (t_pu (put_w (puw_or (put_not (put_chainLe (j := (cs.length : Int)) pu_int (Pu.to (pu_lenT (pu_var 0 rfl d0) B.len) (by rw [el])) (pu_glob gc rc (.int 3)))) fun _ => puw_or1 (put_c (c_lt (pu_lenSetT (n := (ddI cs).length) (pu_var 0 rfl d0) hl (fun ms h1 h2 => ddI_len h1 h2) B.len B.set) (Pu.to (pu_lenT (pu_var 0 rfl d0) B.len) (by rw [el])))))) g fun G1 H1 s1 => ite2 (fun hc => ?_) (fun hc => b_nil ?_)))
    · rw [if_pos hc] at k
      exact b_one (s_ret (w_bl (k _ G1 H1 s1 (.bl _))))
    rw [if_neg hc] at k
    refine b_cons (s_if (t_pu (put_w (puw_and (put_c (c_notN b.isNone (pu_var 1 rfl (d1.mono s1.g)) fun G' v _ hv => optN hv)) fun _ => puw_and1 (put_c (c_inOT (pu_var 1 rfl (d1.mono s1.g)) (pu_var 0 rfl (d0.mono s1.g)))))) s1.s fun G2 H2 s2 => ite2 (fun hc => ?_) (fun hc => b_nil ?_)))
    · rw [if_pos hc] at k
      exact b_one (s_ret (w_bl (k _ G2 H2 (s1.trans s2) (.bl _))))
    rw [if_neg hc] at k
    have g2 := s1.g.trans s2.g
    refine b_cons (s_if (t_pu (put_w (puw_and (put_c (c_notN e.isNone (pu_var 2 rfl (d2.mono g2)) fun G' v _ hv => optN hv)) fun _ => puw_and1 (put_w (puw_or (put_c (c_ninOT (pu_var 2 rfl (d2.mono g2)) (pu_var 0 rfl (d0.mono g2)))) fun _ => puw_or1 (put_c (c_eqI (i := (cs.length : Int)) (Pu.to (pu_lenT (pu_var 0 rfl (d0.mono g2)) B.len) (by rw [el])) pu_int)))))) s2.s fun G3 H3 s3 => ite2 (fun hc => ?_) (fun hc => b_nil ?_)))
    · rw [if_pos hc] at k
      exact b_one (s_ret (w_bl (k _ G3 H3 (s1.trans (s2.trans s3)) (.bl _))))
    rw [if_neg hc] at k
    have g3 := g2.trans s3.g
    refine b_one (s_ret (w_pu (pu_or (pu_c (c_isN gv.isNone (pu_var 3 rfl (d3.mono g3)) fun G' v _ hv => optN hv)) fun _ => pu_bo1 (pu_and (pu_c (c_ninOT (pu_var 3 rfl (d3.mono g3)) (pu_var 0 rfl (d0.mono g3)))) fun _ => pu_bo1 (pu_c (c_neO (pu_var 3 rfl (d3.mono g3)) (pu_var 1 rfl (d1.mono g3)))))) s3.s fun v G4 H4 s4 hv => k v G4 H4 (s1.trans (s2.trans (s3.trans s4))) hv))
end
end Mb

set_option Elab.async false
set_option linter.all false
set_option maxRecDepth 100000
set_option maxHeartbeats 2000000
/-! tuples that are known to have no dict, and their methods -/
namespace Mb
open PySem PySem.Spec PyProof.Rows L2
section
variable {X : Cx}
theorem call_tupleF : CallR X (.type "tuple") (fun xs H Q => ∃ p ys, xs = [.ref p] ∧ SqL X.K H p ys ∧ ∀ (o : Obj) l, o.cls = .type "tuple" → o.dict = none → H l = none → Q (.ref l) (upd H l (.frz o (.tup ys)))) := by
  intro pins s σ H xs us Q I r h
  obtain ⟨p, ys, rfl, hq, q⟩ := h
  obtain ⟨u, rfl, rx⟩ := vals1 r
  cases rx
  obtain ⟨its, r', pl, hz⟩ := I.list hq
  have hlen := r'.length
  refine call_tuple_list pl.isList (fun h' kp => ?_) (by simp only [List.size_toArray] <;> omega)
  have I1 : Inv X pins σ H { s with heap := h' } := I.kept (t' := s.toks) kp
  have hget : (h'.push { cls := .type "tuple", data := .seq its.toArray }).get? h'.objs.size = some { cls := .type "tuple", data := .seq its.toArray } := Heap.get?_push_size _ rfl
  have I2 : Inv X pins σ (upd H h'.objs.size (.frz { cls := .type "tuple", data := .seq its.toArray } (.tup ys))) { s with heap := h'.push { cls := .type "tuple", data := .seq its.toArray } } :=
    I1.laid (t' := s.toks) (fun b o e => Heap.get?_push_of_some _ e) (Nat.le_refl _) (show ObjOk X.prog X.w _ _ _ (.frz _ (.tup ys)) from ⟨hget, hz, its, r', IsTup.new _ _⟩)
  exact ⟨.ref h'.objs.size, _, I2, rfl, q _ _ rfl rfl (I1.hok.fresh (Nat.le_refl _))⟩
def tBMF (T : String) (r : V → List V → Hp → VK → Prop) (to : TE) (t : TA) : TE := fun σ H Q => to σ H fun x H1 => (∃ p o u, x = .ref p ∧ H1 p = some (.frz o u) ∧ o.cls = .type T ∧ o.dict = none) ∧ t σ H1 fun xs H2 => r x xs H2 Q
theorem pe_bmF {T id : String} {name : Str} {o e : Expr} {es : List Expr} {to : TE} {t : TA} {apos cpos : Pos} {r : V → List V → Hp → VK → Prop} (pa : PlainAttrs T) (slot : Slot T name id) (hty : typeOf (.builtin id) = pure (.type "method_descriptor")) (hm : MtR X id r) (ho : PE X o to) (ha : PA X (e :: es) t)
    (hbase : attributeBase o name X.env (eval o X.env) = eval o X.env)
    (hfew : ((backTo cpos (starEach (e :: es) X.env)).all (fun x => !x.1) && (backToKw cpos (keywordEach [] X.env)).all (fun x => x.1.isSome)
      && decide ((e :: es).length + ([] : List Keyword).length + (if ([] : List Keyword).isEmpty then 0 else 1) < 30)) = true)
    (hline : (apos.endLine == cpos.line) = true) (hs : starEach (e :: es) X.env = (false, eval e X.env) :: starEach es X.env) (hplain : (backTo cpos (starEach es X.env)).any (·.1) = false) :
    PE X (.Call (.Attribute o name apos) (e :: es) [] cpos) (tBMF T r to t) := by
  refine ⟨fun pins s σ H Q I h => ?_⟩
  refine wpAny_Call_method_late hbase hfew hline rfl (thn (ho.run pins s σ H _ I h) fun v s1 ⟨x, H1, I1, r1, ⟨p, ob, u, e1, hp, hc, hd⟩, q1⟩ => ?_)
  subst e1
  cases r1
  obtain ⟨hg, _⟩ := I1.hok p _ hp
  refine ⟨T, id, pa, slot, hty, ⟨ob, hg, hc⟩, fun a ea => by cases ea; exact ⟨ob, hg, hd⟩, ?_⟩
  have hA := ha.run cpos pins s1 σ H1 _ I1 q1
  rw [hs] at hA ⊢
  refine Calls.callWith_builtin (by show (false || (backTo cpos (starEach es X.env)).any (·.1)) = false; rw [hplain] <;> rfl) (Calls.evalArgs_plain ?_)
  exact thn hA fun us s2 ⟨vs, H2, I2, r2, q2⟩ => hm pins s2 σ H2 (.ref p) vs (.ref p) us Q I2 rfl r2 q2
end
/-- a tuple that was made here -/
def TupF (K : PySem.W.Frag) (G : Hp) (v : V) (ds : List Dt) : Prop := ∃ l o vs, v = .ref l ∧ G l = some (.frz o (.tup vs)) ∧ o.cls = .type "tuple" ∧ o.dict = none ∧ Das K G vs ds
theorem TupF.da {K : PySem.W.Frag} {G : Hp} {v : V} {ds : List Dt} (h : TupF K G v ds) : Da K G v (.tuple ds) := by
  obtain ⟨l, o, vs, rfl, h1, h2, h3, h4⟩ := h
  exact .tup (.inl (.inr ⟨o, h1⟩)) h4
theorem TupF.mono {K : PySem.W.Frag} {G G' : Hp} {v : V} {ds : List Dt} (h : TupF K G v ds) (s : Same G G') : TupF K G' v ds := by
  obtain ⟨l, o, vs, rfl, h1, h2, h3, h4⟩ := h
  exact ⟨l, o, vs, rfl, s _ _ h1, h2, h3, h4.mono s⟩
theorem idxOf_le {l : List Str} {m : Nat} (h : m < l.length) : l.idxOf l[m] ≤ m := by
  induction l generalizing m with
  | nil => simp at h
  | cons x l ih =>
    cases m with
    | zero => simp
    | succ m =>
      have hm : m < l.length := by simpa using h
      rw [List.getElem_cons_succ, List.idxOf_cons]
      cases hxe : (x == l[m]) with
      | true => exact Nat.zero_le _
      | false =>
        have := ih hm
        simpa using this
def idxS (hs : List Str) (x : Str) : Int := ((hs.idxOf x : Nat) : Int)
section
variable {X : Cx} {σ : L2.St} {G H : Hp} {a b c e : Expr} {p px pos apos : Pos} {ds : List Dt} {Q : VK}
theorem w_tupleF (ha : Pu X a σ G (.list ds)) (g : Same G H) (q : ∀ v G' H', Step [] G H G' H' → TupF X.K G' v ds → Q v H') (hm : X.mg "tuple" = none) (hg : Gl X "tuple" := by rfl) (he : starEach [a] X.env = [(false, eval a X.env)] := by rfl) : eE X (.Call (.Name "tuple" p) [a] [] pos) σ H Q :=
  w_callTy call_tupleF hm (by decide +kernel) (a_cons (ha G H (Same.refl G) g _ fun v G2 H2 s2 hd => a_nil (by
    obtain ⟨l, vs, rfl, h1, h2⟩ := hd.lst_inv
    exact ⟨l, vs, rfl, SqL.of (s2.s _ _ h1), fun o p hc hd' hp => q _ _ _ (s2.trans (Step.alloc s2.s hp)) ⟨p, o, vs, rfl, upd_same, hc, hd', h2.mono (Same.toUpd (s2.s.free hp))⟩⟩)) he) hg (by decide) (by decide) he rfl
theorem pu_tidx (i : Nat) {x : Str} {v : V} {hs : List Str} {y : Str} (hi : σ[i]? = some (some v)) (ht : TupF X.K G v (ofS hs)) (hb : Pu X b σ G (.str y)) (hy : y ∈ hs)
    (hN : X.N[i]? = some x := by rfl) (hv : Vis X.env.scope x := by first | exact Or.inl rfl | exact Or.inr (Or.inl rfl) | exact Or.inr (Or.inr rfl)) (h1 : (x == ("__debug__" : Str)) = false := by decide) (h2 : (x == ("__classdict__" : Str)) = false := by decide)
    (hbase : attributeBase (.Name x px) "index" X.env (eval (.Name x px) X.env) = eval (.Name x px) X.env := by rfl)
    (hfew : ((backTo pos (starEach [b] X.env)).all (fun x => !x.1) && (backToKw pos (keywordEach [] X.env)).all (fun x => x.1.isSome)
      && decide ([b].length + ([] : List Keyword).length + (if ([] : List Keyword).isEmpty then 0 else 1) < 30)) = true := by rfl)
    (hline : (apos.endLine == pos.line) = true := by rfl) (hs1 : starEach [b] X.env = (false, eval b X.env) :: starEach [] X.env := by rfl) (hplain : (backTo pos (starEach [] X.env)).any (·.1) = false := by rfl) :
    Pu X (.Call (.Attribute (.Name x px) "index" apos) [b] [] pos) σ G (.int (idxS hs y)) := fun G1 H g s Q q => by
  refine eE.mk (pe_bmF PySem.F.plainAttrs_tuple PySem.F.slot_tuple_index PySem.F.type_tuple_index mt_tup_index pe_e pa_e hbase hfew hline hs1 hplain) (w_var i hi ⟨?_, a_cons (hb G1 H g s _ fun w G3 H3 s3 hd3 => a_nil ?_) hs1⟩ hN hv h1 h2)
  · obtain ⟨l, o, vs, rfl, e1, e2, e3, e4⟩ := ht.mono g
    exact ⟨l, o, _, rfl, s _ _ e1, e2, e3⟩
  · obtain ⟨l, o, vs, rfl, e1, e2, e3, e4⟩ := ht.mono g
    obtain rfl := hd3.str_inv
    obtain rfl := e4.strs
    have hlt : hs.idxOf y < hs.length := List.idxOf_lt_length_iff.mpr hy
    refine ⟨l, hs, y, hs.idxOf y, rfl, rfl, .inl (.inr ⟨o, s3.s _ _ (s3.g _ _ e1)⟩), ?_, fun m hm e => ?_, q _ _ _ s3 (.int _)⟩
    · rw [List.getElem?_eq_getElem hlt, List.getElem_idxOf hlt]
    · obtain ⟨hml, em⟩ := List.getElem?_eq_some_iff.mp e
      exact absurd hm (Nat.not_lt.mpr (by
        have := idxOf_le hml
        rw [em] at this
        exact this))
end
end Mb

set_option Elab.async false
set_option linter.all false
set_option maxRecDepth 100000
set_option maxHeartbeats 2000000
namespace Mb
open PySem PySem.Spec PyProof.Rows L2 TL
def optS : List Str := ["begins", "ends", "gives"]
def ask1 (w : Str) (rest : List Str) : Option Str × List Str := if decide (rest.take 1 = [w]) && decide (1 < (rest.length : Int)) then (rest[1]?, rest.drop 2) else (none, rest)
def askF (ks : List Str) (rest : List Str) : List (Option Str) × List Str := ks.foldl (fun p w => (p.1 ++ [(ask1 w p.2).1], (ask1 w p.2).2)) ([], rest)
theorem askF_snoc (ks : List Str) (w : Str) (rest : List Str) : askF (ks ++ [w]) rest = ((askF ks rest).1 ++ [(ask1 w (askF ks rest).2).1], (ask1 w (askF ks rest).2).2) := by
  unfold askF
  rw [List.foldl_append]
  rfl
def isO (x : Str) : Bool := decide (x ∈ optS)
def ctB (hs ws : List Str) : Option (List Int × Option Int × Option Int × Option Int) :=
  if (!(askF optS (ws.dropWhile fun x => !isO x)).2.isEmpty || !((ws.takeWhile fun x => !isO x).map fun x => decide (x ∈ hs)).all id) = true then none
  else if (!(((askF optS (ws.dropWhile fun x => !isO x)).1.map fun o => o.isNone || o.any fun x => decide (x ∈ hs)).all id)) = true then none
  else match (askF optS (ws.dropWhile fun x => !isO x)).1.map fun o => o.map (idxS hs) with
    | [b, e, g] => if (!mctB ((ws.takeWhile fun x => !isO x).map (idxS hs)) b e g) = true then none else some ((ws.takeWhile fun x => !isO x).map (idxS hs), b, e, g)
    | _ => none
def ctD : Option (List Int × Option Int × Option Int × Option Int) → Dt
  | none => .none
  | some (cs, b, e, g) => .tuple [.tuple (ofI cs), optD b, optD e, optD g]
def oSD : Option Str → Dt
  | .none => .none
  | .some x => .str x
theorem takeWhile_of {p : Str → Bool} : ∀ (i : Nat) (xs : List Str), (∀ x ∈ xs.take i, p x = true) → (∀ x r, xs.drop i = x :: r → p x = false) → xs.takeWhile p = xs.take i ∧ xs.dropWhile p = xs.drop i
  | 0, [], _, _ => ⟨rfl, rfl⟩
  | 0, x :: xs, _, h => by
    have := h x xs rfl
    simp [List.takeWhile_cons, List.dropWhile_cons, this]
  | i + 1, [], _, _ => ⟨rfl, rfl⟩
  | i + 1, x :: xs, h1, h2 => by
    have hx : p x = true := h1 x (by simp)
    obtain ⟨a, b⟩ := takeWhile_of i xs (fun y hy => h1 y (by simp [hy])) (fun y r e => h2 y r (by simpa using e))
    simp [List.takeWhile_cons, List.dropWhile_cons, hx, a, b]
theorem cutD_dropN (xs : List Dt) (k : Nat) : cutD xs (some (k : Int)) none = xs.drop k := by
  unfold cutD
  have e1 : HT.sIx xs.length 0 (some (k : Int)) = min k xs.length := by
    unfold HT.sIx
    simp
    omega
  have e2 : HT.sIx xs.length xs.length none = xs.length := rfl
  rw [e1, e2]
  by_cases h : k ≤ xs.length
  · rw [Nat.min_eq_left h]
    exact List.take_of_length_le (by rw [List.length_drop]; omega)
  · rw [Nat.min_eq_right (by omega), List.drop_of_length_le (by omega), List.drop_of_length_le (by omega)]
    exact List.take_nil
section
variable {X : Cx} {σ : L2.St} {G H : Hp} {a b c e : Expr} {p pos apos : Pos} {ds : List Dt}
theorem put_truthL (ha : Pu X e σ G (.list ds)) (he : ∀ whole, isTrue e X.env whole = (do let v ← whole; standAt e.pos; holding [v] (truthy v)) := by intro _; rfl) : PuT X e σ G (!ds.isEmpty) := fun G1 H g s Q q => by
  refine t_truth (ha G1 H g s _ fun v G2 H2 s2 hd => ?_) he
  obtain ⟨l, vs, rfl, h1, h2⟩ := hd.lst_inv
  refine ⟨!ds.isEmpty, .inl ⟨vs, SqL.of (s2.s _ _ h1), ?_⟩, q G2 H2 s2⟩
  have := h2.length
  cases vs <;> cases ds <;> simp_all
end
theorem nod_strs (xs : List Str) : nod (.list (ofS xs)) = true := by
  show nods (ofS xs) = true
  induction xs with
  | nil => rfl
  | cons x xs ih => exact ih
def Oks (xs : List Str) : Prop := ∀ x ∈ xs, PyData.canLay0 (.str x) = true
theorem shaped_strs {xs : List Str} (h : Oks xs) : SeqAt.shaped (.list (ofS xs)) = true := by
  have h1 : ∀ ys : List Str, (∀ x ∈ ys, PyData.canLay0 (.str x) = true) → PyData.canLayAll0 (ofS ys) = true := by
    intro ys
    induction ys with
    | nil => intro _; rfl
    | cons x ys ih =>
      intro hy
      show (PyData.canLay0 (.str x) && PyData.canLayAll0 (ofS ys)) = true
      rw [hy x List.mem_cons_self, ih fun y hm => hy y (List.mem_cons_of_mem _ hm)]
      rfl
  have h2 : ∀ ys : List Str, PyData.depthAll (ofS ys) = 0 := by
    intro ys
    induction ys with
    | nil => rfl
    | cons x ys ih =>
      show max 0 (PyData.depthAll (ofS ys)) = 0
      rw [ih]
      rfl
  unfold SeqAt.shaped
  show (PyData.canLayAll0 (ofS xs) && decide (PyData.depthAll (ofS xs) + 1 ≤ 64)) = true
  rw [h1 xs h, h2 xs]
  rfl
theorem eqv_take1 (rest : List Str) (w : Str) : PyData.eqv (.list (ofS (rest.take 1))) (.list (ofS [w])) = decide (rest.take 1 = [w]) := by
  cases rest with
  | nil => rfl
  | cons x r =>
    show ((x == w) && true) = decide ([x] = [w])
    by_cases h : x = w
    · subst h
      simp
    · simp [h]
theorem oks_opt : Oks optS := by
  intro x hx
  simp only [optS, List.mem_cons, List.not_mem_nil, or_false] at hx
  rcases hx with rfl | rfl | rfl <;> decide +kernel
section
variable {P : Program} {w : World} {K : PySem.W.Frag} {mg : Str → Option Value} {base : Heap}
abbrev HTogether (P w K mg base) := Has P w K mg base "may_come_together" 1 4 (spPure K 4 rTogether)
abbrev nComers : List Str := ["hands", "words", "rest", "names", "asked", "word", "comers", "begins", "ends", "gives", "name"]
theorem scComers : FnScope nComers ["hands", "words"] (defScope sComersTold) := ⟨rfl, rfl, rfl, by decide +kernel, rfl, by decide +kernel, by decide +kernel⟩
def spCT (K : PySem.W.Frag) : Sp := fun vs H Q _ => ∃ G hs ws v0 v1, vs = [v0, v1] ∧ Oks ws ∧ Same G H ∧ TupF K G v0 (ofS hs) ∧ Da K G v1 (.list (ofS ws)) ∧ hs.length ≤ 1000 ∧ ws.length ≤ 1000 ∧ ∀ v G' H', Step [] G H G' H' → Da K G' v (ctD (ctB hs ws)) → Q v H'
theorem spCT_len {K : PySem.W.Frag} : ∀ vs H Q E, spCT K vs H Q E → vs.length = 2 := fun vs H Q E ⟨G, hs, ws, v0, v1, h, _⟩ => by rw [h]; rfl
theorem has_comerstold (T : Top1 K mg "comers_told" sComersTold ["hands", "words"]) (B : Blt mg) (hT : HTogether P w K mg base) : Has P w K mg base "comers_told" 2 2 (spCT K) := by
  refine mkHas (k := 1) T scComers spCT_len fun f cdv A outer s H vs Q E hr h => ?_
  obtain ⟨G, hs, ws, v0, v1, rfl, hok, g, ht, d1, hl, wl, k⟩ := h
  have hu := hu64 hr
  have tail2 : ∀ (u4 u5 u10 : Option V) (vr vn : V) (G3 H3 : Hp), Step [] G H G3 H3 → Da K G3 vr (.list (ofS (ws.dropWhile fun x => !isO x))) → Da K G3 vn (.list (ofS (ws.takeWhile fun x => !isO x))) →
      eB (cxOf CX0 P w K mg base nComers "comers_told" (defScope sComersTold) f cdv A outer s H E).nox ((defBody sComersTold).drop 3) { nx := fun _ H' => Q .non H', rt := Q }
          [some v0, some v1, some vr, some vn, u4, u5, none, none, none, none, u10] H3 := by
    intro u4 u5 u10 vr vn G3 H3 st hvr hvn
    have hokR : Oks (ws.dropWhile fun x => !isO x) := fun x hx => hok x (List.dropWhile_subset _ hx)
    have hnl : (ws.takeWhile fun x => !isO x).length ≤ 1000 := Nat.le_trans (List.takeWhile_sublist _).length_le wl
    unfold ctB at k
    generalize (ws.dropWhile fun x => !isO x) = R at hvr hokR k
    generalize (ws.takeWhile fun x => !isO x) = N at hvn hnl k
    refine b_cons (s_set 4 scComers.nd (w_emptyM fun l3 hl3 => ?_))
    have F : PAt K G H l3 [] G3 [] (upd H3 l3 (.lst [])) := PAt.new st .nil hl3
    refine b_cons (s_forD (ds := optS.map PyData.str) (src_tup (pu_tup (ds := ofS optS) (pua_cons pu_str (pua_cons pu_str (pua_cons pu_str pua_nil))) (by decide))) F.st.s fun G4 H4 s4 => ⟨fun i σ H' => ∃ (G9 : Hp) (vs : List V) (vr : V) (u5 : Option V), σ = [some v0, some v1, some vr, some vn, some (.ref l3), u5, none, none, none, none, u10] ∧ Same G4 G9 ∧
      PAt K G H l3 ((askF (optS.take i) R).1.map oSD) G9 vs H' ∧ Da K G9 vr (.list (ofS (askF (optS.take i) R).2)) ∧ Oks (askF (optS.take i) R).2 ∧ (askF (optS.take i) R).1.length = i, ?_, ?_, ?_, ?_⟩)
    · exact ⟨G4, [], vr, _, rfl, Same.refl G4, F.pure s4, hvr.mono s4.g, hokR, rfl⟩
    · rintro i σ H' ⟨G9, vs, vr, _, rfl, sg, F9, _⟩
      exact sg.trans F9.st.s
    · rintro i d x σ H' H9 hi ⟨G9, vs, vr, w5, rfl, sg, F9, hr9, hok9, hlen9⟩ hw
      rw [List.getElem?_map] at hi
      obtain ⟨wd, hwd, rfl⟩ := Option.map_eq_some_iff.mp hi
      have hi3 : i < 3 := (List.getElem?_eq_some_iff.mp hwd).1
      have hsn : optS.take (i + 1) = optS.take i ++ [wd] := by rw [List.take_add_one, hwd]; rfl
      have hsn2 := askF_snoc (optS.take i) wd R
      rw [← hsn] at hsn2
      generalize askF (optS.take i) R = pr at F9 hr9 hok9 hlen9 hsn2
      obtain ⟨os, rest⟩ := pr
      obtain ⟨G10, s10, hx10⟩ := hw G9 sg F9.st.s
      obtain rfl := hx10.str_inv
      have F10 := F9.pure s10
      have hr10 := hr9.mono s10.g
      have el : (ofS rest).length = rest.length := by simp [ofS]
      refine g_name 5 scComers.nd (b_one (s_if (t_pu (put_w (puw_and (put_c (PuC.to (c_eqD (Pu.to (pu_slL (pu_var 2 rfl hr10) puo_none (puo_some pu_int)) (d1 := .list (ofS (rest.take 1))) ?e1) (pu_lst (ds := ofS [wd]) (pua_cons (pu_var 5 rfl (.str wd)) pua_nil)) (nod_strs _) (nod_strs _) (shaped_strs fun x hx => hok9 x (List.mem_of_mem_take hx)) (shaped_strs ?o1) hu) (eqv_take1 rest wd))) fun _ => puw_and1 (put_c (c_gt (i := (rest.length : Int)) (Pu.to (pu_lenL (pu_var 2 rfl hr10) B.len) (by rw [el])) pu_int)))) F10.st.s fun G11 H11 s11 => ite2 (fun hc => ?_) (fun hc => ?_))))
      case e1 =>
        rw [cutD_take _ (by decide)]
        simp [ofS]
      case o1 =>
        intro x hx
        rw [List.mem_singleton] at hx
        subst hx
        exact oks_opt _ (List.mem_of_getElem? hwd)
      · rw [Bool.and_eq_true] at hc
        have c1 := of_decide_eq_true hc.1
        have c2 := of_decide_eq_true hc.2
        obtain ⟨y, r, rfl⟩ : ∃ y r, rest = wd :: y :: r := by
          cases rest with
          | nil => simp at c1
          | cons x rest =>
            cases rest with
            | nil => simp at c2
            | cons y r =>
              have : x = wd := by simpa using c1
              subst this
              exact ⟨y, r, rfl⟩
        have hv : (ask1 wd (wd :: y :: r)) = (some y, r) := by
          unfold ask1
          rw [if_pos (by rw [hc.1, hc.2]; rfl)]
          rfl
        have F11 := F10.pure s11
        have hr11 := hr10.mono s11.g
        refine b_cons (s_expr (w_append 4 rfl F11.hl (w_pu (pu_ixL (i := 1) (d := .str y) (pu_var 2 rfl hr11) pu_int (by decide) rfl) F11.st.s fun v12 G12 H12 s12 hv12 => a_nil ?_)))
        have F12 := F11.pure s12
        have hl12 := F12.ds.length
        rw [List.length_map] at hl12
        refine rAppend_q (xs := vs) F12.hl (by rw [hl12]; omega) ?_
        have F13 := F12.ext (.one hv12)
        refine b_one (s_set 2 scComers.nd (w_pu (d := .list (ofS r)) (Pu.to (pu_slL (pu_var 2 rfl (hr11.mono s12.g)) (puo_some pu_int) puo_none) (by
          rw [show (2 : Int) = ((2 : Nat) : Int) from rfl, cutD_dropN]
          rfl)) F13.st.s fun v14 G14 H14 s14 hv14 => ?_))
        refine ⟨G14, vs ++ [v12], v14, _, rfl, sg.trans (s10.g.trans (s11.g.trans (s12.g.trans s14.g))), ?_, ?_, ?_, ?_⟩
        · rw [hsn2]
          show PAt K G H l3 ((os ++ [(ask1 wd (wd :: y :: r)).1]).map oSD) G14 _ H14
          rw [hv, List.map_append]
          exact F13.pure s14
        · rw [hsn2]
          show Da K G14 v14 (.list (ofS (ask1 wd (wd :: y :: r)).2))
          rw [hv]
          exact hv14
        · rw [hsn2]
          show Oks (ask1 wd (wd :: y :: r)).2
          rw [hv]
          exact fun x hx => hok9 x (List.mem_cons_of_mem _ (List.mem_cons_of_mem _ hx))
        · rw [hsn2]
          show (os ++ [_]).length = i + 1
          rw [List.length_append, List.length_singleton]
          exact congrArg (· + 1) hlen9
      · have hv : (ask1 wd rest) = (none, rest) := by
          unfold ask1
          rw [if_neg hc]
        have F11 := F10.pure s11
        have hl12 := F11.ds.length
        rw [List.length_map] at hl12
        refine b_one (s_expr (w_append 4 rfl F11.hl (w_non (a_nil ?_))))
        refine rAppend_q (xs := vs) F11.hl (by rw [hl12]; omega) ?_
        have F13 := F11.ext (es := [.none]) (.one .non)
        refine ⟨G11, vs ++ [.non], vr, _, rfl, sg.trans (s10.g.trans s11.g), ?_, ?_, ?_, ?_⟩
        · rw [hsn2]
          show PAt K G H l3 ((os ++ [(ask1 wd rest).1]).map oSD) G11 _ _
          rw [hv, List.map_append]
          exact F13
        · rw [hsn2]
          show Da K G11 vr (.list (ofS (ask1 wd rest).2))
          rw [hv]
          exact hr10.mono s11.g
        · rw [hsn2]
          show Oks (ask1 wd rest).2
          rw [hv]
          exact hok9
        · rw [hsn2]
          show (os ++ [_]).length = i + 1
          rw [List.length_append, List.length_singleton]
          exact congrArg (· + 1) hlen9
    · rintro σ H' ⟨G9, vs, vr9, w5, rfl, sg, F9, hr9, hok9, hlen9⟩
      have e3 : optS.take (optS.map PyData.str).length = optS := rfl
      have e3' : (optS.map PyData.str).length = 3 := rfl
      rw [e3] at F9 hr9 hok9 hlen9
      rw [e3'] at hlen9
      generalize askF optS R = pr at F9 hr9 hok9 hlen9 k
      obtain ⟨os, rest⟩ := pr
      have gg : Same G G9 := st.g.trans (s4.g.trans sg)
      have gn : Same G3 G9 := s4.g.trans sg
      have st9 := F9.fin
      have gf : Same G9 (upd G9 l3 (.lst vs)) := Same.toUpd F9.gl
      have hda := F9.da
      generalize upd G9 l3 (.lst vs) = GA at st9 gf hda
      have htA := ht.mono (gg.trans gf)
      have hnA := hvn.mono (gn.trans gf)
      have hrA := hr9.mono gf
      have er : (ofS rest).isEmpty = rest.isEmpty := by cases rest <;> rfl
      -- rest or not all names
      refine b_cons (s_if (t_pu (put_w (puw_or (PuT.to (put_truthL (pu_var 2 rfl hrA)) (by rw [er])) fun _ => puw_or1 (put_not (put_val (pu_all (bs := N.map fun x => decide (x ∈ hs)) (Pu.to (pu_lc1 10 (cd := PyData.str) (ns := N) (src_list (pu_var 3 rfl hnA)) (fun x => .bool (decide (x ∈ hs))) (fun _ => true) scComers.nd
        (fun _ _ _ _ _ _ _ _ _ _ _ => puts_nil) (fun n hn _ v G2 g2 hv _ _ _ _ _ => pu_c (c_inST (pu_var 10 rfl hv) (pu_var 0 rfl (htA.mono g2).da))) (by omega)) ?e1) B.all))))) st9.s fun G5 H5 s5 => ite2 (fun hc => ?_) (fun hc => b_nil ?_)))
      case e1 => rw [filter_tt, List.map_map]; rfl
      · rw [if_pos hc] at k
        exact b_one (s_ret (w_non (k _ G5 H5 (st9.trans s5) .non)))
      rw [if_neg hc] at k
      have hall : ∀ x ∈ N, x ∈ hs := by
        intro x hx
        have h2 : ((N.map fun x => decide (x ∈ hs)).all id) = true := by
          cases q : ((N.map fun x => decide (x ∈ hs)).all id) with
          | true => rfl
          | false =>
            rw [q] at hc
            exact (hc (by simp)).elim
        rw [List.all_map, List.all_eq_true] at h2
        exact of_decide_eq_true (h2 x hx)
      have ht5 := htA.mono s5.g
      have hda5 := hda.mono s5.g
      have hn5 := hnA.mono s5.g
      have st5 := st9.trans s5
      -- not all asked
      refine b_cons (s_if (t_pu (put_not (put_val (pu_all (bs := os.map fun o => o.isNone || o.any fun x => decide (x ∈ hs)) (Pu.to (pu_lc1 10 (cd := oSD) (ns := os) (src_list (pu_var 4 rfl hda5)) (fun o => .bool (o.isNone || o.any fun x => decide (x ∈ hs))) (fun _ => true) scComers.nd
        (fun _ _ _ _ _ _ _ _ _ _ _ => puts_nil) (fun o ho _ v G2 g2 hv _ _ _ _ _ => ?el) (by have : os.length = 3 := hlen9; omega)) ?e2) B.all))) s5.s fun G6 H6 s6 => ite2 (fun hc => ?_) (fun hc => b_nil ?_)))
      case el =>
        cases o with
        | none => exact pu_or (k := true) (k' := false) (pu_c (c_isN true (pu_var 10 rfl hv) fun G' v' _ hv' => by obtain rfl := Da.non_inv hv'; rfl)) (fun h => nomatch h)
        | some x => exact pu_or (k := false) (k' := decide (x ∈ hs)) (pu_c (c_isN false (pu_var 10 rfl hv) fun G' v' _ hv' => by obtain rfl := Da.str_inv hv'; rfl)) (fun _ => pu_bo1 (pu_c (c_inST (pu_var 10 rfl hv) (pu_var 0 rfl (ht5.mono g2).da))))
      case e2 => rw [filter_tt, List.map_map]; rfl
      · rw [if_pos hc] at k
        exact b_one (s_ret (w_non (k _ G6 H6 (st5.trans s6) .non)))
      rw [if_neg hc] at k
      have hall2 : ∀ x, some x ∈ os → x ∈ hs := by
        intro x hx
        have h2 : ((os.map fun o => o.isNone || o.any fun x => decide (x ∈ hs)).all id) = true := by
          cases q : ((os.map fun o => o.isNone || o.any fun x => decide (x ∈ hs)).all id) with
          | true => rfl
          | false =>
            rw [q] at hc
            exact (hc rfl).elim
        rw [List.all_map, List.all_eq_true] at h2
        exact of_decide_eq_true (h2 (some x) hx)
      have ht6 := ht5.mono s6.g
      have hda6 := hda5.mono s6.g
      have hn6 := hn5.mono s6.g
      have st6 := st5.trans s6
      -- comers
      refine b_cons (s_set 6 scComers.nd (w_pu (d := .tuple (ofI (N.map (idxS hs)))) (pu_tupleL (Pu.to (pu_lc1 10 (cd := PyData.str) (ns := N) (src_list (pu_var 3 rfl hn6)) (fun x => .int (idxS hs x)) (fun _ => true) scComers.nd
        (fun _ _ _ _ _ _ _ _ _ _ _ => puts_nil) (fun n hn _ v G2 g2 hv _ _ _ _ _ => pu_tidx 0 rfl (ht6.mono g2) (pu_var 10 rfl hv) (hall n hn)) (by omega)) ?e3) B.tuple) s6.s fun v6 G7 H7 s7 hv6 => ?_))
      case e3 => rw [filter_tt]; simp [ofI]
      obtain ⟨o1, o2, o3, rfl⟩ : ∃ o1 o2 o3, os = [o1, o2, o3] := by
        match os, hlen9 with
        | [a, b, c], _ => exact ⟨a, b, c, rfl⟩
      have ht7 := ht6.mono s7.g
      have hda7 := hda6.mono s7.g
      refine b_cons (s_asg (w_pu (d := .list [optD (o1.map (idxS hs)), optD (o2.map (idxS hs)), optD (o3.map (idxS hs))]) (Pu.to (pu_lc1 10 (cd := oSD) (ns := [o1, o2, o3]) (src_list (pu_var 4 rfl hda7)) (fun o => optD (o.map (idxS hs))) (fun _ => true) scComers.nd
        (fun _ _ _ _ _ _ _ _ _ _ _ => puts_nil) (fun o ho _ v G2 g2 hv _ _ _ _ _ => ?el2) (by show 3 < 100000; decide)) ?e4) s7.s fun v8 G8 H8 s8 hv8 => ?_))
      case el2 =>
        cases o with
        | none => exact pu_if (k := true) (put_c (c_isN true (pu_var 10 rfl hv) fun G' v' _ hv' => by obtain rfl := Da.non_inv hv'; rfl)) (fun _ => pu_non) (fun h => nomatch h)
        | some x => exact pu_if (k := false) (put_c (c_isN false (pu_var 10 rfl hv) fun G' v' _ hv' => by obtain rfl := Da.str_inv hv'; rfl)) (fun h => nomatch h) (fun _ => pu_tidx 0 rfl (ht7.mono g2) (pu_var 10 rfl hv) (hall2 x ho))
      case e4 => rw [filter_tt]; rfl
      obtain ⟨l8, xs8, rfl, h81, h82⟩ := hv8.lst_inv
      cases h82 with
      | cons y1 h82 =>
      cases h82 with
      | cons y2 h82 =>
      cases h82 with
      | cons y3 h82 =>
      cases h82
      have hv6' := hv6.mono s8.g
      have el : (N.map (idxS hs)).length ≤ 1000 := by rw [List.length_map]; exact hnl
      have st8 := st6.trans (s7.trans s8)
      refine g_unl (SqL.of (s8.s _ _ h81)) rfl (gs_cons (g_name 7 scComers.nd (gs_cons (g_name 8 scComers.nd (gs_cons (g_name 9 scComers.nd (gs_nil ?_))))))) 
      refine b_cons (s_if (t_pu (put_not (put_val (pu_call hT hr (by decide) (pua_cons (pu_var 6 rfl hv6') (pua_cons (pu_var 7 rfl y1) (pua_cons (pu_var 8 rfl y2) (pua_cons (pu_var 9 rfl y3) pua_nil)))) ⟨_, _, _, _, rfl, el, rfl⟩ rfl))) s8.s fun G10 H10 s10 => ite2 (fun hc => ?_) (fun hc => b_nil ?_)))
      · have k' := k .non G10 H10 (st8.trans s10)
        simp only [List.map_cons, List.map_nil] at k'
        rw [if_pos hc] at k'
        exact b_one (s_ret (w_non (k' .non)))
      · refine b_one (s_ret (w_pu (pu_tup (pua_cons (pu_var 6 rfl (hv6'.mono s10.g)) (pua_cons (pu_var 7 rfl (y1.mono s10.g)) (pua_cons (pu_var 8 rfl (y2.mono s10.g)) (pua_cons (pu_var 9 rfl (y3.mono s10.g)) pua_nil))))) s10.s fun v11 G11 H11 s11 hv11 => ?_))
        have k' := k v11 G11 H11 (st8.trans (s10.trans s11))
        simp only [List.map_cons, List.map_nil] at k'
        rw [if_neg hc] at k'
        exact k' hv11
  refine b_cons (s_set 2 scComers.nd (w_listM (pu_var 1 rfl d1) g B.list fun l1 vs0 G1 H1 s1 gl1 hl1 hl0 hd0 => ?_))
  refine b_cons (s_set 3 scComers.nd (w_emptyM fun l2 hl2 => ?_))
  have n12 : l1 ≠ l2 := ne_of_none hl1 hl2
  have s2 : Step [l1, l2] G H G1 (upd H1 l2 (.lst [])) := s1.pure.trans (Step.allocM s1.s hl2)
  have gl2 : G1 l2 = none := s1.s.free hl2
  have h02 : H l2 = none := s1.free hl2
  refine b_cons (s_while ⟨fun m σ H' => ∃ (i : Nat) (G3 : Hp) (vs vn : List V), σ = [some v0, some v1, some (.ref l1), some (.ref l2), none, none, none, none, none, none, none] ∧ Step [l1, l2] G H G3 H' ∧ H' l1 = some (.lst vs) ∧ H' l2 = some (.lst vn) ∧ G3 l1 = none ∧ G3 l2 = none ∧
    Das K G3 vs (ofS (ws.drop i)) ∧ Das K G3 vn (ofS (ws.take i)) ∧ (∀ x ∈ ws.take i, (!isO x) = true) ∧ i ≤ ws.length ∧ m = ws.length - i, ⟨ws.length, 0, G1, vs0, [], rfl, s2, by rw [upd_ne n12]; exact hl1, upd_same, gl1, gl2, hd0, .nil, by simp, Nat.zero_le _, rfl⟩, ?_⟩)
  rintro m σ H' ⟨i, G3, vs, vn, rfl, st, h1, h2, g1, g2, ds1, ds2, hno, hi, rfl⟩
  have gg : Same (upd G3 l1 (.lst vs)) H' := by
    intro b o e
    by_cases hb : b = l1
    · subst hb
      rw [upd_same] at e
      rw [h1]
      exact e
    · rw [upd_ne hb] at e
      exact st.s b o e
  have hv1 : Da K (upd G3 l1 (.lst vs)) (.ref l1) (.list (ofS (ws.drop i))) := .lst upd_same (ds1.mono (Same.toUpd g1))
  have leave : ∀ (G5 H5 : Hp), (∀ x r, ws.drop i = x :: r → isO x = true) → Step [] (upd G3 l1 (.lst vs)) H' G5 H5 →
      eB (cxOf CX0 P w K mg base nComers "comers_told" (defScope sComersTold) f cdv A outer s H E).nox ((defBody sComersTold).drop 3) { nx := fun _ H' => Q .non H', rt := Q }
          [some v0, some v1, some (.ref l1), some (.ref l2), none, none, none, none, none, none, none] H5 := by
    intro G5 H5 hx s5
    obtain ⟨e1, e2⟩ := takeWhile_of (p := fun x => !isO x) i ws hno fun x r e => by rw [hx x r e]; rfl
    have h15 := s5.keep h1 (by simp)
    have h25 := s5.keep h2 (by simp)
    have st5 : Step [l1, l2] G H G3 H5 := st.trans ((s5.reG st.s (by simp)).weak (by simp))
    have st6 : Step [] G H G3 H5 := (st5.drop hl0).drop h02
    have st7 := st6.freeze hl0 h15 g1
    have st8 := st7.freeze h02 h25 (by rw [upd_ne (Ne.symm n12)]; exact g2)
    refine tail2 _ _ _ _ _ _ _ st8 ?_ ?_
    · rw [e2]
      exact .lst (by rw [upd_ne n12]; exact upd_same) ((ds1.mono (Same.toUpd g1)).mono (Same.toUpd (by rw [upd_ne (Ne.symm n12)]; exact g2)))
    · rw [e1]
      exact .lst upd_same ((ds2.mono (Same.toUpd g1)).mono (Same.toUpd (by rw [upd_ne (Ne.symm n12)]; exact g2)))
  refine t_w (t_and (t_pu (put_truthL (pu_var 2 rfl hv1)) gg fun G4 H4 s4 => ?_))
  have hdl : (ofS (ws.drop i)).isEmpty = decide (ws.length ≤ i) := by
    cases e : ws.drop i with
    | nil => 
      have := congrArg List.length e
      rw [List.length_drop] at this
      have h0 : ws.length - i = 0 := this
      rw [decide_eq_true (by omega)]
      rfl
    | cons x r =>
      have := congrArg List.length e
      rw [List.length_drop, List.length_cons] at this
      rw [decide_eq_false (by omega)]
      rfl
  refine ite2 (fun hc => ?_) (fun hc => iteF (leave G4 H4 ?_ s4))
  case refine_2 =>
    intro x r e
    exfalso
    rw [e] at hc
    exact hc rfl
  have hil : i < ws.length := by
    rw [hdl] at hc
    exact Nat.lt_of_not_le fun hle => by rw [decide_eq_true hle] at hc; cases hc
  have hcons : ws.drop i = ws[i] :: ws.drop (i + 1) := List.drop_eq_getElem_cons hil
  have hv4 := hv1.mono s4.g
  refine t_and1 (t_pu (put_c (k := !decide (ws[i] ∈ optS)) (c_ninST (pu_ixL (i := 0) (pu_var 2 rfl hv4) pu_int (by decide) (by rw [hcons]; rfl)) (pu_tup (ds := ofS optS) (pua_cons pu_str (pua_cons pu_str (pua_cons pu_str pua_nil))) (by decide)))) s4.s fun G5 H5 s5 => ite2 (fun hc2 => ?_) (fun hc2 => leave G5 H5 ?_ (s4.trans s5)))
  case refine_2 =>
    intro x r e
    rw [hcons] at e
    injection e with e1 e2
    subst e1
    unfold isO
    cases q : decide (ws[i] ∈ optS) with
    | true => rfl
    | false => rw [q] at hc2; exact (hc2 rfl).elim
  have s45 := s4.trans s5
  have h15 := s45.keep h1 (by simp)
  have h25 := s45.keep h2 (by simp)
  have st5 : Step [l1, l2] G H G3 H5 := st.trans ((s45.reG st.s (by simp)).weak (by simp))
  obtain ⟨x, vs', rfl⟩ : ∃ x vs', vs = x :: vs' := by
    have := ds1.length
    cases vs with
    | nil =>
      rw [hcons] at this
      have h0 : 0 = (ofS (ws.drop (i + 1))).length + 1 := this
      omega
    | cons x vs' => exact ⟨x, vs', rfl⟩
  rw [hcons] at ds1
  cases ds1 with
  | cons dx dxs =>
  have vl := dxs.length
  have vnl := ds2.length
  have hwl : (ofS (ws.drop (i + 1))).length ≤ ws.length := by simp [ofS]
  refine ⟨fun σ' H' => ∃ G3 vs vn, σ' = [some v0, some v1, some (.ref l1), some (.ref l2), none, none, none, none, none, none, none] ∧ Step [l1, l2] G H G3 H' ∧ H' l1 = some (.lst vs) ∧ H' l2 = some (.lst vn) ∧ G3 l1 = none ∧ G3 l2 = none ∧
    Das K G3 vs (ofS (ws.drop (i + 1))) ∧ Das K G3 vn (ofS (ws.take (i + 1))), fun σ' H' ⟨G3, vs, vn, a1, a2, a3, a4, a5, a6, a7, a8⟩ => ⟨ws.length - (i + 1), by omega, i + 1, G3, vs, vn, a1, a2, a3, a4, a5, a6, a7, a8, ?_, by omega, rfl⟩, ?_⟩
  · intro y hy
    rw [List.take_add_one, List.mem_append] at hy
    rcases hy with h | h
    · exact hno y h
    · rw [List.getElem?_eq_getElem hil] at h
      obtain rfl := List.mem_singleton.mp h
      exact hc2
  · refine b_one (s_expr (w_append 3 rfl h25 (w_popAt 2 rfl h15 (w_int (a_nil ?_)))))
    refine rPopAt_q h15 (by decide) (by simp) (by decide) (y := x) rfl (a_nil ?_)
    have ht1 : ws.take (i + 1) = ws.take i ++ [ws[i]] := by rw [List.take_add_one, List.getElem?_eq_getElem hil]; rfl
    have htl : (ofS (ws.take i)).length ≤ ws.length := by simp [ofS]; omega
    refine rAppend_q (xs := vn) (by rw [upd_ne (Ne.symm n12)]; exact h25) (by omega) ?_
    refine ⟨G3, vs', vn ++ [x], rfl, ?_, ?_, upd_same, g1, g2, dxs, ?_⟩
    · exact (st5.trans (Step.mut st5.s g1 h15 (by simp))).trans (Step.mut (st5.trans (Step.mut st5.s g1 h15 (by simp))).s g2 (by rw [upd_ne (Ne.symm n12)]; exact h25) (by simp))
    · rw [upd_ne n12]
      exact upd_same
    · rw [ht1]
      unfold ofS at ds2 ⊢
      rw [List.map_append]
      exact ds2.snoc dx
end
end Mb

set_option Elab.async false
set_option linter.all false
set_option maxRecDepth 100000
set_option maxHeartbeats 2000000
namespace Mb
open PySem PySem.Spec PyProof.Rows L2 TL
open MbS (metS)
/-- the class of drafts -/
structure ClsD (K : PySem.W.Frag) (C : Addr) : Prop where
  cls : Cls K C
  hands : NoAttr K C "hands"
  holders : NoAttr K C "holders"
  kinds : NoAttr K C "kinds"
def hdB (ws : List Str) : Bool :=
  if (!decide (ws.headD ⟨#[]⟩ = ("hands" : Str)) || !(decide (2 ≤ ((ws.drop 1).length : Int)) && decide (((ws.drop 1).length : Int) ≤ 5))) = true then false
  else if (!((ws.drop 1).map fun x => nmB x && !decide (x ∈ resS)).all id || decide (((metS (ws.drop 1)).length : Int) < ((ws.drop 1).length : Int))) = true then false
  else true
def Wds (ws : List Str) : Prop := ws ≠ [] ∧ ws.length ≤ 1000 ∧ Oks ws ∧ ∀ x ∈ ws, x.length < 100000
section
variable {P : Program} {w : World} {K : PySem.W.Frag} {mg : Str → Option Value} {base : Heap}
abbrev HCalled (P w K mg base) := Has P w K mg base "may_be_called" 2 1 (spPure K 1 rCalled)
theorem scTHands : FnScope ["draft", "words", "names", "name"] ["draft", "words"] (defScope sTakesHands) := ⟨rfl, rfl, rfl, by decide +kernel, rfl, by decide +kernel, by decide +kernel⟩
def spHands (K : PySem.W.Frag) (C : Addr) : Sp := fun vs H Q _ => ∃ G a dx fs v1 ws, vs = [.ref a, v1] ∧ Same G H ∧ G a = none ∧ H a = some (.ins C dx fs) ∧ fs.length < 1000 ∧ Da K G v1 (.list (ofS ws)) ∧ Wds ws ∧
  (hdB ws = false → ∀ G' H', Step [] G H G' H' → Q (.bl false) H') ∧ (hdB ws = true → ∀ vt G' H', Step [a] G H G' H' → TupF K G' vt (ofS (ws.drop 1)) → H' a = some (.ins C dx (putF "hands" vt fs)) → Q (.bl true) H')
theorem spHands_len {K : PySem.W.Frag} {C : Addr} : ∀ vs H Q E, spHands K C vs H Q E → vs.length = 2 := fun vs H Q E ⟨G, a, dx, fs, v1, ws, h, _⟩ => by rw [h]; rfl
theorem has_thands {C : Addr} (CD : ClsD K C) (T : Top1 K mg "takes_hands" sTakesHands ["draft", "words"]) (B : Blt mg) (L : Glb K mg) (hC : HCalled P w K mg base) : Has P w K mg base "takes_hands" 3 2 (spHands K C) := by
  refine mkHas (k := 2) T scTHands spHands_len fun f cdv A outer s H vs Q E hr h => ?_
  obtain ⟨G, a, dx, fs, v1, ws, rfl, g, ga, ha, hfl, d1, ⟨hw0, hwl, hwo, hwx⟩, k0, k1⟩ := h
  obtain ⟨uf, gf, rf⟩ := L.fewest
  obtain ⟨um, gm, rm⟩ := L.mostH
  obtain ⟨x0, ws', rfl⟩ : ∃ x r, ws = x :: r := by
    cases ws with
    | nil => exact (hw0 rfl).elim
    | cons x r => exact ⟨x, r, rfl⟩
  have k0' : hdB (x0 :: ws') = false → _ := k0
  have k1' : hdB (x0 :: ws') = true → _ := k1
  clear k0 k1
  have el : (ofS ws').length = ws'.length := by simp [ofS]
  have hwl' : ws'.length ≤ 1000 := by rw [List.length_cons] at hwl; omega
  refine b_cons (s_set 2 scTHands.nd (w_pu (d := .list (ofS ws')) (Pu.to (pu_slL (pu_var 1 rfl d1) (puo_some pu_int) puo_none) (by
    rw [show (1 : Int) = ((1 : Nat) : Int) from rfl, cutD_dropN]
    rfl)) g fun v2 G1 H1 s1 hv2 => ?_))
  refine b_cons (s_if (t_pu (put_w (puw_or (put_c (c_neS (pu_ixL (i := 0) (d := .str x0) (pu_var 1 rfl (d1.mono s1.g)) pu_int (by decide) rfl) pu_str)) fun _ => puw_or1 (put_not (put_chainLe (j := (ws'.length : Int)) (pu_glob gf rf (.int 2)) (Pu.to (pu_lenL (pu_var 2 rfl hv2) B.len) (by rw [el])) (pu_glob gm rm (.int 5)))))) s1.s fun G2 H2 s2 => ite2 (fun hc => ?_) (fun hc => b_nil ?_)))
  · refine b_one (s_ret (w_bl (k0' ?_ G2 H2 (s1.trans s2))))
    unfold hdB
    exact if_pos hc
  have s12 := s1.trans s2
  have hv2' := hv2.mono s2.g
  refine b_cons (s_if (t_pu (put_w (puw_or (put_not (put_val (pu_all (bs := ws'.map fun x => nmB x && !decide (x ∈ resS)) (Pu.to (pu_lc1 3 (cd := PyData.str) (ns := ws') (src_list (pu_var 2 rfl hv2')) (fun x => .bool (nmB x && !decide (x ∈ resS))) (fun _ => true) scTHands.nd
    (fun _ _ _ _ _ _ _ _ _ _ _ => puts_nil) (fun n hn _ v G2 g2 hv _ _ _ _ _ => pu_call hC hr (by decide) (pua_cons (pu_var 3 rfl hv) pua_nil) ⟨n, rfl, hwx n (List.mem_cons_of_mem _ hn), rfl⟩ rfl) (by omega)) ?e1) B.all))) fun _ => puw_or1 (put_c (c_lt (pu_lenSetS (pu_var 2 rfl hv2') hwl' B.len B.set) (Pu.to (pu_lenL (pu_var 2 rfl hv2') B.len) (by rw [el])))))) s2.s fun G3 H3 s3 => ite2 (fun hc2 => ?_) (fun hc2 => b_nil ?_)))
  case e1 => rw [filter_tt, List.map_map]; rfl
  · refine b_one (s_ret (w_bl (k0' ?_ G3 H3 (s12.trans s3))))
    unfold hdB
    exact (if_neg hc).trans (if_pos hc2)
  have s13 := s12.trans s3
  have hb : hdB (x0 :: ws') = true := by
    unfold hdB
    exact (if_neg hc).trans (if_neg hc2)
  refine b_cons (s_fld (w_tupleF (pu_var 2 rfl (hv2'.mono s3.g)) s3.s (fun v4 G4 H4 s4 hv4 => w_var 0 rfl ?_) B.tuple))
  have s14 := s13.trans s4
  have ha4 := s14.keep ha (by simp)
  have ga4 := s14.out ga ha
  refine ⟨a, C, dx, fs, rfl, ha4, CD.cls, CD.hands, hfl, ?_⟩
  exact b_one (s_ret (w_bl (k1' hb v4 G4 _ (s14.pure.trans (Step.mut s14.s ga4 ha4 (by simp))) hv4 upd_same)))
end
end Mb

set_option Elab.async false
set_option linter.all false
set_option maxRecDepth 100000
set_option maxHeartbeats 2000000
namespace Mb
open PySem PySem.Spec PyProof.Rows L2 TL
/-- an expression that is a value known -/
def Pv (X : Cx) (e : Expr) (σ : L2.St) (G : Hp) (v : V) : Prop := ∀ H (Q : VK), Same G H → Q v H → eE X e σ H Q
section
variable {X : Cx} {σ : L2.St} {G G' H : Hp} {a b c e : Expr} {p px pos apos : Pos} {d : Dt} {ds : List Dt} {v : V}
theorem Pv.mono (h : Pv X e σ G v) (s : Same G G') : Pv X e σ G' v := fun H Q g q => h H Q (s.trans g) q
theorem pu_pv (h : Pv X e σ G v) (hd : Da X.K G v d) : Pu X e σ G d := fun G1 H g s Q q => h H Q (g.trans s) (q v G1 H (Step.refl s) (hd.mono g))
theorem pv_fld (i : Nat) {x f : Str} {l C dx : Addr} {fs : List (Str × V)} (hi : σ[i]? = some (some (.ref l))) (hG : G l = some (.ins C dx fs)) (hc : Cls X.K C) (hn : NoAttr X.K C f) (hf : fs.lookup f = some v)
    (hN : X.N[i]? = some x := by rfl) (hv : Vis X.env.scope x := by first | exact Or.inl rfl | exact Or.inr (Or.inl rfl) | exact Or.inr (Or.inr rfl)) (h1 : (x == ("__debug__" : Str)) = false := by decide) (h2 : (x == ("__classdict__" : Str)) = false := by decide)
    (hb : attributeBase (.Name x px) f X.env (eval (.Name x px) X.env) = eval (.Name x px) X.env := by rfl) : Pv X (.Attribute (.Name x px) f pos) σ G v := fun H Q s q =>
  w_fld (w_var i hi ⟨l, C, dx, fs, v, rfl, s _ _ hG, hc, hn, hf, q⟩ hN hv h1 h2) hb
theorem pu_tidxE {hs : List Str} {y : Str} (ha : Pv X a σ G v) (ht : TupF X.K G v (ofS hs)) (hb : Pu X b σ G (.str y)) (hy : y ∈ hs)
    (hbase : attributeBase a "index" X.env (eval a X.env) = eval a X.env := by rfl)
    (hfew : ((backTo pos (starEach [b] X.env)).all (fun x => !x.1) && (backToKw pos (keywordEach [] X.env)).all (fun x => x.1.isSome)
      && decide ([b].length + ([] : List Keyword).length + (if ([] : List Keyword).isEmpty then 0 else 1) < 30)) = true := by rfl)
    (hline : (apos.endLine == pos.line) = true := by rfl) (hs1 : starEach [b] X.env = (false, eval b X.env) :: starEach [] X.env := by rfl) (hplain : (backTo pos (starEach [] X.env)).any (·.1) = false := by rfl) :
    Pu X (.Call (.Attribute a "index" apos) [b] [] pos) σ G (.int (idxS hs y)) := fun G1 H g s Q q => by
  refine eE.mk (pe_bmF PySem.F.plainAttrs_tuple PySem.F.slot_tuple_index PySem.F.type_tuple_index mt_tup_index pe_e pa_e hbase hfew hline hs1 hplain) (ha H _ (g.trans s) ⟨?_, a_cons (hb G1 H g s _ fun w G3 H3 s3 hd3 => a_nil ?_) hs1⟩)
  · obtain ⟨l, o, vs, rfl, e1, e2, e3, e4⟩ := ht.mono g
    exact ⟨l, o, _, rfl, s _ _ e1, e2, e3⟩
  · obtain ⟨l, o, vs, rfl, e1, e2, e3, e4⟩ := ht.mono g
    obtain rfl := hd3.str_inv
    obtain rfl := e4.strs
    have hlt : hs.idxOf y < hs.length := List.idxOf_lt_length_iff.mpr hy
    refine ⟨l, hs, y, hs.idxOf y, rfl, rfl, .inl (.inr ⟨o, s3.s _ _ (s3.g _ _ e1)⟩), ?_, fun m hm e => ?_, q _ _ _ s3 (.int _)⟩
    · rw [List.getElem?_eq_getElem hlt, List.getElem_idxOf hlt]
    · obtain ⟨hml, em⟩ := List.getElem?_eq_some_iff.mp e
      exact absurd hm (Nat.not_lt.mpr (by
        have := idxOf_le hml
        rw [em] at this
        exact this))
end
theorem eLc_of {X : Cx} {σ : L2.St} {G H : Hp} {elt tg iter : Expr} {ifs : List Expr} {scope : Scope} {vs : List Nat} {ds : List Dt} {Q : VK} (h : PuLc X elt tg iter ifs scope vs σ G ds) (g : Same G H) (q : ∀ l xs G' H', Step [] G H G' H' → G' l = none → H l = none → H' l = some (.lst xs) → Das X.K G' xs ds → Q (.ref l) H') : eLc X elt tg iter ifs scope vs σ H Q :=
  h G H (Same.refl G) g Q q
theorem Das.opts {K : PySem.W.Frag} {G : Hp} : ∀ {vs : List V} {os : List (Option Int)}, Das K G vs (os.map optD) → vs = os.map oV
  | [], [], _ => rfl
  | [], _ :: _, h => by cases h
  | _ :: _, [], h => by cases h
  | v :: vs, o :: os, h => by
    cases h with
    | cons h1 h2 =>
      rw [oV_of h1, Das.opts h2]
      rfl
/-- the object at a stands still -/
theorem stillS {G H : Hp} {a : Addr} {o : HO} (s : Same G H) (h : H a = some o) : Same (upd G a o) H := by
  intro b u e
  by_cases hb : b = a
  · subst hb
    rw [upd_same] at e
    rw [h]
    exact e
  · rw [upd_ne hb] at e
    exact s b u e
def tkB (hs ws : List Str) : Bool :=
  if (!decide (ws.headD ⟨#[]⟩ = ("taken" : Str)) || decide (((ws.drop 1).length : Int) = 0)) = true then false
  else if (!((ws.drop 1).map fun x => decide (x ∈ hs)).all id) = true then false
  else if (!ascB ((ws.drop 1).map (idxS hs))) = true then false
  else true
def holdO (hs names : List Str) : List (Option Int) := hs.map fun x => if decide (x ∈ names) = true then some (-1) else none
section
variable {P : Program} {w : World} {K : PySem.W.Frag} {mg : Str → Option Value} {base : Heap}
abbrev HAsc (P w K mg base) := Has P w K mg base "is_ascending" 1 1 (spPure K 1 rIsAsc)
theorem scTTaken : FnScope ["draft", "words", "names", "name"] ["draft", "words"] (defScope sTakesTaken) := ⟨rfl, rfl, rfl, by decide +kernel, rfl, by decide +kernel, by decide +kernel⟩
def spTaken (K : PySem.W.Frag) (C : Addr) : Sp := fun vs H Q _ => ∃ G a dx fs vh hs v1 ws, vs = [.ref a, v1] ∧ Same G H ∧ G a = none ∧ H a = some (.ins C dx fs) ∧ fs.length < 1000 ∧ fs.lookup ("hands" : Str) = some vh ∧ TupF K G vh (ofS hs) ∧ hs.length ≤ 1000 ∧ Da K G v1 (.list (ofS ws)) ∧ Wds ws ∧
  (tkB hs ws = false → ∀ G' H', Step [] G H G' H' → Q (.bl false) H') ∧ (tkB hs ws = true → ∀ lh G' H', Step [a] G H G' H' → H lh = none → G' lh = none → H' lh = some (.lst ((holdO hs (ws.drop 1)).map oV)) → H' a = some (.ins C dx (putF "holders" (.ref lh) fs)) → Q (.bl true) H')
theorem spTaken_len {K : PySem.W.Frag} {C : Addr} : ∀ vs H Q E, spTaken K C vs H Q E → vs.length = 2 := fun vs H Q E ⟨G, a, dx, fs, vh, hs, v1, ws, h, _⟩ => by rw [h]; rfl
theorem has_ttaken {C : Addr} (CD : ClsD K C) (T : Top1 K mg "takes_taken" sTakesTaken ["draft", "words"]) (B : Blt mg) (L : Glb K mg) (hA : HAsc P w K mg base) : Has P w K mg base "takes_taken" 2 2 (spTaken K C) := by
  refine mkHas (k := 1) T scTTaken spTaken_len fun f cdv A outer s H vs Q E hr h => ?_
  obtain ⟨G, a, dx, fs, vh, hs, v1, ws, rfl, g, ga, ha, hfl, hlk, ht, hsl, d1, ⟨hw0, hwl, hwo, hwx⟩, k0, k1⟩ := h
  obtain ⟨uh, gh, rh⟩ := L.here
  obtain ⟨x0, ws', rfl⟩ : ∃ x r, ws = x :: r := by
    cases ws with
    | nil => exact (hw0 rfl).elim
    | cons x r => exact ⟨x, r, rfl⟩
  have k0' : tkB hs (x0 :: ws') = false → _ := k0
  have k1' : tkB hs (x0 :: ws') = true → _ := k1
  clear k0 k1
  have el : (ofS ws').length = ws'.length := by simp [ofS]
  have hwl' : ws'.length ≤ 1000 := by rw [List.length_cons] at hwl; omega
  -- the draft stands still
  have gA : Same (upd G a (.ins C dx fs)) H := stillS g ha
  have uA := Same.toUpd (o := (.ins C dx fs : HO)) ga
  have haA : (upd G a (.ins C dx fs)) a = some (.ins C dx fs) := upd_same
  have htA := ht.mono uA
  have back : ∀ G' H', Step [] (upd G a (.ins C dx fs)) H G' H' → Step [] G H G H' := fun G' H' s => s.reG g (by simp)
  have d1A := d1.mono uA
  refine b_cons (s_set 2 scTTaken.nd (w_pu (d := .list (ofS ws')) (Pu.to (pu_slL (pu_var 1 rfl d1A) (puo_some pu_int) puo_none) (by
    rw [show (1 : Int) = ((1 : Nat) : Int) from rfl, cutD_dropN]
    rfl)) gA fun v2 G1 H1 s1 hv2 => ?_))
  refine b_cons (s_if (t_pu (put_w (puw_or (put_c (c_neS (pu_ixL (i := 0) (d := .str x0) (pu_var 1 rfl (d1A.mono s1.g)) pu_int (by decide) rfl) pu_str)) fun _ => puw_or1 (put_c (c_eqI (i := (ws'.length : Int)) (Pu.to (pu_lenL (pu_var 2 rfl hv2) B.len) (by rw [el])) pu_int)))) s1.s fun G2 H2 s2 => ite2 (fun hc => ?_) (fun hc => b_nil ?_)))
  · refine b_one (s_ret (w_bl (k0' ?_ G H2 (back _ _ (s1.trans s2)))))
    unfold tkB
    exact if_pos hc
  have s12 := s1.trans s2
  have hv2' := hv2.mono s2.g
  have h2A := s12.g _ _ haA
  have ht2 := htA.mono s12.g
  refine b_cons (s_if (t_pu (put_not (put_val (pu_all (bs := ws'.map fun x => decide (x ∈ hs)) (Pu.to (pu_lc1 3 (cd := PyData.str) (ns := ws') (src_list (pu_var 2 rfl hv2')) (fun x => .bool (decide (x ∈ hs))) (fun _ => true) scTTaken.nd
    (fun _ _ _ _ _ _ _ _ _ _ _ => puts_nil) (fun n hn _ v G2 g2 hv _ _ _ _ _ => pu_c (c_inST (pu_var 3 rfl hv) (pu_pv (pv_fld 0 rfl (g2 _ _ h2A) CD.cls CD.hands hlk) (ht2.mono g2).da))) (by omega)) ?e1) B.all))) s2.s fun G3 H3 s3 => ite2 (fun hc2 => ?_) (fun hc2 => b_nil ?_)))
  case e1 => rw [filter_tt, List.map_map]; rfl
  · refine b_one (s_ret (w_bl (k0' ?_ G H3 (back _ _ (s12.trans s3)))))
    unfold tkB
    exact (if_neg hc).trans (if_pos hc2)
  have s13 := s12.trans s3
  have hall : ∀ x ∈ ws', x ∈ hs := by
    intro x hx
    have h2 : ((ws'.map fun x => decide (x ∈ hs)).all id) = true := by
      cases q : ((ws'.map fun x => decide (x ∈ hs)).all id) with
      | true => rfl
      | false =>
        rw [q] at hc2
        exact (hc2 rfl).elim
    rw [List.all_map, List.all_eq_true] at h2
    exact of_decide_eq_true (h2 x hx)
  have hv3 := hv2'.mono s3.g
  have h3A := s13.g _ _ haA
  have ht3 := htA.mono s13.g
  refine b_cons (s_if (t_pu (put_not (put_val (pu_call hA hr (by decide) (pua_cons (Pu.to (pu_lc1 3 (cd := PyData.str) (ns := ws') (src_list (pu_var 2 rfl hv3)) (fun x => .int (idxS hs x)) (fun _ => true) scTTaken.nd
    (fun _ _ _ _ _ _ _ _ _ _ _ => puts_nil) (fun n hn _ v G2 g2 hv _ _ _ _ _ => pu_tidxE (pv_fld 0 rfl (g2 _ _ h3A) CD.cls CD.hands hlk) (ht3.mono g2) (pu_var 3 rfl hv) (hall n hn)) (by omega)) (d1 := .list (ofI (ws'.map (idxS hs)))) ?e2) pua_nil) ⟨ws'.map (idxS hs), rfl, by rw [List.length_map]; omega, rfl⟩ rfl))) s3.s fun G4 H4 s4 => ite2 (fun hc3 => ?_) (fun hc3 => b_nil ?_)))
  case e2 => rw [filter_tt]; simp [ofI]
  · refine b_one (s_ret (w_bl (k0' ?_ G H4 (back _ _ (s13.trans s4)))))
    unfold tkB
    exact (if_neg hc).trans ((if_neg hc2).trans (if_pos hc3))
  have s14 := s13.trans s4
  have hb : tkB hs (x0 :: ws') = true := by
    unfold tkB
    exact (if_neg hc).trans ((if_neg hc2).trans (if_neg hc3))
  have hv4 := hv3.mono s4.g
  have h4A := s14.g _ _ haA
  have ht4 := htA.mono s14.g
  refine b_cons (s_fld (w_lc [("name", 3)] (blkOk_by (by kernel_rfl)) scTTaken.nd (eLc_of (lc1 3 (cd := PyData.str) (ns := hs) (src_tup (pu_pv (pv_fld 0 rfl h4A CD.cls CD.hands hlk) ht4.da)) (fun x => optD (if decide (x ∈ ws') = true then some (-1) else none)) (fun _ => true) scTTaken.nd
    (fun _ _ _ _ _ _ _ _ _ _ _ => puts_nil) (fun n hn _ v G2 g2 hv _ _ _ _ _ => pu_if (put_c (c_inS (pu_var 3 rfl hv) (pu_var 2 rfl (hv4.mono g2)))) (fun h => Pu.to (pu_glob gh rh (.int (-1))) (by rw [if_pos h]; rfl)) (fun h => Pu.to pu_non (by rw [h]; rfl))) (by omega)) s4.s fun lh xs G5 H5 s5 glh hlh hxs hd5 => w_var 0 rfl ?_)))
  rw [filter_tt] at hd5
  have s15 := back _ _ (s14.trans s5)
  have ha5 := s15.keep ha (by simp)
  have hlh0 : H lh = none := (back _ _ s14).free hlh
  have nal : a ≠ lh := fun e => by rw [← e, ha] at hlh0; cases hlh0
  have gl0 : G lh = none := by
    cases q : G lh with
    | none => rfl
    | some o => rw [g _ _ q] at hlh0; cases hlh0
  have ex : xs = (holdO hs ws').map oV := by
    have e := Das.opts (os := holdO hs ws') (vs := xs) (K := K) (G := G5) (by
      have : (holdO hs ws').map optD = hs.map fun x => optD (if decide (x ∈ ws') = true then some (-1) else none) := by
        unfold holdO
        rw [List.map_map]
        rfl
      rw [this]
      exact hd5)
    exact e
  refine ⟨a, C, dx, fs, rfl, ha5, CD.cls, CD.holders, hfl, ?_⟩
  refine b_one (s_ret (w_bl (k1' hb lh G _ (s15.pure.trans (Step.mut s15.s ga ha5 (by simp))) hlh0 gl0 ?_ upd_same)))
  rw [upd_ne (Ne.symm nal), hxs, ex]
  rfl
end
end Mb

set_option Elab.async false
set_option linter.all false
set_option maxRecDepth 100000
set_option maxHeartbeats 2000000
namespace Mb
open PySem PySem.Spec PyProof.Rows L2 TL
theorem Das.ofOpts {K : PySem.W.Frag} {G : Hp} : ∀ (os : List (Option Int)), Das K G (os.map oV) (os.map optD)
  | [] => .nil
  | none :: os => .cons .non (Das.ofOpts os)
  | some i :: os => .cons (.int i) (Das.ofOpts os)
theorem getS {ws : List Str} {i : Nat} (h : i < ws.length) : (ofS ws)[i]? = some (.str (ws.getD i ⟨#[]⟩)) := by
  unfold ofS
  rw [List.getElem?_map, List.getElem?_eq_getElem h, List.getD_eq_getElem?_getD, List.getElem?_eq_getElem h]
  rfl
theorem idxOf_none_lt : ∀ {os : List (Option Int)} {m : Nat} {z : Option Int}, m < os.idxOf none → os[m]? = some z → z ≠ none
  | [], m, z, h, e => by simp at e
  | o :: os, 0, z, h, e => by
    intro hz
    subst hz
    have e' : o = none := by simpa using e
    subst e'
    simp at h
  | o :: os, m + 1, z, h, e => by
    have e' : os[m]? = some z := by simpa using e
    refine idxOf_none_lt (os := os) (m := m) ?_ e'
    rw [List.idxOf_cons] at h
    cases hq : (o == none) with
    | true => rw [hq] at h; simp at h
    | false => rw [hq] at h; simp at h; omega
section
variable {X : Cx} {σ : L2.St} {G G' H : Hp} {a b c e : Expr} {p px p2 pos apos : Pos} {l : Addr}
theorem pu_lidx {os : List (Option Int)} {j : Nat} (ha : Pv X a σ G (.ref l)) (hG : G l = some (.lst (os.map oV))) (hn : none ∈ os)
    (hbase : attributeBase a "index" X.env (eval a X.env) = eval a X.env := by rfl)
    (hfew : ((backTo pos (starEach [.Constant .none j p2] X.env)).all (fun x => !x.1) && (backToKw pos (keywordEach [] X.env)).all (fun x => x.1.isSome)
      && decide ([(.Constant .none j p2 : Expr)].length + ([] : List Keyword).length + (if ([] : List Keyword).isEmpty then 0 else 1) < 30)) = true := by rfl)
    (hline : (apos.endLine == pos.line) = true := by rfl) (hs1 : starEach [.Constant .none j p2] X.env = (false, eval (.Constant .none j p2) X.env) :: starEach [] X.env := by rfl) (hplain : (backTo pos (starEach [] X.env)).any (·.1) = false := by rfl) :
    Pu X (.Call (.Attribute a "index" apos) [.Constant .none j p2] [] pos) σ G (.int ((os.idxOf none : Nat) : Int)) := fun G1 H g s Q q => by
  have hl := s _ _ (g _ _ hG)
  refine w_bm PySem.F.plainAttrs_list PySem.F.slot_list_index PySem.F.type_list_index mt_index (ha H _ (g.trans s) ⟨.inl ⟨rfl, _, SqL.of hl⟩, a_cons (w_non (a_nil ?_)) hs1⟩) hbase hfew hline hs1 hplain
  have hlt : os.idxOf none < os.length := List.idxOf_lt_length_iff.mpr hn
  refine ⟨l, os.map oV, .non, os.idxOf none, .non, rfl, rfl, SqL.of hl, rfl, ?_, ?_, rfl, fun m z hm hz => ?_, q _ _ _ (Step.refl s) (.int _)⟩
  · rw [List.all_map, List.all_eq_true]
    intro o _
    cases o <;> rfl
  · rw [List.getElem?_map, List.getElem?_eq_getElem hlt, List.getElem_idxOf hlt]
    rfl
  · rw [List.getElem?_map] at hz
    obtain ⟨o, ho, rfl⟩ := Option.map_eq_some_iff.mp hz
    cases o with
    | none => exact (idxOf_none_lt hm ho rfl).elim
    | some i => rfl
end
theorem w_pv {X : Cx} {σ : L2.St} {G H : Hp} {e : Expr} {v : V} {Q : VK} (h : Pv X e σ G v) (g : Same G H) (q : Q v H) : eE X e σ H Q := h H Q g q
def rtB (hs : List Str) (hos : List (Option Int)) (ws : List Str) : Bool :=
  if (!decide ((ws.length : Int) = 3) || (!decide (ws.getD 0 ⟨#[]⟩ = ("right" : Str)) || !decide (ws.getD 1 ⟨#[]⟩ = hs.getD (hos.idxOf none) ⟨#[]⟩))) = true then false
  else if (!decide (ws.getD 2 ⟨#[]⟩ ∈ hs)) = true then false
  else if (!decide ((hos[hs.idxOf (ws.getD 2 ⟨#[]⟩)]?).join = some (-1))) = true then false
  else true
section
variable {P : Program} {w : World} {K : PySem.W.Frag} {mg : Str → Option Value} {base : Heap}
theorem scTRight : FnScope ["draft", "words", "hand", "owner"] ["draft", "words"] (defScope sTakesRight) := ⟨rfl, rfl, rfl, by decide +kernel, rfl, by decide +kernel, by decide +kernel⟩
def spRight (K : PySem.W.Frag) (C : Addr) : Sp := fun vs H Q _ => ∃ G a dx fs vh hs lh hos v1 ws, vs = [.ref a, v1] ∧ Same G H ∧ G a = none ∧ H a = some (.ins C dx fs) ∧ fs.lookup ("hands" : Str) = some vh ∧ TupF K G vh (ofS hs) ∧ fs.lookup ("holders" : Str) = some (.ref lh) ∧ G lh = none ∧ H lh = some (.lst (hos.map oV)) ∧ hos.length = hs.length ∧ none ∈ hos ∧ Da K G v1 (.list (ofS ws)) ∧
  (rtB hs hos ws = false → ∀ H', Step [] G H G H' → Q (.bl false) H') ∧ (rtB hs hos ws = true → ∀ H', Step [lh] G H G H' → H' lh = some (.lst ((hos.set (hos.idxOf none) (some (idxS hs (ws.getD 2 ⟨#[]⟩)))).map oV)) → Q (.bl true) H')
theorem spRight_len {K : PySem.W.Frag} {C : Addr} : ∀ vs H Q E, spRight K C vs H Q E → vs.length = 2 := fun vs H Q E ⟨G, a, dx, fs, vh, hs, lh, hos, v1, ws, h, _⟩ => by rw [h]; rfl
theorem has_tright {C : Addr} (CD : ClsD K C) (T : Top1 K mg "takes_right" sTakesRight ["draft", "words"]) (B : Blt mg) (L : Glb K mg) : Has P w K mg base "takes_right" 1 2 (spRight K C) := by
  refine mkHas (k := 0) T scTRight spRight_len fun f cdv A outer s H vs Q E hr h => ?_
  obtain ⟨G, a, dx, fs, vh, hs, lh, hos, v1, ws, rfl, g, ga, ha, hlk, ht, hlk2, gl, hlh, hlen, hnn, d1, k0, k1⟩ := h
  obtain ⟨uh, gh, rh⟩ := L.here
  have nal : a ≠ lh := fun e => by rw [e, hlh] at ha; cases ha
  let GA := upd (upd G a (.ins C dx fs)) lh (.lst (hos.map oV))
  have gA : Same GA H := stillS (stillS g ha) hlh
  have uA : Same G GA := (Same.toUpd ga).trans (Same.toUpd (by rw [upd_ne (Ne.symm nal)]; exact gl))
  have haA : GA a = some (.ins C dx fs) := by show upd _ lh _ a = _; rw [upd_ne nal]; exact upd_same
  have hlA : GA lh = some (.lst (hos.map oV)) := upd_same
  have htA := ht.mono uA
  have back : ∀ G' H', Step [] GA H G' H' → Step [] G H G H' := fun G' H' s => s.reG g (by simp)
  have d1A := d1.mono uA
  have el : (ofS ws).length = ws.length := by simp [ofS]
  have hlt : hos.idxOf none < hos.length := List.idxOf_lt_length_iff.mpr hnn
  have hnoid : ¬ ((none : Option Int) = some (-1)) := fun e => by cases e
  refine b_cons (s_set 2 scTRight.nd (w_pu (pu_lidx (pv_fld 0 rfl haA CD.cls CD.holders hlk2) hlA hnn) gA fun v2 G1 H1 s1 hv2 => ?_))
  obtain rfl := hv2.int_inv
  have h1A := s1.g _ _ haA
  have ht1 := htA.mono s1.g
  have d11 := d1A.mono s1.g
  refine b_cons (s_if (t_pu (put_w (puw_or (put_c (c_neI (i := (ws.length : Int)) (Pu.to (pu_lenL (pu_var 1 rfl d11) B.len) (by rw [el])) pu_int)) fun hk => puw_or (put_c (c_neS (i := ws.getD 0 ⟨#[]⟩) (pu_ixL (i := 0) (pu_var 1 rfl d11) pu_int (by decide) (getS (by
    have : (ws.length : Int) = 3 := by simpa using hk
    show 0 < ws.length
    omega))) pu_str)) fun _ => puw_or1 (put_c (c_neS (i := ws.getD 1 ⟨#[]⟩) (pu_ixL (i := 1) (pu_var 1 rfl d11) pu_int (by decide) (getS (by
    have : (ws.length : Int) = 3 := by simpa using hk
    show 1 < ws.length
    omega))) (pu_ixT (i := ((hos.idxOf none : Nat) : Int)) (pu_pv (pv_fld 0 rfl h1A CD.cls CD.hands hlk) ht1.da) (pu_var 2 rfl (.int _)) (by omega) (getS (by omega))))))) s1.s fun G2 H2 s2 => ite2 (fun hc => ?_) (fun hc => b_nil ?_)))
  · refine b_one (s_ret (w_bl (k0 ?_ H2 (back _ _ (s1.trans s2)))))
    unfold rtB
    exact if_pos hc
  have hc' : ¬ ((!decide ((ws.length : Int) = 3) || (!decide (ws.getD 0 ⟨#[]⟩ = ("right" : Str)) || !decide (ws.getD 1 ⟨#[]⟩ = hs.getD (hos.idxOf none) ⟨#[]⟩))) = true) := hc
  have w3 : ws.length = 3 := by
    cases q : decide ((ws.length : Int) = 3) with
    | true => have := of_decide_eq_true q; omega
    | false => rw [q] at hc'; exact (hc' rfl).elim
  have s12 := s1.trans s2
  have h2A := s12.g _ _ haA
  have ht2 := htA.mono s12.g
  have d12 := d11.mono s2.g
  refine b_cons (s_if (t_pu (put_c (c_ninST (n := ws.getD 2 ⟨#[]⟩) (pu_ixL (i := 2) (pu_var 1 rfl d12) pu_int (by decide) (getS (by show 2 < ws.length; omega))) (pu_pv (pv_fld 0 rfl h2A CD.cls CD.hands hlk) ht2.da))) s2.s fun G3 H3 s3 => ite2 (fun hc2 => ?_) (fun hc2 => b_nil ?_)))
  · refine b_one (s_ret (w_bl (k0 ?_ H3 (back _ _ (s12.trans s3)))))
    unfold rtB
    exact (if_neg hc').trans (if_pos hc2)
  have hin : ws.getD 2 ⟨#[]⟩ ∈ hs := by
    cases q : decide (ws.getD 2 ⟨#[]⟩ ∈ hs) with
    | true => exact of_decide_eq_true q
    | false => rw [q] at hc2; exact (hc2 rfl).elim
  have s13 := s12.trans s3
  have h3A := s13.g _ _ haA
  have ht3 := htA.mono s13.g
  have d13 := d12.mono s3.g
  refine b_cons (s_set 3 scTRight.nd (w_pu (pu_tidxE (y := ws.getD 2 ⟨#[]⟩) (pv_fld 0 rfl h3A CD.cls CD.hands hlk) ht3 (pu_ixL (i := 2) (pu_var 1 rfl d13) pu_int (by decide) (getS (by show 2 < ws.length; omega))) hin) s3.s fun v4 G4 H4 s4 hv4 => ?_))
  obtain rfl := hv4.int_inv
  have s14 := s13.trans s4
  have h4A := s14.g _ _ haA
  have hl4 := s14.g _ _ hlA
  have hil : hs.idxOf (ws.getD 2 ⟨#[]⟩) < hs.length := List.idxOf_lt_length_iff.mpr hin
  have hget : hos[hs.idxOf (ws.getD 2 ⟨#[]⟩)]? = some (hos[hs.idxOf (ws.getD 2 ⟨#[]⟩)]'(by omega)) := List.getElem?_eq_getElem (by omega)
  refine b_cons (s_if (t_pu (put_c (c_neO (o := (hos[hs.idxOf (ws.getD 2 ⟨#[]⟩)]?).join) (o' := some (-1)) (pu_ixL (i := idxS hs (ws.getD 2 ⟨#[]⟩)) (pu_pv (pv_fld 0 rfl h4A CD.cls CD.holders hlk2) (.lst hl4 (Das.ofOpts hos))) (pu_var 3 rfl (.int _)) (by unfold idxS; omega) (by
    unfold idxS
    rw [List.getElem?_map, Int.toNat_natCast, hget]
    rfl)) (pu_glob gh rh (.int (-1))))) s4.s fun G5 H5 s5 => ite2 (fun hc3 => ?_) (fun hc3 => b_nil ?_)))
  · refine b_one (s_ret (w_bl (k0 ?_ H5 (back _ _ (s14.trans s5)))))
    unfold rtB
    exact (if_neg hc').trans ((if_neg hc2).trans (if_pos hc3))
  have hb : rtB hs hos ws = true := by
    unfold rtB
    exact (if_neg hc').trans ((if_neg hc2).trans (if_neg hc3))
  have s15 := s14.trans s5
  have h5A := s15.g _ _ haA
  have st := back _ _ s15
  have hl5 := st.keep hlh (by simp)
  refine b_cons (s_asg (w_var 3 rfl (g_sub (w_pv (pv_fld 0 rfl h5A CD.cls CD.holders hlk2) s15.s (w_var 2 rfl ⟨lh, hos.map oV, _, hos.idxOf none, rfl, rfl, hl5, ?_, ?_⟩)))))
  · rw [List.length_map]
    unfold ixN
    rw [if_pos (by omega), if_pos (by omega)]
    simp
  · refine b_one (s_ret (w_bl (k1 hb _ (st.pure.trans (Step.mut st.s gl hl5 (by simp))) ?_)))
    rw [upd_same, List.map_set]
    rfl
end
end Mb

set_option Elab.async false
set_option linter.all false
set_option maxRecDepth 100000
set_option maxHeartbeats 2000000
namespace Mb
open PySem PySem.Spec PyProof.Rows L2 TL
section
variable {X : Cx} {σ : L2.St} {G H : Hp} {a b c e : Expr} {p px p2 pos : Pos} {l : Addr} {vs : List V} {Q : VK}
theorem w_appendE {apos cpos : Pos} (ha : Pv X a σ G (.ref l)) (g : Same G H) (h0 : H l = some (.lst vs)) (q : eE X e σ H fun y H2 => eA X [] σ H2 fun xs H3 => rAppend (.ref l) (y :: xs) H3 Q)
    (hbase : attributeBase a "append" X.env (eval a X.env) = eval a X.env := by rfl)
    (hfew : ((backTo cpos (starEach (e :: []) X.env)).all (fun x => !x.1) && (backToKw cpos (keywordEach [] X.env)).all (fun x => x.1.isSome)
      && decide ((e :: ([] : List Expr)).length + ([] : List Keyword).length + (if ([] : List Keyword).isEmpty then 0 else 1) < 30)) = true := by rfl)
    (hline : (apos.endLine == cpos.line) = true := by rfl) (hs : starEach (e :: []) X.env = (false, eval e X.env) :: starEach [] X.env := by rfl) (hplain : (backTo cpos (starEach [] X.env)).any (·.1) = false := by rfl) :
    eE X (.Call (.Attribute a "append" apos) [e] [] cpos) σ H Q :=
  w_bm PySem.F.plainAttrs_list PySem.F.slot_list_append PySem.F.type_list_append mt_append (w_pv ha g ⟨.inl ⟨rfl, _, SqL.of h0⟩, a_cons q hs⟩) hbase hfew hline hs hplain
end
theorem Pu.toA {X : Cx} {σ : L2.St} {G : Hp} {es : List Expr} {ds ds' : List Dt} (h : PuA X es σ G ds) (e : ds = ds') : PuA X es σ G ds' := e ▸ h
def mtB (hs : List Str) (kks : List Kd) (ws : List Str) : Option Kd :=
  if (decide ((kks.length : Int) = 8) || (decide ((ws.length : Int) < 2) || !decide (ws.getD 0 ⟨#[]⟩ = ("meet" : Str)))) = true then none
  else if (!(nmB (ws.getD 1 ⟨#[]⟩) && !decide (ws.getD 1 ⟨#[]⟩ ∈ resS)) || decide (ws.getD 1 ⟨#[]⟩ ∈ kks.map (·.nm))) = true then none
  else match ctB hs (ws.drop 2) with
    | none => none
    | some (cs, b, e, g) => some ⟨ws.getD 1 ⟨#[]⟩, cs, b, e, g⟩
section
variable {P : Program} {w : World} {K : PySem.W.Frag} {mg : Str → Option Value} {base : Heap}
abbrev HComers (P w K mg base) := Has P w K mg base "comers_told" 2 2 (spCT K)
theorem scTMeet : FnScope ["draft", "words", "name", "told", "kind"] ["draft", "words"] (defScope sTakesMeet) := ⟨rfl, rfl, rfl, by decide +kernel, rfl, by decide +kernel, by decide +kernel⟩
def spMeet (K : PySem.W.Frag) (C : Addr) : Sp := fun vs H Q _ => ∃ G a dx fs vh hs lk vks kks v1 ws, vs = [.ref a, v1] ∧ Same G H ∧ G a = none ∧ H a = some (.ins C dx fs) ∧ fs.lookup ("hands" : Str) = some vh ∧ TupF K G vh (ofS hs) ∧ hs.length ≤ 1000 ∧ fs.lookup ("kinds" : Str) = some (.ref lk) ∧ G lk = none ∧ H lk = some (.lst vks) ∧ Das K G vks (kks.map kdD) ∧ kks.length ≤ 100 ∧ Da K G v1 (.list (ofS ws)) ∧ Wds ws ∧
  (mtB hs kks ws = none → ∀ H', Step [] G H G H' → Q (.bl false) H') ∧ (∀ kd, mtB hs kks ws = some kd → ∀ vk G' H', Step [lk] G H G' H' → G' lk = none → Da K G' vk (kdD kd) → H' lk = some (.lst (vks ++ [vk])) → Q (.bl true) H')
theorem spMeet_len {K : PySem.W.Frag} {C : Addr} : ∀ vs H Q E, spMeet K C vs H Q E → vs.length = 2 := fun vs H Q E ⟨G, a, dx, fs, vh, hs, lk, vks, kks, v1, ws, h, _⟩ => by rw [h]; rfl
theorem has_tmeet {C : Addr} (CD : ClsD K C) (T : Top1 K mg "takes_meet" sTakesMeet ["draft", "words"]) (B : Blt mg) (L : Glb K mg) (hC : HCalled P w K mg base) (hT : HComers P w K mg base) : Has P w K mg base "takes_meet" 3 2 (spMeet K C) := by
  refine mkHas (k := 2) T scTMeet spMeet_len fun f cdv A outer s H vs Q E hr h => ?_
  obtain ⟨G, a, dx, fs, vh, hs, lk, vks, kks, v1, ws, rfl, g, ga, ha, hlk, ht, hsl, hlk2, gl, hlh, hdk, hkl, d1, ⟨hw0, hwl, hwo, hwx⟩, k0, k1⟩ := h
  obtain ⟨um, gm, rm⟩ := L.mostK
  have nal : a ≠ lk := fun e => by rw [e, hlh] at ha; cases ha
  let GA := upd (upd G a (.ins C dx fs)) lk (.lst vks)
  have gA : Same GA H := stillS (stillS g ha) hlh
  have uA : Same G GA := (Same.toUpd ga).trans (Same.toUpd (by rw [upd_ne (Ne.symm nal)]; exact gl))
  have haA : GA a = some (.ins C dx fs) := by show upd _ lk _ a = _; rw [upd_ne nal]; exact upd_same
  have hlA : GA lk = some (.lst vks) := upd_same
  have htA := ht.mono uA
  have hkA : Da K GA (.ref lk) (.list (kks.map kdD)) := .lst hlA (hdk.mono uA)
  have back : ∀ G' H', Step [] GA H G' H' → Step [] G H G H' := fun G' H' s => s.reG g (by simp)
  have d1A := d1.mono uA
  have el : (ofS ws).length = ws.length := by simp [ofS]
  have ek : (kks.map kdD).length = kks.length := by simp
  refine b_cons (s_if (t_pu (put_w (puw_or (put_c (c_eqI (i := (kks.length : Int)) (Pu.to (pu_lenL (pu_pv (pv_fld 0 rfl haA CD.cls CD.kinds hlk2) hkA) B.len) (by rw [ek])) (pu_glob gm rm (.int 8)))) fun _ => puw_or (put_c (c_lt (i := (ws.length : Int)) (Pu.to (pu_lenL (pu_var 1 rfl d1A) B.len) (by rw [el])) pu_int)) fun hk => puw_or1 (put_c (c_neS (i := ws.getD 0 ⟨#[]⟩) (pu_ixL (i := 0) (pu_var 1 rfl d1A) pu_int (by decide) (getS (by
    have := of_decide_eq_false hk
    show 0 < ws.length
    omega))) pu_str)))) gA fun G1 H1 s1 => ite2 (fun hc => ?_) (fun hc => b_nil ?_)))
  · refine b_one (s_ret (w_bl (k0 ?_ H1 (back _ _ s1))))
    unfold mtB
    exact if_pos hc
  have hc' : ¬ ((decide ((kks.length : Int) = 8) || (decide ((ws.length : Int) < 2) || !decide (ws.getD 0 ⟨#[]⟩ = ("meet" : Str)))) = true) := hc
  have w2 : 2 ≤ ws.length := by
    cases q : decide ((ws.length : Int) < 2) with
    | false => have := of_decide_eq_false q; omega
    | true => rw [q] at hc'; exact (hc' (by simp)).elim
  have h1A := s1.g _ _ haA
  have d11 := d1A.mono s1.g
  have hk1 := hkA.mono s1.g
  refine b_cons (s_set 2 scTMeet.nd (w_pu (pu_ixL (i := 1) (d := .str (ws.getD 1 ⟨#[]⟩)) (pu_var 1 rfl d11) pu_int (by decide) (getS (by show 1 < ws.length; omega))) s1.s fun v2 G2 H2 s2 hv2 => ?_))
  have s12 := s1.trans s2
  have h2A := s12.g _ _ haA
  have hk2 := hk1.mono s2.g
  have hw1 : (ws.getD 1 ⟨#[]⟩).length < 100000 := hwx _ (by
    rw [List.getD_eq_getElem?_getD, List.getElem?_eq_getElem (show 1 < ws.length by omega)]
    exact List.getElem_mem _)
  refine b_cons (s_if (t_pu (put_w (puw_or (put_not (put_val (pu_call hC hr (by decide) (pua_cons (pu_var 2 rfl hv2) pua_nil) ⟨_, rfl, hw1, rfl⟩ rfl))) fun _ => puw_or1 (put_c (c_inS (n := ws.getD 1 ⟨#[]⟩) (ns := kks.map (·.nm)) (pu_var 2 rfl hv2) (Pu.to (pu_lc1 4 (cd := kdD) (ns := kks) (src_list (pu_pv (pv_fld 0 rfl h2A CD.cls CD.kinds hlk2) hk2)) (fun q => .str q.nm) (fun _ => true) scTMeet.nd
    (fun _ _ _ _ _ _ _ _ _ _ _ => puts_nil) (fun n hn _ v G2 g2 hv _ _ _ _ _ => pu_ixT (i := 0) (pu_var 4 rfl hv) pu_int (by decide) rfl) (by omega)) ?e1))))) s2.s fun G3 H3 s3 => ite2 (fun hc2 => ?_) (fun hc2 => b_nil ?_)))
  case e1 => rw [filter_tt]; simp [ofS]
  · refine b_one (s_ret (w_bl (k0 ?_ H3 (back _ _ (s12.trans s3)))))
    unfold mtB
    exact (if_neg hc').trans (if_pos hc2)
  have s13 := s12.trans s3
  have h3A := s13.g _ _ haA
  have st3 := back _ _ s13
  obtain rfl := hv2.str_inv
  refine b_cons (s_set 3 scTMeet.nd (w_call hT hr (by decide) (a_cons (w_pv (pv_fld 0 rfl h3A CD.cls CD.hands hlk) s13.s (a_cons (w_pu (d := .list (ofS (ws.drop 2))) (Pu.to (pu_slL (pu_var 1 rfl d1) (puo_some pu_int) puo_none) ?e2) st3.s fun v4 G4 H4 s4 hv4 => a_nil ⟨G4, hs, ws.drop 2, vh, v4, rfl, fun x hx => hwo x (List.mem_of_mem_drop hx), s4.s, ht.mono s4.g, hv4, hsl, by rw [List.length_drop]; omega, fun v5 G5 H5 s5 hv5 => ?_⟩))))))
  case e2 =>
    rw [show (2 : Int) = ((2 : Nat) : Int) from rfl, cutD_dropN]
    simp [ofS]
  have s15 := st3.trans (s4.trans s5)
  generalize hct : ctB hs (ws.drop 2) = ct at hv5
  refine b_cons (s_if (t_pu (put_c (c_isN ct.isNone (pu_var 3 rfl hv5) fun G' v' _ hv' => ?isn)) s5.s fun G6 H6 s6 => ite2 (fun hc3 => ?_) (fun hc3 => b_nil ?_)))
  case isn =>
    cases ct with
    | none =>
      obtain rfl := Da.non_inv hv'
      rfl
    | some q =>
      obtain ⟨cs, b, e, gv⟩ := q
      obtain ⟨l', vs', rfl, _⟩ := Da.tup_inv hv'
      rfl
  · refine b_one (s_ret (w_bl (k0 ?_ H6 ((s15.trans s6).reG g (by simp)))))
    have hn : ct = none := by
      cases ct with
      | none => rfl
      | some q => cases hc3
    unfold mtB
    refine (if_neg hc').trans ((if_neg hc2).trans ?_)
    rw [hct, hn]
  obtain ⟨cs, b, e, gv, rfl⟩ : ∃ cs b e gv, ct = some (cs, b, e, gv) := by
    cases ct with
    | none => exact (hc3 rfl).elim
    | some q => exact ⟨_, _, _, _, rfl⟩
  have s16 := s15.trans s6
  have ha6 := s16.keep ha (by simp)
  have hl16 := s16.keep hlh (by simp)
  have gl6 := s16.out gl hlh
  refine b_cons (s_expr (w_appendE (pv_fld (G := upd G6 a (.ins C dx fs)) 0 rfl upd_same CD.cls CD.kinds hlk2) (stillS s16.s ha6) hl16 (w_pu (d := kdD ⟨ws.getD 1 ⟨#[]⟩, cs, b, e, gv⟩) (pu_tup (pua_cons (pu_var 2 rfl (.str _)) (Pu.toA (pua_starT (pu_var 3 rfl (hv5.mono s6.g)) pua_nil) rfl))) s16.s fun v7 G7 H7 s7 hv7 => a_nil ?_)))
  have hkl' := hdk.length
  rw [List.length_map] at hkl'
  have s17 := s16.trans s7
  have hl17 := s7.keep hl16 (by simp)
  have gl7 := s7.out gl6 hl16
  have hm : mtB hs kks ws = some ⟨ws.getD 1 ⟨#[]⟩, cs, b, e, gv⟩ := by
    unfold mtB
    refine (if_neg hc').trans ((if_neg hc2).trans ?_)
    rw [hct]
  refine rAppend_q (xs := vks) hl17 (by omega) (b_one (s_ret (w_bl (k1 _ hm v7 G7 _ (s17.pure.trans (Step.mut s17.s gl7 hl17 (by simp))) gl7 hv7 upd_same))))
end
end Mb

set_option Elab.async false
set_option linter.all false
set_option maxRecDepth 100000
set_option maxHeartbeats 2000000
namespace Mb
open PySem PySem.Spec PyProof.Rows L2 TL
/-- what a draft holds -/
structure Dr where
  hs : List Str
  hos : List (Option Int)
  kks : List Kd
def DrAt (K : PySem.W.Frag) (C : Addr) (G H : Hp) (a dx lh lk : Addr) (d : Dr) : Prop := ∃ vh vks, H a = some (.ins C dx [("hands", vh), ("holders", .ref lh), ("kinds", .ref lk)]) ∧ G a = none ∧ Da K G vh (.tuple (ofS d.hs)) ∧ (d.hs ≠ [] → TupF K G vh (ofS d.hs)) ∧
  H lh = some (.lst (d.hos.map oV)) ∧ G lh = none ∧ H lk = some (.lst vks) ∧ G lk = none ∧ Das K G vks (d.kks.map kdD) ∧ lh ≠ lk
structure DrOk (d : Dr) : Prop where
  h : d.hs.length ≤ 1000
  o : d.hos = [] ∨ d.hos.length = d.hs.length
  k : d.kks.length ≤ 100
def lineD (d : Dr) (ws : List Str) : Option Dr :=
  if d.hs = [] then (if hdB ws = true then some ⟨ws.drop 1, d.hos, d.kks⟩ else none)
  else if d.hos = [] then (if tkB d.hs ws = true then some ⟨d.hs, holdO d.hs (ws.drop 1), d.kks⟩ else none)
  else if none ∈ d.hos then (if rtB d.hs d.hos ws = true then some ⟨d.hs, d.hos.set (d.hos.idxOf none) (some (idxS d.hs (ws.getD 2 ⟨#[]⟩))), d.kks⟩ else none)
  else (mtB d.hs d.kks ws).map fun q => ⟨d.hs, d.hos, d.kks ++ [q]⟩
theorem inN (os : List (Option Int)) : inV .non (os.map oV) = decide (none ∈ os) := by
  induction os with
  | nil => rfl
  | cons o os ih =>
    unfold inV at ih ⊢
    rw [List.map_cons, List.any_cons, ih]
    cases o with
    | none =>
      have : decide ((none : Option Int) ∈ none :: os) = true := decide_eq_true (by simp)
      rw [this]
      rfl
    | some i =>
      have : decide ((none : Option Int) ∈ some i :: os) = decide (none ∈ os) := by simp
      rw [this]
      rfl
section
variable {X : Cx} {σ : L2.St} {G H : Hp} {a b : Expr} {p pos : Pos}
/-- None in a list of ints and None -/
theorem c_inN {os : List (Option Int)} (ha : Pu X a σ G .none) (hb : Pu X b σ G (.list (os.map optD))) (hm : behindInMarks .In b = false := by rfl) : PuC X .In a b σ G (decide (none ∈ os)) :=
  ⟨_, _, _, op_in_seq, ha, hb, rv_in (neg := false) (v0 := .non) (vs0 := os.map oV) (fun _ _ _ h => h.non_inv) (fun G1 v _ h => by
    obtain ⟨l, vs, rfl, h1, h2⟩ := h.lst_inv
    exact ⟨l, vs, rfl, .inl (SqL.of h1), h2.opts⟩) rfl (by
      rw [List.all_map, List.all_eq_true]
      intro o _
      cases o <;> rfl) (inN os), hm⟩
end
section
variable {P : Program} {w : World} {K : PySem.W.Frag} {mg : Str → Option Value} {base : Heap}
theorem scTLine : FnScope ["draft", "words"] ["draft", "words"] (defScope sTakesLine) := ⟨rfl, rfl, rfl, by decide +kernel, rfl, by decide +kernel, by decide +kernel⟩
def spLine (K : PySem.W.Frag) (C : Addr) : Sp := fun vs H Q _ => ∃ G a dx lh lk d v1 ws, vs = [.ref a, v1] ∧ Same G H ∧ DrAt K C G H a dx lh lk d ∧ DrOk d ∧ Da K G v1 (.list (ofS ws)) ∧ Wds ws ∧
  (lineD d ws = none → ∀ H', Step [] G H G H' → Q (.bl false) H') ∧ (∀ d', lineD d ws = some d' → ∀ lh' G' H', Step [a, lh, lk] G H G' H' → (lh' = lh ∨ H lh' = none) → DrAt K C G' H' a dx lh' lk d' → Q (.bl true) H')
theorem spLine_len {K : PySem.W.Frag} {C : Addr} : ∀ vs H Q E, spLine K C vs H Q E → vs.length = 2 := fun vs H Q E ⟨G, a, dx, lh, lk, d, v1, ws, h, _⟩ => by rw [h]; rfl
theorem has_tline {C : Addr} (CD : ClsD K C) (T : Top1 K mg "takes_line" sTakesLine ["draft", "words"]) (B : Blt mg) (h1 : Has P w K mg base "takes_hands" 3 2 (spHands K C)) (h2 : Has P w K mg base "takes_taken" 2 2 (spTaken K C)) (h3 : Has P w K mg base "takes_right" 1 2 (spRight K C)) (h4 : Has P w K mg base "takes_meet" 3 2 (spMeet K C)) : Has P w K mg base "takes_line" 4 2 (spLine K C) := by
  refine mkHas (k := 3) T scTLine spLine_len fun f cdv A outer s H vs Q E hr h => ?_
  obtain ⟨G, a, dx, lh, lk, d, v1, ws, rfl, g, ⟨vh, vks, ha, ga, dvh, hth, hlh, gl, hlk, gk, hdk, nlk⟩, ⟨dh, dho, dk⟩, d1, hw, k0, k1⟩ := h
  have nal : a ≠ lh := fun e => by rw [e, hlh] at ha; cases ha
  have nak : a ≠ lk := fun e => by rw [e, hlk] at ha; cases ha
  let GA := upd (upd G a (.ins C dx [("hands", vh), ("holders", .ref lh), ("kinds", .ref lk)])) lh (.lst (d.hos.map oV))
  have gA : Same GA H := stillS (stillS g ha) hlh
  have uA : Same G GA := (Same.toUpd ga).trans (Same.toUpd (by rw [upd_ne (Ne.symm nal)]; exact gl))
  have haA : GA a = some (.ins C dx [("hands", vh), ("holders", .ref lh), ("kinds", .ref lk)]) := by show upd _ lh _ a = _; rw [upd_ne nal]; exact upd_same
  have hlA : GA lh = some (.lst (d.hos.map oV)) := upd_same
  have hhA : Da K GA (.ref lh) (.list (d.hos.map optD)) := .lst hlA (Das.ofOpts _)
  have back : ∀ G' H', Step [] GA H G' H' → Step [] G H G H' := fun G' H' s => s.reG g (by simp)
  have eh : (ofS d.hs).length = d.hs.length := by simp [ofS]
  have eo : (d.hos.map optD).length = d.hos.length := by simp
  have hz : ∀ {α : Type} (l : List α), decide ((l.length : Int) = 0) = true ↔ l = [] := fun l => by
    rw [decide_eq_true_eq]
    constructor
    · intro h; exact List.length_eq_zero_iff.mp (by omega)
    · rintro rfl; rfl
  refine b_cons (s_if (t_pu (put_c (c_eqI (i := (d.hs.length : Int)) (Pu.to (pu_lenT (pu_pv (pv_fld 0 rfl haA CD.cls CD.hands rfl) (dvh.mono uA)) B.len) (by rw [eh])) pu_int)) gA fun G1 H1 s1 => ite2 (fun hc => ?_) (fun hc => b_nil ?_)))
  · have hh := (hz _).mp hc
    have st := back _ _ s1
    refine b_one (s_ret (w_call h1 hr (by decide) (a_cons (w_var 0 rfl (a_cons (w_var 1 rfl (a_nil ⟨G, a, dx, _, v1, ws, rfl, st.s, ga, st.keep ha (by simp), by show 3 < 1000; decide, d1, hw, fun hb G' H' s' => k0 ?_ H' ((st.trans s').reG g (by simp)), fun hb vt G' H' s' ht hd => ?_⟩)))))))
    · unfold lineD
      rw [if_pos hh, if_neg (by rw [hb]; exact Bool.false_ne_true)]
    · refine k1 ⟨ws.drop 1, d.hos, d.kks⟩ ?_ lh G' H' (st.pure.trans (s'.weak (by simp))) (.inl rfl) ⟨vt, vks, hd, (st.pure.trans s').out ga ha, ht.da, fun _ => ht, ?_, ?_, ?_, ?_, ?_, nlk⟩
      · unfold lineD
        rw [if_pos hh, if_pos hb]
      · exact (st.pure.trans s').keep hlh (by simp; exact fun e => nal e.symm)
      · exact (st.pure.trans s').out gl hlh
      · exact (st.pure.trans s').keep hlk (by simp; exact fun e => nak e.symm)
      · exact (st.pure.trans s').out gk hlk
      · exact hdk.mono (st.pure.trans s').g
  have hh : d.hs ≠ [] := fun e => hc ((hz _).mpr e)
  have ht := hth hh
  refine b_cons (s_if (t_pu (put_c (c_eqI (i := (d.hos.length : Int)) (Pu.to (pu_lenL (pu_pv (pv_fld 0 rfl (s1.g _ _ haA) CD.cls CD.holders rfl) (hhA.mono s1.g)) B.len) (by rw [eo])) pu_int)) s1.s fun G2 H2 s2 => ite2 (fun hc => ?_) (fun hc => b_nil ?_)))
  · have ho := (hz _).mp hc
    have st := back _ _ (s1.trans s2)
    refine b_one (s_ret (w_call h2 hr (by decide) (a_cons (w_var 0 rfl (a_cons (w_var 1 rfl (a_nil ⟨G, a, dx, _, vh, d.hs, v1, ws, rfl, st.s, ga, st.keep ha (by simp), by show 3 < 1000; decide, rfl, ht, dh, d1, hw, fun hb G' H' s' => k0 ?_ H' ((st.trans s').reG g (by simp)), fun hb lh' G' H' s' hn gn hl' hd => ?_⟩)))))))
    · unfold lineD
      rw [if_neg hh, if_pos ho, if_neg (by rw [hb]; exact Bool.false_ne_true)]
    · have sf := st.pure.trans s'
      have hlkS := st.keep hlk (by simp)
      refine k1 ⟨d.hs, holdO d.hs (ws.drop 1), d.kks⟩ ?_ lh' G' H' (sf.weak (by simp)) (.inr (st.free hn)) ⟨vh, vks, hd, sf.out ga ha, dvh.mono sf.g, fun _ => ht.mono sf.g, hl', gn, ?_, ?_, ?_, fun e => by rw [← e, hn] at hlkS; cases hlkS⟩
      · unfold lineD
        rw [if_neg hh, if_pos ho, if_pos hb]
      · exact sf.keep hlk (by simp; exact fun e => nak e.symm)
      · exact sf.out gk hlk
      · exact hdk.mono sf.g
  have ho : d.hos ≠ [] := fun e => hc ((hz _).mpr e)
  have hol : d.hos.length = d.hs.length := dho.resolve_left ho
  have s12 := s1.trans s2
  refine b_cons (s_if (t_pu (put_c (c_inN pu_non (pu_pv (pv_fld 0 rfl (s12.g _ _ haA) CD.cls CD.holders rfl) (hhA.mono s12.g)))) s2.s fun G3 H3 s3 => ite2 (fun hc => ?_) (fun hc => b_nil ?_)))
  · have hnn : none ∈ d.hos := of_decide_eq_true hc
    have st := back _ _ (s12.trans s3)
    refine b_one (s_ret (w_call h3 hr (by decide) (a_cons (w_var 0 rfl (a_cons (w_var 1 rfl (a_nil ⟨G, a, dx, _, vh, d.hs, lh, d.hos, v1, ws, rfl, st.s, ga, st.keep ha (by simp), rfl, ht, rfl, gl, st.keep hlh (by simp), hol, hnn, d1, fun hb H' s' => k0 ?_ H' (st.trans s'), fun hb H' s' hl' => ?_⟩)))))))
    · unfold lineD
      rw [if_neg hh, if_neg ho, if_pos hnn, if_neg (by rw [hb]; exact Bool.false_ne_true)]
    · have sf := st.pure.trans s'
      refine k1 ⟨d.hs, d.hos.set (d.hos.idxOf none) (some (idxS d.hs (ws.getD 2 ⟨#[]⟩))), d.kks⟩ ?_ lh G H' (sf.weak (by simp)) (.inl rfl) ⟨vh, vks, sf.keep ha (by simp; exact nal), ga, dvh, fun _ => ht, hl', gl, ?_, gk, hdk, nlk⟩
      · unfold lineD
        rw [if_neg hh, if_neg ho, if_pos hnn, if_pos hb]
      · exact sf.keep hlk (by simpa using Ne.symm nlk)
  have hnn : ¬ none ∈ d.hos := fun e => hc (decide_eq_true e)
  have st := back _ _ (s12.trans s3)
  refine b_one (s_ret (w_call h4 hr (by decide) (a_cons (w_var 0 rfl (a_cons (w_var 1 rfl (a_nil ⟨G, a, dx, _, vh, d.hs, lk, vks, d.kks, v1, ws, rfl, st.s, ga, st.keep ha (by simp), rfl, ht, dh, rfl, gk, st.keep hlk (by simp), hdk, dk, d1, hw, fun hb H' s' => k0 ?_ H' (st.trans s'), fun kd hb vk G' H' s' gk' hvk hl' => ?_⟩)))))))
  · unfold lineD
    rw [if_neg hh, if_neg ho, if_neg hnn, hb]
    rfl
  · have sf := st.pure.trans s'
    refine k1 ⟨d.hs, d.hos, d.kks ++ [kd]⟩ ?_ lh G' H' (sf.weak (by simp)) (.inl rfl) ⟨vh, vks ++ [vk], sf.keep ha (by simp; exact nak), sf.out ga ha, dvh.mono sf.g, fun _ => ht.mono sf.g, ?_, sf.out gl hlh, hl', gk', ?_, nlk⟩
    · unfold lineD
      rw [if_neg hh, if_neg ho, if_neg hnn, hb]
      rfl
    · exact sf.keep hlh (by simpa using nlk)
    · show Das K G' (vks ++ [vk]) ((d.kks ++ [kd]).map kdD)
      rw [List.map_append]
      exact (hdk.mono sf.g).snoc hvk
end
end Mb

set_option Elab.async false
set_option linter.all false
set_option maxRecDepth 100000
set_option maxHeartbeats 2000000
namespace Mb
open PySem PySem.Spec PyProof.Rows L2 TL
open MbS (metS)
/-! ### the lines of an own hall can stand -/
theorem nm_ok {x : Str} (h : Nm x ∧ x ∉ resS) : (nmB x && !decide (x ∈ resS)) = true := by
  rw [nmB_iff.mpr h.1, decide_eq_false h.2]
  rfl
theorem hdB_own {o : Own} (ho : OwnOk o) : hdB (("hands" : Str) :: o.names) = true := by
  have h2 := ho.m2
  have h5 := ho.m5
  unfold hdB
  refine (if_neg ?_).trans (if_neg ?_)
  · show ¬ ((!decide (("hands" : Str) = "hands") || !(decide (2 ≤ (o.names.length : Int)) && decide ((o.names.length : Int) ≤ 5))) = true)
    rw [decide_eq_true (rfl : ("hands" : Str) = "hands"), decide_eq_true (by omega : (2 : Int) ≤ o.names.length), decide_eq_true (by omega : (o.names.length : Int) ≤ 5)]
    exact Bool.false_ne_true
  · show ¬ ((!(o.names.map fun x => nmB x && !decide (x ∈ resS)).all id || decide (((metS o.names).length : Int) < (o.names.length : Int))) = true)
    have e1 : (o.names.map fun x => nmB x && !decide (x ∈ resS)).all id = true := by
      rw [List.all_map, List.all_eq_true]
      exact fun x hx => nm_ok (ho.nm x hx)
    rw [e1, metS_nodup ho.nd, decide_eq_false (by omega : ¬ ((o.names.length : Int) < o.names.length))]
    exact Bool.false_ne_true
/-- the place of a hand's name -/
theorem idx_nmA {ns : List Str} (hn : ns.Nodup) {i : Int} (h0 : 0 ≤ i) (h1 : i < ns.length) : idxS ns (nmA ns i) = i := by
  have hl : i.toNat < ns.length := by omega
  have e : nmA ns i = ns[i.toNat] := by
    unfold nmA
    rw [List.getElem?_eq_getElem hl]
    rfl
  unfold idxS
  rw [e]
  have hle := idxOf_le (l := ns) (m := i.toNat) hl
  have hlt : ns.idxOf ns[i.toNat] < ns.length := by omega
  have he : ns[ns.idxOf ns[i.toNat]] = ns[i.toNat] := List.getElem_idxOf hlt
  rcases Nat.lt_or_ge (ns.idxOf ns[i.toNat]) i.toNat with h | h
  · exact absurd he (List.pairwise_iff_getElem.mp (List.nodup_iff_pairwise_ne.mp hn) _ _ hlt hl h)
  · omega
theorem tkB_own {o : Own} (ho : OwnOk o) : tkB o.names (("taken" : Str) :: o.taken.map (nmA o.names)) = true := by
  have hl : 0 < o.taken.length := List.length_pos_iff.mpr ho.t0
  unfold tkB
  refine (if_neg ?_).trans ((if_neg ?_).trans (if_neg ?_))
  · show ¬ ((!decide (("taken" : Str) = "taken") || decide (((o.taken.map (nmA o.names)).length : Int) = 0)) = true)
    rw [decide_eq_true (rfl : ("taken" : Str) = "taken"), decide_eq_false (by rw [List.length_map]; omega)]
    exact Bool.false_ne_true
  · show ¬ ((!((o.taken.map (nmA o.names)).map fun x => decide (x ∈ o.names)).all id) = true)
    have e1 : ((o.taken.map (nmA o.names)).map fun x => decide (x ∈ o.names)).all id = true := by
      rw [List.all_map, List.all_map, List.all_eq_true]
      exact fun x hx => decide_eq_true (nmA_mem (ho.tr x hx).1 (ho.tr x hx).2)
    rw [e1]
    exact Bool.false_ne_true
  · show ¬ ((!ascB ((o.taken.map (nmA o.names)).map (idxS o.names))) = true)
    have e1 : (o.taken.map (nmA o.names)).map (idxS o.names) = o.taken := by
      rw [List.map_map]
      conv => rhs; rw [← List.map_id o.taken]
      exact List.map_congr_left fun x hx => idx_nmA ho.nd (ho.tr x hx).1 (ho.tr x hx).2
    rw [e1, ascB_of ho.tk]
    exact Bool.false_ne_true
end Mb

set_option Elab.async false
set_option linter.all false
set_option maxRecDepth 100000
set_option maxHeartbeats 2000000
namespace Mb
open PySem PySem.Spec PyProof.Rows L2 TL
theorem askF_opts (ns : List Str) (b e g : Option Int) : askF optS (optW ns "begins" b ++ (optW ns "ends" e ++ (optW ns "gives" g ++ []))) = ([b.map (nmA ns), e.map (nmA ns), g.map (nmA ns)], []) := by
  cases b <;> cases e <;> cases g <;> kernel_rfl
theorem optS_res {x : Str} (h : x ∉ resS) : (!isO x) = true := by
  have : x ∉ optS := fun hx => h (by
    simp only [optS, List.mem_cons, List.not_mem_nil, or_false] at hx
    rcases hx with rfl | rfl | rfl <;> decide +kernel)
  unfold isO
  rw [decide_eq_false this]
  rfl
theorem opts_head (ns : List Str) (b e g : Option Int) : ∀ x r, optW ns "begins" b ++ (optW ns "ends" e ++ (optW ns "gives" g ++ [])) = x :: r → isO x = true := by
  intro x r h
  have key : x = ("begins" : Str) ∨ x = ("ends" : Str) ∨ x = ("gives" : Str) := by
    cases b with
    | some i => exact .inl (List.cons.inj h).1.symm
    | none =>
      cases e with
      | some i => exact .inr (.inl (List.cons.inj h).1.symm)
      | none =>
        cases g with
        | some i => exact .inr (.inr (List.cons.inj h).1.symm)
        | none => cases h
  unfold isO optS
  rcases key with rfl | rfl | rfl <;> decide +kernel
theorem ctB_own {o : Own} (ho : OwnOk o) {k : Kd} (hk : KdOk o.names.length k) : ctB o.names ((wordsK o.names k).drop 2) = some (k.cs, k.b, k.e, k.g) := by
  have hcm := hk.row.rc.1.2
  have hrb : ∀ x, k.b = some x → 0 ≤ x ∧ x < o.names.length := fun x hx => ⟨(hk.row.rb x hx).1, (hk.row.rb x hx).2.1⟩
  have hre : ∀ x, k.e = some x → 0 ≤ x ∧ x < o.names.length := fun x hx => hcm x (hk.row.re x hx).1
  have hrg : ∀ x, k.g = some x → 0 ≤ x ∧ x < o.names.length := fun x hx => ⟨(hk.row.rg x hx).1, (hk.row.rg x hx).2.1⟩
  have ed : (wordsK o.names k).drop 2 = k.cs.map (nmA o.names) ++ (optW o.names "begins" k.b ++ (optW o.names "ends" k.e ++ (optW o.names "gives" k.g ++ []))) := rfl
  rw [ed]
  generalize hop : optW o.names "begins" k.b ++ (optW o.names "ends" k.e ++ (optW o.names "gives" k.g ++ [])) = op
  have ht := takeWhile_of (p := fun x => !isO x) (k.cs.map (nmA o.names)).length (k.cs.map (nmA o.names) ++ op) (by
    rw [List.take_left]
    intro x hx
    obtain ⟨i, hi, rfl⟩ := List.mem_map.mp hx
    exact optS_res (ho.nm _ (nmA_mem (hcm i hi).1 (hcm i hi).2)).2) (by
    rw [List.drop_left]
    intro x r e
    rw [opts_head o.names k.b k.e k.g x r (hop.trans e)]
    rfl)
  rw [List.take_left, List.drop_left] at ht
  have ha : askF optS op = ([k.b.map (nmA o.names), k.e.map (nmA o.names), k.g.map (nmA o.names)], []) := by rw [← hop]; exact askF_opts _ _ _ _
  have hid : ∀ oo : Option Int, (∀ x, oo = some x → 0 ≤ x ∧ x < o.names.length) → (oo.map (nmA o.names)).map (idxS o.names) = oo := by
    intro oo h
    cases oo with
    | none => rfl
    | some x => exact congrArg some (idx_nmA ho.nd (h x rfl).1 (h x rfl).2)
  have hmem : ∀ oo : Option Int, (∀ x, oo = some x → 0 ≤ x ∧ x < o.names.length) → ((oo.map (nmA o.names)).isNone || (oo.map (nmA o.names)).any fun x => decide (x ∈ o.names)) = true := by
    intro oo h
    cases oo with
    | none => rfl
    | some x => exact decide_eq_true (nmA_mem (h x rfl).1 (h x rfl).2)
  have ecs : (k.cs.map (nmA o.names)).map (idxS o.names) = k.cs := by
    rw [List.map_map]
    conv => rhs; rw [← List.map_id k.cs]
    exact List.map_congr_left fun x hx => idx_nmA ho.nd (hcm x hx).1 (hcm x hx).2
  unfold ctB
  rw [ht.1, ht.2, ha]
  refine (if_neg ?_).trans ((if_neg ?_).trans ?_)
  · have e1 : ((k.cs.map (nmA o.names)).map fun x => decide (x ∈ o.names)).all id = true := by
      rw [List.all_map, List.all_map, List.all_eq_true]
      exact fun x hx => decide_eq_true (nmA_mem (hcm x hx).1 (hcm x hx).2)
    rw [e1]
    exact Bool.false_ne_true
  · have e1 : (([k.b.map (nmA o.names), k.e.map (nmA o.names), k.g.map (nmA o.names)].map fun o' => o'.isNone || o'.any fun x => decide (x ∈ o.names)).all id) = true := by
      simp only [List.map_cons, List.map_nil, List.all_cons, List.all_nil, hmem k.b hrb, hmem k.e hre, hmem k.g hrg, id]
      rfl
    rw [e1]
    exact Bool.false_ne_true
  · simp only [List.map_cons, List.map_nil]
    rw [hid k.b hrb, hid k.e hre, hid k.g hrg, ecs]
    show (if (!mctB k.cs k.b k.e k.g) = true then none else some (k.cs, k.b, k.e, k.g)) = _
    rw [mctB_of hk.row]
    rfl
theorem mtB_own {o : Own} (ho : OwnOk o) {k : Kd} (hk : KdOk o.names.length k) (hr : k.nm ∉ resS) {kks : List Kd} (h8 : kks.length < 8) (hn : k.nm ∉ kks.map (·.nm)) : mtB o.names kks (wordsK o.names k) = some k := by
  unfold mtB
  rw [ctB_own ho hk]
  refine (if_neg ?_).trans ((if_neg ?_).trans rfl)
  · have h2 : ¬ (((wordsK o.names k).length : Int) < 2) := by
      unfold wordsK
      rw [List.length_cons, List.length_cons]
      omega
    show ¬ ((decide ((kks.length : Int) = 8) || (decide (((wordsK o.names k).length : Int) < 2) || !decide (("meet" : Str) = "meet"))) = true)
    rw [decide_eq_false (by omega : ¬ ((kks.length : Int) = 8)), decide_eq_false h2, decide_eq_true (rfl : ("meet" : Str) = "meet")]
    exact Bool.false_ne_true
  · show ¬ ((!(nmB k.nm && !decide (k.nm ∈ resS)) || decide (k.nm ∈ kks.map (·.nm))) = true)
    rw [nm_ok ⟨hk.nm, hr⟩, decide_eq_false hn]
    exact Bool.false_ne_true
end Mb

set_option Elab.async false
set_option linter.all false
set_option maxRecDepth 100000
set_option maxHeartbeats 2000000
namespace Mb
open PySem PySem.Spec PyProof.Rows L2 TL
/-! ### the rights of an own hall, one behind the other -/
theorem idxOf_none_eq : ∀ {os : List (Option Int)} {m : Nat}, os[m]? = some none → (∀ i, i < m → os[i]? ≠ some none) → os.idxOf none = m
  | [], m, h, _ => by simp at h
  | o :: os, 0, h, _ => by
    have e : o = none := by simpa using h
    subst e
    simp
  | o :: os, m + 1, h, hb => by
    have h' : os[m]? = some none := by simpa using h
    have h0 : o ≠ none := fun e => hb 0 (by omega) (by simp [e])
    have ih := idxOf_none_eq h' fun i hi => by
      have := hb (i + 1) (by omega)
      simpa using this
    rw [List.idxOf_cons]
    have : (o == none) = false := by
      cases o with
      | none => exact (h0 rfl).elim
      | some _ => rfl
    rw [this, ih]
    rfl
def holdJ (o : Own) (j : Nat) : List (Option Int) := (rng o.names.length).map fun x => if x ∈ o.taken then some (-1) else ((o.rights.take j).find? fun p => decide (p.1 = x)).map (·.2)
section
variable {o : Own}
theorem holdJ_get (j : Nat) {i : Nat} (hi : i < o.names.length) : (holdJ o j)[i]? = some (if ((i : Nat) : Int) ∈ o.taken then some (-1) else ((o.rights.take j).find? fun p => decide (p.1 = ((i : Nat) : Int))).map (·.2)) := by
  unfold holdJ rng
  rw [List.getElem?_map, List.getElem?_map, List.getElem?_range hi]
  rfl
theorem names_rng (o : Own) : o.names = (rng o.names.length).map (nmA o.names) := by
  apply List.ext_getElem?
  intro i
  unfold rng
  rw [List.getElem?_map, List.getElem?_map]
  by_cases h : i < o.names.length
  · rw [List.getElem?_range h, List.getElem?_eq_getElem h]
    show _ = some (nmA o.names ((i : Nat) : Int))
    unfold nmA
    rw [Int.toNat_natCast, List.getElem?_eq_getElem h]
    rfl
  · rw [List.getElem?_eq_none (by omega), List.getElem?_eq_none (by rw [List.length_range]; omega)]
    rfl
theorem hold0 (ho : OwnOk o) : holdO o.names (o.taken.map (nmA o.names)) = holdJ o 0 := by
  have key : ∀ x : Int, 0 ≤ x → x < o.names.length → decide (nmA o.names x ∈ o.taken.map (nmA o.names)) = decide (x ∈ o.taken) := by
    intro x x0 x1
    by_cases h : x ∈ o.taken
    · rw [decide_eq_true h]
      exact decide_eq_true (List.mem_map_of_mem h)
    · rw [decide_eq_false h]
      refine decide_eq_false fun hm => h ?_
      obtain ⟨y, hy, e⟩ := List.mem_map.mp hm
      have e2 := congrArg (idxS o.names) e
      rw [idx_nmA ho.nd (ho.tr y hy).1 (ho.tr y hy).2, idx_nmA ho.nd x0 x1] at e2
      exact e2 ▸ hy
  have e : holdO o.names (o.taken.map (nmA o.names)) = holdO ((rng o.names.length).map (nmA o.names)) (o.taken.map (nmA o.names)) := by rw [← names_rng o]
  rw [e]
  unfold holdO holdJ
  rw [List.map_map]
  refine List.map_congr_left fun x hx => ?_
  obtain ⟨x0, x1⟩ := mem_rng.mp hx
  show (if decide (nmA o.names x ∈ o.taken.map (nmA o.names)) = true then some (-1) else none) = if x ∈ o.taken then some (-1) else none
  rw [key x x0 x1]
  by_cases h : x ∈ o.taken
  · rw [decide_eq_true h, if_pos rfl, if_pos h]
  · rw [decide_eq_false h, if_neg Bool.false_ne_true, if_neg h]
theorem rights_get (ho : OwnOk o) {j : Nat} {p : Int × Int} (hp : o.rights[j]? = some p) : (holdJ o j)[p.1.toNat]? = some none ∧ ∀ i, i < p.1.toNat → (holdJ o j)[i]? ≠ some none := by
  have hm := ho.rkm p (List.mem_of_getElem? hp)
  have hjl := (List.getElem?_eq_some_iff.mp hp).1
  have hsort := ho.rks
  rw [List.pairwise_map] at hsort
  have hlt : ∀ i q, i < j → o.rights[i]? = some q → q.1 < p.1 := by
    intro i q hij hq
    obtain ⟨hil, e1⟩ := List.getElem?_eq_some_iff.mp hq
    obtain ⟨hjl', e2⟩ := List.getElem?_eq_some_iff.mp hp
    have := List.pairwise_iff_getElem.mp hsort i j hil hjl' hij
    rwa [e1, e2] at this
  have hmt : ∀ q ∈ o.rights.take j, ∃ i, i < j ∧ o.rights[i]? = some q := by
    intro q hq
    obtain ⟨i, hi, e⟩ := List.mem_iff_getElem.mp hq
    rw [List.length_take] at hi
    exact ⟨i, by omega, by rw [List.getElem_take] at e; rw [List.getElem?_eq_getElem (by omega), e]⟩
  refine ⟨?_, fun i hi hc => ?_⟩
  · rw [holdJ_get j (by omega)]
    have ep : ((p.1.toNat : Nat) : Int) = p.1 := by omega
    rw [ep, if_neg hm.2.2]
    have : (o.rights.take j).find? (fun q => decide (q.1 = p.1)) = none := by
      rw [List.find?_eq_none]
      intro q hq
      obtain ⟨i, hi, e⟩ := hmt q hq
      have := hlt i q hi e
      simp
      omega
    rw [this]
    rfl
  · have hin : i < o.names.length := by omega
    rw [holdJ_get j hin] at hc
    by_cases ht : ((i : Nat) : Int) ∈ o.taken
    · rw [if_pos ht] at hc
      cases hc
    · rw [if_neg ht] at hc
      have hk : ((i : Nat) : Int) ∈ o.rights.map (·.1) := by
        rw [ho.rk, List.mem_filter, mem_rng]
        exact ⟨⟨by omega, by omega⟩, by rw [decide_eq_false ht]; rfl⟩
      obtain ⟨q, hq, eq⟩ := List.mem_map.mp hk
      obtain ⟨i2, hi2, e2⟩ := List.mem_iff_getElem.mp hq
      have hij : i2 < j := by
        apply Nat.lt_of_not_le
        intro hle
        rcases Nat.lt_or_ge j i2 with h | h
        · obtain ⟨hjl', e3⟩ := List.getElem?_eq_some_iff.mp hp
          have := List.pairwise_iff_getElem.mp hsort j i2 hjl' hi2 h
          rw [e2, e3, eq] at this
          omega
        · have : i2 = j := by omega
          subst this
          rw [List.getElem?_eq_getElem hi2, e2] at hp
          have := Option.some.inj hp
          subst this
          omega
      have hqt : q ∈ o.rights.take j := List.mem_iff_getElem.mpr ⟨i2, by rw [List.length_take]; omega, by rw [List.getElem_take]; exact e2⟩
      cases hf : (o.rights.take j).find? (fun p => decide (p.1 = ((i : Nat) : Int))) with
      | some r => rw [hf] at hc; cases hc
      | none =>
        rw [List.find?_eq_none] at hf
        exact hf q hqt (by simpa using eq)
theorem rights_idx (ho : OwnOk o) {j : Nat} {p : Int × Int} (hp : o.rights[j]? = some p) : (holdJ o j).idxOf none = p.1.toNat := idxOf_none_eq (rights_get ho hp).1 (rights_get ho hp).2
theorem holdJ_len (j : Nat) : (holdJ o j).length = o.names.length := by
  unfold holdJ
  rw [List.length_map, rng_len]
theorem holdJ_set (ho : OwnOk o) {j : Nat} {p : Int × Int} (hp : o.rights[j]? = some p) : (holdJ o j).set p.1.toNat (some p.2) = holdJ o (j + 1) := by
  have hm := ho.rkm p (List.mem_of_getElem? hp)
  have ep : ((p.1.toNat : Nat) : Int) = p.1 := by omega
  have et : o.rights.take (j + 1) = o.rights.take j ++ [p] := by rw [List.take_add_one, hp]; rfl
  apply List.ext_getElem?
  intro i
  rw [List.getElem?_set]
  by_cases hi : i < o.names.length
  · rw [holdJ_get (j + 1) hi, et, List.find?_append]
    by_cases h : p.1.toNat = i
    · subst h
      rw [if_pos rfl, if_pos (by rw [holdJ_len]; exact hi), ep, if_neg hm.2.2]
      have hn := (rights_get ho hp).1
      rw [holdJ_get j hi, ep, if_neg hm.2.2] at hn
      have hf : (o.rights.take j).find? (fun q => decide (q.1 = p.1)) = none := by
        cases q : (o.rights.take j).find? (fun q => decide (q.1 = p.1)) with
        | none => rfl
        | some r => rw [q] at hn; cases hn
      rw [hf]
      simp
    · rw [if_neg h, holdJ_get j hi]
      have hne : ¬ p.1 = ((i : Nat) : Int) := by omega
      have : [p].find? (fun q => decide (q.1 = ((i : Nat) : Int))) = none := by simp [hne]
      rw [this, Option.or_none]
  · rw [if_neg (by omega), List.getElem?_eq_none (by rw [holdJ_len]; omega), List.getElem?_eq_none (by rw [holdJ_len]; omega)]
theorem rtB_own (ho : OwnOk o) {j : Nat} {p : Int × Int} (hp : o.rights[j]? = some p) : rtB o.names (holdJ o j) [("right" : Str), nmA o.names p.1, nmA o.names p.2] = true := by
  have hm := ho.rkm p (List.mem_of_getElem? hp)
  have hv := ho.rv p (List.mem_of_getElem? hp)
  have hvr := ho.tr _ hv
  unfold rtB
  refine (if_neg ?_).trans ((if_neg ?_).trans (if_neg ?_))
  · show ¬ ((!decide ((3 : Int) = 3) || (!decide (("right" : Str) = "right") || !decide (nmA o.names p.1 = o.names.getD ((holdJ o j).idxOf none) ⟨#[]⟩))) = true)
    have e : nmA o.names p.1 = o.names.getD ((holdJ o j).idxOf none) ⟨#[]⟩ := by
      rw [rights_idx ho hp, List.getD_eq_getElem?_getD]
      rfl
    rw [decide_eq_true (rfl : (3 : Int) = 3), decide_eq_true (rfl : ("right" : Str) = "right"), decide_eq_true e]
    exact Bool.false_ne_true
  · show ¬ ((!decide (nmA o.names p.2 ∈ o.names)) = true)
    rw [decide_eq_true (nmA_mem hvr.1 hvr.2)]
    exact Bool.false_ne_true
  · show ¬ ((!decide (((holdJ o j)[o.names.idxOf (nmA o.names p.2)]?).join = some (-1))) = true)
    have ei : ((o.names.idxOf (nmA o.names p.2) : Nat) : Int) = p.2 := idx_nmA ho.nd hvr.1 hvr.2
    have e : ((holdJ o j)[o.names.idxOf (nmA o.names p.2)]?).join = some (-1) := by
      rw [holdJ_get j (by omega), ei, if_pos hv]
      rfl
    rw [decide_eq_true e]
    exact Bool.false_ne_true
end
end Mb

set_option Elab.async false
set_option linter.all false
set_option maxRecDepth 100000
set_option maxHeartbeats 2000000
namespace Mb
open PySem PySem.Spec PyProof.Rows L2 TL
/-! ### the lines of an own hall, one behind the other -/
def wordsO (o : Own) : List (List Str) := (("hands" : Str) :: o.names) :: (("taken" : Str) :: o.taken.map (nmA o.names)) :: (o.rights.map (fun p => [("right" : Str), nmA o.names p.1, nmA o.names p.2]) ++ o.kinds.map (wordsK o.names))
def dAt (o : Own) : Nat → Dr
  | 0 => ⟨[], [], []⟩
  | 1 => ⟨o.names, [], []⟩
  | i + 2 => ⟨o.names, holdJ o (min i o.rights.length), o.kinds.take (i - o.rights.length)⟩
section
variable {o : Own}
theorem no_none (ho : OwnOk o) : none ∉ holdJ o o.rights.length := by
  intro h
  obtain ⟨i, hi, e⟩ := List.mem_iff_getElem.mp h
  rw [holdJ_len] at hi
  have e' := holdJ_get (o := o) o.rights.length hi
  rw [List.getElem?_eq_getElem (by rw [holdJ_len]; exact hi), e] at e'
  have e2 := Option.some.inj e'
  by_cases ht : ((i : Nat) : Int) ∈ o.taken
  · rw [if_pos ht] at e2
    cases e2
  · rw [if_neg ht, List.take_length] at e2
    have hk : ((i : Nat) : Int) ∈ o.rights.map (·.1) := by
      rw [ho.rk, List.mem_filter, mem_rng]
      exact ⟨⟨by omega, by omega⟩, by rw [decide_eq_false ht]; rfl⟩
    obtain ⟨q, hq, eq⟩ := List.mem_map.mp hk
    cases hf : o.rights.find? (fun p => decide (p.1 = ((i : Nat) : Int))) with
    | some r => rw [hf] at e2; cases e2
    | none =>
      rw [List.find?_eq_none] at hf
      exact hf q hq (by simpa using eq)
theorem dAt_step (ho : OwnOk o) {i : Nat} {ws : List Str} (h : (wordsO o)[i]? = some ws) : lineD (dAt o i) ws = some (dAt o (i + 1)) := by
  have hne : o.names ≠ [] := fun e => by have := ho.m2; rw [e] at this; simp at this
  have hJ : ∀ j, holdJ o j ≠ [] := fun j e => by have := holdJ_len (o := o) j; rw [e] at this; have := ho.m2; simp at *; omega
  match i, h with
  | 0, h =>
    obtain rfl : ("hands" : Str) :: o.names = ws := Option.some.inj h
    unfold lineD dAt
    rw [if_pos rfl, if_pos (hdB_own ho)]
    rfl
  | 1, h =>
    obtain rfl : ("taken" : Str) :: o.taken.map (nmA o.names) = ws := Option.some.inj h
    show lineD ⟨o.names, [], []⟩ _ = _
    unfold lineD
    rw [if_neg hne, if_pos rfl, if_pos (tkB_own ho)]
    show some (⟨o.names, holdO o.names (o.taken.map (nmA o.names)), []⟩ : Dr) = some ⟨o.names, holdJ o (min 0 o.rights.length), o.kinds.take (0 - o.rights.length)⟩
    rw [hold0 ho, Nat.zero_min, Nat.zero_sub, List.take_zero]
  | i + 2, h =>
    have h' : (o.rights.map (fun p => [("right" : Str), nmA o.names p.1, nmA o.names p.2]) ++ o.kinds.map (wordsK o.names))[i]? = some ws := h
    by_cases hi : i < o.rights.length
    · rw [List.getElem?_append_left (by rw [List.length_map]; exact hi), List.getElem?_map] at h'
      obtain ⟨p, hp, rfl⟩ := Option.map_eq_some_iff.mp h'
      show lineD ⟨o.names, holdJ o (min i o.rights.length), o.kinds.take (i - o.rights.length)⟩ _ = some ⟨o.names, holdJ o (min (i + 1) o.rights.length), o.kinds.take (i + 1 - o.rights.length)⟩
      rw [Nat.min_eq_left (by omega), Nat.min_eq_left (by omega), show i - o.rights.length = 0 by omega, show i + 1 - o.rights.length = 0 by omega]
      unfold lineD
      have hnn : none ∈ holdJ o i := List.mem_of_getElem? (rights_get ho hp).1
      have hv := ho.tr _ (ho.rv p (List.mem_of_getElem? hp))
      rw [if_neg hne, if_neg (hJ i), if_pos hnn, if_pos (rtB_own ho hp)]
      show some (⟨o.names, (holdJ o i).set ((holdJ o i).idxOf none) (some (idxS o.names (nmA o.names p.2))), _⟩ : Dr) = _
      rw [rights_idx ho hp, idx_nmA ho.nd hv.1 hv.2, holdJ_set ho hp]
    · rw [List.getElem?_append_right (by rw [List.length_map]; omega), List.length_map, List.getElem?_map] at h'
      obtain ⟨k, hk, rfl⟩ := Option.map_eq_some_iff.mp h'
      have hkm := List.mem_of_getElem? hk
      have hkl := (List.getElem?_eq_some_iff.mp hk).1
      show lineD ⟨o.names, holdJ o (min i o.rights.length), o.kinds.take (i - o.rights.length)⟩ _ = some ⟨o.names, holdJ o (min (i + 1) o.rights.length), o.kinds.take (i + 1 - o.rights.length)⟩
      rw [Nat.min_eq_right (by omega), Nat.min_eq_right (by omega), show i + 1 - o.rights.length = i - o.rights.length + 1 by omega]
      unfold lineD
      have hnt : k.nm ∉ (o.kinds.take (i - o.rights.length)).map (·.nm) := by
        intro hm
        obtain ⟨q, hq, e⟩ := List.mem_map.mp hm
        obtain ⟨i2, hi2, e2⟩ := List.mem_iff_getElem.mp hq
        rw [List.length_take] at hi2
        rw [List.getElem_take] at e2
        have hnd := ho.kn
        rw [List.nodup_iff_pairwise_ne, List.pairwise_map] at hnd
        have := List.pairwise_iff_getElem.mp hnd i2 (i - o.rights.length) (by omega) hkl (by omega)
        obtain ⟨_, e3⟩ := List.getElem?_eq_some_iff.mp hk
        rw [e2, e3] at this
        exact this e
      have h8 := ho.k8
      rw [if_neg hne, if_neg (hJ _), if_neg (no_none ho), mtB_own ho (ho.kd k hkm) (ho.kk k hkm).1.2 (by rw [List.length_take]; omega) hnt]
      show some (⟨o.names, holdJ o o.rights.length, o.kinds.take (i - o.rights.length) ++ [k]⟩ : Dr) = _
      rw [List.take_add_one, hk]
      rfl
theorem dAt_ok (ho : OwnOk o) (i : Nat) : DrOk (dAt o i) := by
  have h5 := ho.m5
  have h8 := ho.k8
  match i with
  | 0 => exact ⟨by show 0 ≤ 1000; omega, .inl rfl, by show 0 ≤ 100; omega⟩
  | 1 => exact ⟨by show o.names.length ≤ 1000; omega, .inl rfl, by show 0 ≤ 100; omega⟩
  | i + 2 => exact ⟨by show o.names.length ≤ 1000; omega, .inr (holdJ_len _), by show (o.kinds.take _).length ≤ 100; rw [List.length_take]; omega⟩
theorem dAt_end (ho : OwnOk o) : dAt o (wordsO o).length = ⟨o.names, holdJ o o.rights.length, o.kinds⟩ := by
  have e : (wordsO o).length = o.rights.length + o.kinds.length + 2 := by
    unfold wordsO
    rw [List.length_cons, List.length_cons, List.length_append, List.length_map, List.length_map]
  rw [e]
  show (⟨o.names, holdJ o (min (o.rights.length + o.kinds.length) o.rights.length), o.kinds.take (o.rights.length + o.kinds.length - o.rights.length)⟩ : Dr) = _
  rw [Nat.min_eq_right (by omega), show o.rights.length + o.kinds.length - o.rights.length = o.kinds.length by omega, List.take_length]
end
end Mb

set_option Elab.async false
set_option linter.all false
set_option maxRecDepth 100000
set_option maxHeartbeats 2000000
namespace Mb
open PySem PySem.Spec PyProof.Rows L2 TL
theorem lets_ok {x : Str} (h : Lets x) : PyData.canLay0 (.str x) = true := by
  show x.cps.all (· < 0x110000) = true
  rw [Array.all_eq_true']
  intro c hc
  have := h c (Array.mem_toList_iff.mpr hc)
  exact decide_eq_true (by omega)
theorem kw_lets {x : Str} (h : x ∈ (["hands", "taken", "right", "meet", "begins", "ends", "gives"] : List Str)) : Lets x ∧ x.length ≤ 8 := by
  simp only [List.mem_cons, List.not_mem_nil, or_false] at h
  rcases h with rfl | rfl | rfl | rfl | rfl | rfl | rfl <;> exact ⟨by unfold Lets; decide +kernel, by decide +kernel⟩
section
variable {o : Own}
theorem nmA_lets (ho : OwnOk o) {i : Int} (h0 : 0 ≤ i) (h1 : i < o.names.length) : Lets (nmA o.names i) ∧ (nmA o.names i).length ≤ 8 := by
  have := (ho.nm _ (nmA_mem h0 h1)).1
  exact ⟨this.1, this.2.2⟩
theorem words_lets (ho : OwnOk o) : ∀ ws ∈ wordsO o, ws ≠ [] ∧ ws.length ≤ 11 ∧ ∀ x ∈ ws, Lets x ∧ x.length ≤ 8 := by
  intro ws hws
  have h5 := ho.m5
  have t5 := ho.tl5
  simp only [wordsO, List.mem_cons, List.mem_append, List.mem_map] at hws
  rcases hws with rfl | rfl | ⟨p, hp, rfl⟩ | ⟨k, hk, rfl⟩
  · refine ⟨by simp, by rw [List.length_cons]; omega, fun x hx => ?_⟩
    rcases List.mem_cons.mp hx with rfl | hx
    · exact kw_lets (by simp)
    · exact ⟨(ho.nm x hx).1.1, (ho.nm x hx).1.2.2⟩
  · refine ⟨by simp, by rw [List.length_cons, List.length_map]; omega, fun x hx => ?_⟩
    rcases List.mem_cons.mp hx with rfl | hx
    · exact kw_lets (by simp)
    · obtain ⟨i, hi, rfl⟩ := List.mem_map.mp hx
      exact nmA_lets ho (ho.tr i hi).1 (ho.tr i hi).2
  · refine ⟨by simp, by simp, fun x hx => ?_⟩
    simp only [List.mem_cons, List.not_mem_nil, or_false] at hx
    have hm := ho.rkm p hp
    have hv := ho.tr _ (ho.rv p hp)
    rcases hx with rfl | rfl | rfl
    · exact kw_lets (by simp)
    · exact nmA_lets ho hm.1 hm.2.1
    · exact nmA_lets ho hv.1 hv.2
  · have hko := ho.kd k hk
    have hcm := hko.row.rc.1.2
    refine ⟨by simp [wordsK], (wordsK_len ho.nm hko).1, fun x hx => ?_⟩
    simp only [wordsK, partsK, List.mem_cons, List.mem_append, List.mem_map, List.flatMap_cons, List.flatMap_nil, List.not_mem_nil, or_false] at hx
    have hopt : ∀ (w : Str) (oo : Option Int), w ∈ (["hands", "taken", "right", "meet", "begins", "ends", "gives"] : List Str) → (∀ i, oo = some i → 0 ≤ i ∧ i < o.names.length) → x ∈ optW o.names w oo → Lets x ∧ x.length ≤ 8 := by
      intro w oo hw hr hx
      cases oo with
      | none => cases hx
      | some i =>
        rcases List.mem_cons.mp hx with rfl | hx
        · exact kw_lets hw
        · rw [List.mem_singleton] at hx
          subst hx
          exact nmA_lets ho (hr i rfl).1 (hr i rfl).2
    rcases hx with rfl | rfl | ⟨i, hi, rfl⟩ | hx | hx | hx
    · exact kw_lets (by simp)
    · exact ⟨hko.nm.1, hko.nm.2.2⟩
    · exact nmA_lets ho (hcm i hi).1 (hcm i hi).2
    · exact hopt _ _ (by simp) (fun i hi => ⟨(hko.row.rb i hi).1, (hko.row.rb i hi).2.1⟩) hx
    · exact hopt _ _ (by simp) (fun i hi => hcm i (hko.row.re i hi).1) hx
    · exact hopt _ _ (by simp) (fun i hi => ⟨(hko.row.rg i hi).1, (hko.row.rg i hi).2.1⟩) hx
theorem words_wds (ho : OwnOk o) : ∀ ws ∈ wordsO o, Wds ws := fun ws h => by
  obtain ⟨h1, h2, h3⟩ := words_lets ho ws h
  exact ⟨h1, by omega, fun x hx => lets_ok (h3 x hx).1, fun x hx => by have := (h3 x hx).2; omega⟩
theorem lines_words (o : Own) : linesO o = (wordsO o).map (Txt.join " ") := by
  unfold linesO wordsO
  simp only [List.map_cons, List.map_append, List.map_map, List.cons_append, List.nil_append]
  rfl
theorem split_line (ho : OwnOk o) : ∀ ws ∈ wordsO o, Txt.split (Txt.join " " ws) " " = ws := fun ws h => by
  obtain ⟨h1, h2, h3⟩ := words_lets ho ws h
  exact split_join (y := " ") (s := 32) (S := []) rfl (by decide +kernel) h1 fun x hx hc => by
    have := (h3 x hx).1 32 hc
    omega
theorem mem_joinL (S : List Nat) : ∀ (ps : List (List Nat)) (c : Nat), c ∈ joinL S ps → c ∈ S ∨ ∃ p ∈ ps, c ∈ p
  | [], c, h => by cases h
  | [p], c, h => .inr ⟨p, List.mem_cons_self, h⟩
  | p :: q :: r, c, h => by
    have h' : c ∈ p ++ (S ++ joinL S (q :: r)) := h
    rcases List.mem_append.mp h' with h | h
    · exact .inr ⟨p, List.mem_cons_self, h⟩
    · rcases List.mem_append.mp h with h | h
      · exact .inl h
      · rcases mem_joinL S (q :: r) c h with h | ⟨t, ht, hc⟩
        · exact .inl h
        · exact .inr ⟨t, List.mem_cons_of_mem _ ht, hc⟩
theorem split_text (ho : OwnOk o) : Txt.split (textO o) "\n" = linesO o := by
  unfold textO
  refine split_join (y := "\n") (s := 10) (S := []) rfl (by decide +kernel) (by rw [lines_words]; simp [wordsO]) fun l hl hc => ?_
  rw [lines_words] at hl
  obtain ⟨ws, hws, rfl⟩ := List.mem_map.mp hl
  obtain ⟨h1, h2, h3⟩ := words_lets ho ws hws
  rw [join_eq, tl_join] at hc
  rcases mem_joinL _ _ _ hc with h | ⟨t, ht, h⟩
  · have e : tl (" " : Str) = [32] := rfl
    rw [e] at h
    simp at h
  · obtain ⟨x, hx, rfl⟩ := List.mem_map.mp ht
    have := (h3 x hx).1 10 h
    omega
end
end Mb

set_option Elab.async false
set_option linter.all false
set_option maxRecDepth 100000
set_option maxHeartbeats 2000000
namespace Mb
open PySem PySem.Spec PyProof.Rows L2 TL
/-! ### the law's standing, told -/
def toldAt (fr : List (Int × List Int)) (x : Int) : Dt := match fr.find? fun p => decide (p.1 = x) with
  | some p => .tuple [.str "here", .tuple (ofI p.2)]
  | none => .tuple [.str "away"]
theorem look_fr (fr : List (Int × List Int)) (x : Int) : lookD (fr.map fun p => ((.inl p.1 : Key), PyData.list (ofI p.2))) (.inl x) = (fr.find? fun p => decide (p.1 = x)).map fun p => PyData.list (ofI p.2) := by
  unfold lookD
  induction fr with
  | nil => rfl
  | cons p fr ih =>
    rw [List.map_cons, List.find?_cons, List.find?_cons]
    by_cases h : p.1 = x
    · rw [decide_eq_true (show (.inl p.1 : Key) = .inl x by rw [h]), decide_eq_true h]
      rfl
    · rw [decide_eq_false (fun e : (.inl p.1 : Key) = .inl x => h (by injection e)), decide_eq_false h]
      exact ih
end Mb

set_option Elab.async false
set_option linter.all false
set_option maxRecDepth 100000
set_option maxHeartbeats 2000000
namespace Mb
open PySem PySem.Spec PyProof.Rows L2
section
variable {X : Cx} {σ : L2.St} {G H : Hp} {tg : Expr} {ds : List Dt}
/-- a comprehension without tests, by an invariant of one's own: what holds ahead of turn i, the list at D holding acc -/
theorem lcX {elt iter : Expr} {scope : Scope} (own : List (Str × Nat)) {Q : VK} (hs : Src X tg iter σ G ds) (g : Same G H)
    (k : ∀ G1 H1, Step [] G H G1 H1 → ∀ D, H1 D = none → ∃ I : Nat → List V → Hp → Prop, I 0 [] (upd H1 D (.lst [])) ∧ (∀ i acc H, I i acc H → Same G1 H) ∧
      (∀ i d x acc H2 H3, ds[i]? = some d → I i acc H2 → (∀ G2, Same G1 G2 → Same G2 H2 → ∃ G3, Step [] G2 H2 G3 H3 ∧ Da X.K G3 x d) → ∃ σ2, wipe σ2 (own.map (·.2)) = wipe σ (own.map (·.2)) ∧ (∀ Q, Q σ2 H3 → bG X scope tg x (wipe σ (own.map (·.2))) H3 Q) ∧
        bE X scope elt σ2 H3 fun y H4 => H4 D = some (.lst acc) ∧ acc.length < 100000 ∧ I (i + 1) (acc ++ [y]) (upd H4 D (.lst (acc ++ [y])))) ∧
      ∀ acc H', I ds.length acc H' → Q (.ref D) H') : eLc X elt tg iter [] scope (own.map (·.2)) σ H Q := by
  obtain ⟨w, hw0, hI⟩ := hs G H (Same.refl G) g (fun J H1 => ∃ G1, Step [] G H G1 H1 ∧ Walks X.K J G1 ds) fun J G1 H1 s1 hw => ⟨G1, s1, hw⟩
  refine ⟨fun σ H R => ∃ R' : It → Hp → Prop, w σ H R' ∧ ∀ J H', R' J H' → R J H', ⟨fun pins s σ H R I0 ⟨R', h1, h2⟩ => ?_⟩, _, hI, ?_⟩
  · refine thn (hw0.run pins s σ H R' I0 h1) fun v s1 q => thn q fun it s2 ⟨a1, a2, a3, a4, a5, a6, a7, a8, a9, a10, a11⟩ => ?_
    exact ⟨a1, a2, a3, a4, a5, a6, a7, a8, a9, a10, h2 _ _ a11⟩
  rintro J H1 ⟨G1, s1, hw⟩
  intro D hD
  obtain ⟨I, i0, hG, step, done⟩ := k G1 H1 s1 D hD
  refine ⟨fun i m H => ∃ acc, I i acc H ∧ i ≤ ds.length ∧ m = ds.length - i, ⟨ds.length, [], i0, Nat.zero_le _, by omega⟩, ?_⟩
  rintro i m H2 ⟨acc, hI, hi, rfl⟩
  obtain ⟨w1, w2⟩ := hw i G1 H2 (Same.refl G1) (hG i acc H2 hI)
  by_cases hlt : i < ds.length
  · right
    have hd : ds[i]? = some ds[i] := List.getElem?_eq_getElem hlt
    obtain ⟨go, yl⟩ := w1 _ hd
    refine ⟨go, fun H => ∃ acc, I (i + 1) acc H, fun H' ⟨acc, h⟩ => ⟨ds.length - (i + 1), by omega, acc, h, by omega, rfl⟩, fun x H3 hy => ?_⟩
    obtain ⟨σ2, hw2, htg, hel⟩ := step i _ x acc H2 H3 hd hI (fun G2 a b => by
      obtain ⟨w1', _⟩ := hw i G2 H2 a b
      exact (w1' _ hd).2 x H3 hy)
    refine htg _ ⟨hw2, ?_⟩
    intro s0 H0 C cl fp
    refine ⟨_, pts_nil, ?_⟩
    unfold tYes
    dsimp only
    rw [if_pos rfl]
    exact fun s0 H0 C cl fp => (hel s0 H0 C cl fp).mono fun y H4 ⟨h1, h2, h3⟩ => ⟨acc, h1, Nat.lt_trans h2 (by decide), acc ++ [y], h3⟩
  · left
    have : i = ds.length := by omega
    subst this
    exact ⟨w2 (Nat.le_refl _), done acc H2 hI⟩
end
end Mb

set_option Elab.async false
set_option linter.all false
set_option maxRecDepth 100000
set_option maxHeartbeats 2000000
namespace Mb
open PySem PySem.Spec PyProof.Rows L2 TL
section
variable {X : Cx} {σ : L2.St} {G H : Hp} {ds : List Dt}
theorem lcX1 (k : Nat) {elt iter : Expr} {scope : Scope} {x : Str} {px : Pos} {Q : VK} (hs : Src X (.Name x px) iter σ G ds) (g : Same G H) (hN : X.N.Nodup)
    (kk : ∀ G1 H1, Step [] G H G1 H1 → ∀ D, H1 D = none → ∃ I : Nat → List V → Hp → Prop, I 0 [] (upd H1 D (.lst [])) ∧ (∀ i acc H, I i acc H → Same G1 H) ∧
      (∀ i d v acc H2 H3, ds[i]? = some d → I i acc H2 → (∀ G2, Same G1 G2 → Same G2 H2 → ∃ G3, Step [] G2 H2 G3 H3 ∧ Da X.K G3 v d) → bE X scope elt (σ.set k (some v)) H3 fun y H4 => H4 D = some (.lst acc) ∧ acc.length < 100000 ∧ I (i + 1) (acc ++ [y]) (upd H4 D (.lst (acc ++ [y])))) ∧
      ∀ acc H', I ds.length acc H' → Q (.ref D) H') (hk : X.N[k]? = some x := by rfl) (hx : scope.names.lookup x = some .local := by rfl) : eLc X elt (.Name x px) iter [] scope [k] σ H Q :=
  lcX [(x, k)] hs g fun G1 H1 s1 D hD => by
    obtain ⟨I, i0, ig, step, done⟩ := kk G1 H1 s1 D hD
    refine ⟨I, i0, ig, fun i d v acc H2 H3 hd hI hw => ⟨(wipe σ [k]).set k (some v), wipe_set1, fun Q h s0 H0 C cl fp => ?_, ?_⟩, done⟩
    · exact g_name (X := X.blk s0 H0 scope (compEnvC scope cl C X.env) fp) k hN h hk (Or.inl (lookup_relabel_local (env := X.env) hx)) (Or.inr (lookup_relabel_local (env := X.env) hx))
    · rw [wipe_set1']
      exact step i d v acc H2 H3 hd hI hw
end
theorem Step.freezes {A : List Addr} {G H H1 : Hp} (f : Addr → HO) : ∀ (ls : List Addr) {G1 : Hp}, Step A G H G1 H1 → (∀ l ∈ ls, H l = none ∧ H1 l = some (f l) ∧ G1 l = none) → ls.Nodup → ∃ G2, Step A G H G2 H1 ∧ Same G1 G2 ∧ ∀ l ∈ ls, G2 l = some (f l)
  | [], G1, st, _, _ => ⟨G1, st, Same.refl G1, by simp⟩
  | l :: ls, G1, st, h, hn => by
    obtain ⟨h1, h2, h3⟩ := h l List.mem_cons_self
    obtain ⟨n1, n2⟩ := List.nodup_cons.mp hn
    obtain ⟨G2, s2, g2, f2⟩ := Step.freezes f ls (st.freeze h1 h2 h3) (fun l' hl' => by
      obtain ⟨a, b, c⟩ := h l' (List.mem_cons_of_mem _ hl')
      have hne : l' ≠ l := fun e => n1 (by rw [← e]; exact hl')
      exact ⟨a, b, by rw [upd_ne hne]; exact c⟩) n2
    refine ⟨G2, s2, (Same.toUpd h3).trans g2, fun l' hl' => ?_⟩
    rcases List.mem_cons.mp hl' with rfl | hl'
    · exact g2 _ _ upd_same
    · exact f2 l' hl'
theorem Step.drops {G H G1 H1 : Hp} : ∀ (ls : List Addr), Step ls G H G1 H1 → (∀ l ∈ ls, H l = none) → Step [] G H G1 H1
  | [], s, _ => s
  | l :: ls, s, h => Step.drops ls (s.drop (h l List.mem_cons_self)) fun l' hl' => h l' (List.mem_cons_of_mem _ hl')
theorem paired_snoc {α β : Type} {R : α → β → Prop} : ∀ {xs : List α} {ys : List β} {x : α} {y : β}, Paired R xs ys → R x y → Paired R (xs ++ [x]) (ys ++ [y])
  | _, _, _, _, .nil, h => .cons h .nil
  | _, _, _, _, .cons a b, h => .cons a (paired_snoc b h)
theorem zipKeys : ∀ (tk : List Int) (ls : List Addr), tk.length = ls.length → (List.zipWith (fun h l => ((.inl h : Key), V.ref l)) tk ls).map (·.1) = tk.map Sum.inl
  | [], _, _ => rfl
  | _ :: _, [], h => by simp at h
  | x :: tk, l :: ls, h => by
    rw [List.zipWith_cons_cons, List.map_cons, List.map_cons, zipKeys tk ls (by simpa using h)]
theorem zipVal : ∀ (tk : List Int) (ls : List Addr) {i : Nat} {h : Int} {l : Addr}, tk.Nodup → tk[i]? = some h → ls[i]? = some l → valV (List.zipWith (fun h l => ((.inl h : Key), V.ref l)) tk ls) (.inl h) = some (.ref l)
  | [], _, i, h, l, _, e, _ => by simp at e
  | _ :: _, [], i, h, l, _, _, e => by simp at e
  | x :: tk, y :: ls, 0, h, l, hn, e1, e2 => by
    obtain rfl : x = h := by simpa using e1
    obtain rfl : y = l := by simpa using e2
    simp [valV, List.zipWith_cons_cons]
  | x :: tk, y :: ls, i + 1, h, l, hn, e1, e2 => by
    have e1' : tk[i]? = some h := by simpa using e1
    have hx : x ≠ h := fun e => (List.nodup_cons.mp hn).1 (e ▸ List.mem_of_getElem? e1')
    have ih := zipVal tk ls (List.nodup_cons.mp hn).2 e1' (by simpa using e2)
    rw [List.zipWith_cons_cons]
    have hk : ¬ ((.inl x : Key) = .inl h) := fun e => hx (by injection e)
    unfold valV at ih ⊢
    rw [List.find?_cons]
    simp only [hk, decide_false]
    exact ih
theorem zipDks {K : PySem.W.Frag} {G : Hp} : ∀ (tk : List Int) (ls : List Addr) (_ : tk.length = ls.length) (f : Int → List Int), (∀ (i : Nat) (l : Addr) (h : Int), tk[i]? = some h → ls[i]? = some l → G l = some (.lst ((f h).map V.int))) →
    Dks K G (List.zipWith (fun h l => ((.inl h : Key), V.ref l)) tk ls) (tk.map fun h => ((.inl h : Key), (PyData.list (ofI (f h)))))
  | [], _, _, _, _ => .nil
  | _ :: _, [], h, _, _ => by simp at h
  | x :: tk, l :: ls, h, f, hf => by
    rw [List.zipWith_cons_cons, List.map_cons]
    exact .cons (.lst (hf 0 l x rfl rfl) (Das.ofInts _)) (zipDks tk ls (by simpa using h) f fun i l' h' e1 e2 => hf (i + 1) l' h' (by simpa using e1) (by simpa using e2))
def frO (o : Own) : List (Int × List Int) := o.taken.map fun h => (h, (o.rights.filter fun p => decide (p.2 = h)).map (·.1))
section
variable {P : Program} {w : World} {K : PySem.W.Frag} {mg : Str → Option Value} {base : Heap}
theorem scFirst : FnScope ["own", "found", "hand"] ["own"] (defScope sFirst) := ⟨rfl, rfl, rfl, by decide +kernel, rfl, by decide +kernel, by decide +kernel⟩
def rFirst : List Dt → Dt → Prop := fun ds d => ∃ o, ds = [ownD o] ∧ OwnOk o ∧ d = dctD ((frO o).map fun p => (.inl p.1, .list (ofI p.2)))
theorem has_first (T : Top1 K mg "_law_first" sFirst ["own"]) (B : Blt mg) : Has P w K mg base "_law_first" 1 1 (spPure K 1 rFirst) := by
  refine mkHas (k := 0) T scFirst spPure_len fun f cdv A outer s H vs Q E hr h => ?_
  obtain ⟨G, ds, d, hm, g, hds, ⟨o, rfl, ho, rfl⟩, k⟩ := h
  have hu := hu1 (hu64 hr)
  have t5 := ho.tl5
  have r5 := ho.rl5
  cases hds with
  | cons d0 hn =>
    cases hn
    rename_i v0
    refine b_cons (s_set 1 scFirst.nd (w_callTy (call_dictP rfl) B.dict (by decide +kernel) (a_cons (w_lc [("hand", 2)] (blkOk_by (by kernel_rfl)) scFirst.nd (lcX1 2 (src_list (pu_dget (.inr "taken") (pu_var 0 rfl d0) pu_str (own_taken o) hu)) g scFirst.nd fun G1 H1 s1 D hD => ⟨fun i acc H' => ∃ (G3 : Hp) (ls ts : List Addr), acc = ts.map V.ref ∧ ls.length = i ∧ ts.length = i ∧ i ≤ 5 ∧ Same G1 G3 ∧ Step [D] G1 H1 G3 H' ∧ H' D = some (.lst acc) ∧ G3 D = none ∧
      (∀ l ∈ ls, H' l = some (.lst []) ∧ G3 l = none ∧ H1 l = none ∧ l ≠ D) ∧ ls.Nodup ∧ Paired (fun t (kv : Key × V) => SqT K G3 t [kV kv.1, kv.2]) ts (List.zipWith (fun h l => ((.inl h : Key), V.ref l)) (o.taken.take i) ls), ?i0, ?ig, ?st, ?dn⟩))) rfl (by decide) (by decide) rfl rfl))
    case i0 => exact ⟨G1, [], [], rfl, rfl, rfl, by omega, Same.refl G1, Step.allocM s1.s hD, upd_same, s1.s.free hD, by simp, List.nodup_nil, .nil⟩
    case ig =>
      rintro i acc H' ⟨G3, ls, ts, _, _, _, _, sg, st, _⟩
      exact sg.trans st.s
    case st =>
      rintro i d v acc H2 H3 hi ⟨G3, ls, ts, rfl, hl1, hl2, i5, sg, st, hD2, gD, hls, hnd, hpr⟩ hw s0 H0 C cl fp
      unfold ofI at hi
      rw [List.getElem?_map] at hi
      obtain ⟨hh, hhi, rfl⟩ := Option.map_eq_some_iff.mp hi
      have hil := (List.getElem?_eq_some_iff.mp hhi).1
      obtain ⟨G4, s4, hv⟩ := hw G3 sg st.s
      obtain rfl := hv.int_inv
      refine w_tup (a_cons (w_var 2 rfl (a_cons (w_emptyM fun l hl => a_nil ⟨by show 2 ≤ sizeLine; decide, fun t ht => ?_⟩))))
      have hD3 := s4.keep hD2 (by simp)
      have gD4 := s4.out gD hD2
      have nDl : D ≠ l := ne_of_none hD3 hl
      have hD3' : (upd H3 l (.lst [])) D = some (.lst (ts.map V.ref)) := by rw [upd_ne nDl]; exact hD3
      have nDt : D ≠ t := ne_of_none hD3' ht
      have nlt : l ≠ t := ne_of_none upd_same ht
      have st4 := st.trans s4.pure
      have stA : Step [D] G1 H1 G4 (upd H3 l (.lst [])) := st4.trans (Step.allocM s4.s hl)
      have stB := stA.trans (Step.alloc (o := .tup [.int hh, .ref l]) stA.s ht)
      have hD4 : (upd (upd H3 l (.lst [])) t (.tup [.int hh, .ref l])) D = some (.lst (ts.map V.ref)) := by rw [upd_ne nDt]; exact hD3'
      have gD5 : (upd G4 t (.tup [.int hh, .ref l])) D = none := by rw [upd_ne nDt]; exact gD4
      have gt4 := stA.s.free ht
      refine ⟨hD4, by rw [List.length_map]; omega, upd G4 t (.tup [.int hh, .ref l]), ls ++ [l], ts ++ [t], by simp, by simp [hl1], by simp [hl2], by omega, sg.trans (s4.g.trans (Same.toUpd gt4)), stB.trans (Step.mut stB.s gD5 hD4 (by simp)), upd_same, gD5, fun l' hl' => ?_, ?_, ?_⟩
      · rcases List.mem_append.mp hl' with h | h
        · obtain ⟨a1, a2, a3, a4⟩ := hls l' h
          have b1 := s4.keep a1 (by simp)
          have n1 : l' ≠ l := ne_of_none b1 hl
          have n2 : l' ≠ t := ne_of_none (show (upd H3 l (.lst [])) l' = some _ by rw [upd_ne n1]; exact b1) ht
          exact ⟨by rw [upd_ne a4, upd_ne n2, upd_ne n1]; exact b1, by rw [upd_ne n2]; exact s4.out a2 a1, a3, a4⟩
        · rw [List.mem_singleton] at h
          subst h
          exact ⟨by rw [upd_ne (Ne.symm nDl), upd_ne nlt]; exact upd_same, by rw [upd_ne nlt]; exact s4.s.free hl, st4.free hl, Ne.symm nDl⟩
      · rw [List.nodup_append]
        exact ⟨hnd, by simp, fun x hx y hy e => by
          rw [List.mem_singleton] at hy
          subst hy e
          have := s4.keep (hls x hx).1 (by simp)
          rw [hl] at this
          cases this⟩
      · have et : o.taken.take (i + 1) = o.taken.take i ++ [hh] := by rw [List.take_add_one, hhi]; rfl
        rw [et, List.zipWith_append (by rw [List.length_take]; omega)]
        exact paired_snoc (L2.Paired.mapP hpr fun _ _ z => SqT.same (s4.g.trans (Same.toUpd gt4)) z) (SqT.of upd_same)
    case dn =>
      rintro acc H' ⟨G3, ls, ts, rfl, hl1, hl2, i5, sg, st, hD2, gD, hls, hnd, hpr⟩
      have e5 : (ofI o.taken).length = o.taken.length := by simp [ofI]
      rw [e5] at hl1 hpr
      rw [List.take_length] at hpr
      have htn : o.taken.Nodup := List.nodup_iff_pairwise_ne.mpr (ho.tk.imp fun {a b} h => by omega)
      generalize hkv : List.zipWith (fun h l => ((.inl h : Key), V.ref l)) o.taken ls = kvs at hpr
      have hkeys : (kvs.map (·.1)).Nodup := by
        rw [← hkv, zipKeys o.taken ls hl1.symm, List.nodup_iff_pairwise_ne, List.pairwise_map]
        exact (List.nodup_iff_pairwise_ne.mp htn).imp fun {x y} h e => h (by injection e)
      refine a_nil ⟨D, ts, kvs, rfl, SqL.of hD2, L2.Paired.mapP hpr fun _ _ z => SqT.same st.s z, fun p hp => ?_⟩
      rw [mergeK_nodup kvs [] (by simpa using hkeys), List.nil_append]
      have stH : Step [] G H G3 H' := s1.trans (st.drop hD)
      have st2 := stH.trans (Step.alloc (o := .dK kvs) stH.s hp)
      have hls' : ∀ l ∈ ls, (upd H' p (.dK kvs)) l = some (.lst []) ∧ (upd G3 p (.dK kvs)) l = none ∧ H l = none := fun l hl => by
        obtain ⟨a1, a2, a3, a4⟩ := hls l hl
        have n1 : l ≠ p := ne_of_none a1 hp
        exact ⟨by rw [upd_ne n1]; exact a1, by rw [upd_ne n1]; exact a2, s1.free a3⟩
      have hpd : (upd G3 p (.dK kvs)) p = some (.dK kvs) := upd_same
      generalize upd G3 p (.dK kvs) = Gd at st2 hls' hpd
      generalize upd H' p (.dK kvs) = Hd at st2 hls'
      have cur : Nat → Int → List Int := fun j hh => ((o.rights.take j).filter fun q => decide (q.2 = hh)).map (·.1)
      refine b_cons (s_forD (ds := ofI (o.rights.map (·.1))) (src_list (pu_sortedDI (pu_dget (.inr "rights") (pu_var 0 rfl (d0.mono st2.g)) pu_str (own_rights o) hu) ho.rks (by omega) B.sorted)) st2.s fun G4 H4 s4 => ⟨fun j σ H' => ∃ (G9 : Hp) (u2 : Option V), σ = [some v0, some (.ref p), u2] ∧ Same G4 G9 ∧ Step ls Gd Hd G9 H' ∧
        ∀ (kx : Nat) (l : Addr) (hh : Int), ls[kx]? = some l → o.taken[kx]? = some hh → H' l = some (.lst ((((o.rights.take j).filter fun q => decide (q.2 = hh)).map (·.1)).map V.int)), ?_, ?_, ?_, ?_⟩)
      · exact ⟨G4, _, rfl, Same.refl G4, s4.pure, fun kx l hh h1 _ => s4.keep (hls' l (List.mem_of_getElem? h1)).1 (by simp)⟩
      · rintro j σ H' ⟨G9, _, rfl, sg, st9, _⟩
        exact sg.trans st9.s
      · rintro j d x σ H' H9 hi ⟨G9, u2, rfl, sg, st9, hcur⟩ hw
        unfold ofI at hi
        rw [List.getElem?_map, List.getElem?_map] at hi
        obtain ⟨q1, hq1, rfl⟩ := Option.map_eq_some_iff.mp hi
        obtain ⟨q, hq, rfl⟩ := Option.map_eq_some_iff.mp hq1
        have hqm := List.mem_of_getElem? hq
        obtain ⟨G10, s10, hx10⟩ := hw G9 sg st9.s
        obtain rfl := hx10.int_inv
        have st10 := st9.trans s10.pure
        obtain ⟨kq, hkl, hke⟩ := List.mem_iff_getElem.mp (ho.rv q hqm)
        have hkq : o.taken[kq]? = some q.2 := by rw [List.getElem?_eq_getElem hkl, hke]
        have hll : ls[kq]? = some (ls[kq]'(by omega)) := List.getElem?_eq_getElem (by omega)
        generalize (ls[kq]'(by omega)) = l at hll
        have hlm := List.mem_of_getElem? hll
        have hl9 := s10.keep (hcur kq l q.2 hll hkq) (by simp)
        have d010 := d0.mono (st2.g.trans st10.g)
        refine g_name 2 scFirst.nd (b_one (s_expr (w_bm PySem.F.plainAttrs_list PySem.F.slot_list_append PySem.F.type_list_append mt_append (w_dget hu (w_var 1 rfl (w_pu (d := .int q.2) (pu_dget (.inl q.1) (pu_dget (.inr "rights") (pu_var 0 rfl d010) pu_str (own_rights o) hu) (pu_var 2 rfl (.int _)) (look_rights ho.rks hqm) hu) st10.s fun v3 G11 H11 s11 hv3 => ⟨p, .ref l, rfl, ?dg, .inl ⟨rfl, _, SqL.of (s11.keep hl9 (by simp))⟩, a_cons (w_var 2 rfl (a_nil ?ap))⟩))))))
        case dg =>
          obtain rfl := hv3.int_inv
          exact .inl ⟨kvs, .inl q.2, .inl (s11.s _ _ (s11.g _ _ (st10.g _ _ hpd))), rfl, by rw [← hkv]; exact (zipVal o.taken ls htn hkq hll).symm⟩
        case ap =>
          have st11 := st10.trans s11.pure
          have hl11 := s11.keep hl9 (by simp)
          have gl11 := st11.out (hls' l hlm).2.1 (hls' l hlm).1
          refine rAppend_q hl11 (by
            rw [List.length_map, List.length_map]
            exact Nat.lt_of_le_of_lt (List.length_filter_le _ _) (by rw [List.length_take]; omega)) ?_
          refine ⟨G11, _, rfl, sg.trans (s10.g.trans s11.g), st11.trans (Step.mut st11.s gl11 hl11 hlm), fun kx l' hh h1 h2 => ?_⟩
          have et : o.rights.take (j + 1) = o.rights.take j ++ [q] := by rw [List.take_add_one, hq]; rfl
          rw [et, List.filter_append, List.map_append, List.map_append]
          by_cases e : l' = l
          · subst e
            have ek : kx = kq := by
              obtain ⟨a1, a2⟩ := List.getElem?_eq_some_iff.mp h1
              obtain ⟨b1, b2⟩ := List.getElem?_eq_some_iff.mp hll
              rcases Nat.lt_trichotomy kx kq with h | h | h
              · exact absurd (a2.trans b2.symm) (List.pairwise_iff_getElem.mp (List.nodup_iff_pairwise_ne.mp hnd) _ _ a1 b1 h)
              · exact h
              · exact absurd (b2.trans a2.symm) (List.pairwise_iff_getElem.mp (List.nodup_iff_pairwise_ne.mp hnd) _ _ b1 a1 h)
            subst ek
            obtain rfl : q.2 = hh := Option.some.inj (hkq.symm.trans h2)
            rw [upd_same, List.filter_cons_of_pos (by simp), List.filter_nil]
            rfl
          · have hne : ¬ q.2 = hh := by
              rintro rfl
              have ek : kx = kq := by
                obtain ⟨a1, a2⟩ := List.getElem?_eq_some_iff.mp h2
                rcases Nat.lt_trichotomy kx kq with h | h | h
                · exact absurd (a2.trans hke.symm) (List.pairwise_iff_getElem.mp (List.nodup_iff_pairwise_ne.mp htn) _ _ a1 hkl h)
                · exact h
                · exact absurd (hke.trans a2.symm) (List.pairwise_iff_getElem.mp (List.nodup_iff_pairwise_ne.mp htn) _ _ hkl a1 h)
              subst ek
              exact e (Option.some.inj (h1.symm.trans hll))
            rw [upd_ne e, List.filter_cons_of_neg (by simp [hne]), List.filter_nil, List.map_nil, List.map_nil, List.append_nil]
            exact s11.keep (s10.keep (hcur kx l' hh h1 h2) (by simp)) (by simp)
      · rintro σ H' ⟨G9, u2, rfl, sg, st9, hcur⟩
        have ej : (ofI (o.rights.map (·.1))).length = o.rights.length := by simp [ofI]
        rw [ej] at hcur
        have hcur' : ∀ (kx : Nat) (l : Addr) (hh : Int), ls[kx]? = some l → o.taken[kx]? = some hh → H' l = some (.lst (((o.rights.filter fun q => decide (q.2 = hh)).map (·.1)).map V.int)) := fun kx l hh h1 h2 => by
          have := hcur kx l hh h1 h2
          rwa [List.take_length] at this
        have stF : Step [] G H G9 H' := Step.drops ls (st2.pure.trans st9) fun l hl => (hls' l hl).2.2
        obtain ⟨G2, sF, g2, f2⟩ := Step.freezes (fun l => (H' l).getD (.lst [])) ls stF (fun l hl => by
          obtain ⟨a1, a2, a3⟩ := hls' l hl
          obtain ⟨o', e, _⟩ := st9.fr l _ a1
          exact ⟨a3, by rw [e]; rfl, st9.out a2 a1⟩) hnd
        have hdks : Dks K G2 kvs ((frO o).map fun p => ((.inl p.1 : Key), (PyData.list (ofI p.2)))) := by
          rw [← hkv]
          unfold frO
          rw [List.map_map]
          refine zipDks o.taken ls hl1.symm (fun h => (o.rights.filter fun q => decide (q.2 = h)).map (·.1)) fun kx l hh h1 h2 => ?_
          have := f2 l (List.mem_of_getElem? h2)
          rw [hcur' kx l hh h2 h1] at this
          exact this
        refine b_one (s_ret (w_var 1 rfl (k (.ref p) G2 H' sF (.dct (.inl (g2 _ _ (st9.g _ _ hpd))) hdks))))
end
end Mb

set_option Elab.async false
set_option linter.all false
set_option maxRecDepth 100000
set_option maxHeartbeats 2000000
namespace Mb
open PySem PySem.Spec PyProof.Rows L2 TL
/-! ### the first standing of an own hall, told both ways -/
def ownerI (o : Own) (x : Int) : Int := if x ∈ o.taken then -1 else ((o.rights.find? fun p => decide (p.1 = x)).map (·.2)).getD 0
def holdI (o : Own) : List Int := (rng o.names.length).map (ownerI o)
section
variable {o : Own}
theorem right_of (ho : OwnOk o) {x : Int} (h0 : 0 ≤ x) (h1 : x < o.names.length) (hx : x ∉ o.taken) : ∃ p, (o.rights.find? fun p => decide (p.1 = x)) = some p ∧ p ∈ o.rights ∧ p.1 = x := by
  have hk : x ∈ o.rights.map (·.1) := by
    rw [ho.rk, List.mem_filter, mem_rng]
    exact ⟨⟨h0, h1⟩, by rw [decide_eq_false hx]; rfl⟩
  obtain ⟨q, hq, eq⟩ := List.mem_map.mp hk
  cases hf : o.rights.find? (fun p => decide (p.1 = x)) with
  | none =>
    rw [List.find?_eq_none] at hf
    exact (hf q hq (by simpa using eq)).elim
  | some p => exact ⟨p, rfl, List.mem_of_find?_eq_some hf, by simpa using List.find?_some hf⟩
theorem holdJ_I (ho : OwnOk o) : holdJ o o.rights.length = (holdI o).map some := by
  unfold holdJ holdI
  rw [List.map_map]
  refine List.map_congr_left fun x hx => ?_
  obtain ⟨x0, x1⟩ := mem_rng.mp hx
  show _ = some (ownerI o x)
  unfold ownerI
  by_cases h : x ∈ o.taken
  · rw [if_pos h, if_pos h]
  · rw [if_neg h, if_neg h, List.take_length]
    obtain ⟨p, hp, _, _⟩ := right_of ho x0 x1 h
    rw [hp]
    rfl
theorem owner_right (ho : OwnOk o) {p : Int × Int} (hp : p ∈ o.rights) : ownerI o p.1 = p.2 := by
  have hm := ho.rkm p hp
  unfold ownerI
  rw [if_neg hm.2.2]
  obtain ⟨q, hq, hqm, hqe⟩ := right_of ho hm.1 hm.2.1 hm.2.2
  rw [hq]
  have hsort := ho.rks
  rw [List.pairwise_map] at hsort
  have : q = p := by
    obtain ⟨i, hi, e1⟩ := List.mem_iff_getElem.mp hqm
    obtain ⟨j, hj, e2⟩ := List.mem_iff_getElem.mp hp
    rcases Nat.lt_trichotomy i j with h | h | h
    · have := List.pairwise_iff_getElem.mp hsort i j hi hj h
      rw [e1, e2] at this
      omega
    · subst h
      exact e1.symm.trans e2
    · have := List.pairwise_iff_getElem.mp hsort j i hj hi h
      rw [e1, e2] at this
      omega
  subst this
  rfl
theorem zip_rights (hs : List Int) (i : Nat) : rightsOf hs i = (rng hs.length).filter fun x => decide (hs[x.toNat]? = some ((i : Nat) : Int)) := by
  have key : ∀ (l : List Int) (k : Nat), ((l.zipIdx k).filter fun p => decide (p.1 = ((i : Nat) : Int))).map (fun p => (p.2 : Int)) = ((List.range' k l.length).filter fun n => decide (l[n - k]? = some ((i : Nat) : Int))).map (fun (n : Nat) => (n : Int)) := by
    intro l
    induction l with
    | nil => intro k; rfl
    | cons y l ih =>
      intro k
      rw [List.zipIdx_cons, List.length_cons, List.range'_succ]
      have e2 : ((List.range' (k + 1) l.length).filter fun n => decide ((y :: l)[n - k]? = some ((i : Nat) : Int))) = ((List.range' (k + 1) l.length).filter fun n => decide (l[n - (k + 1)]? = some ((i : Nat) : Int))) := by
        refine List.filter_congr fun n hn => ?_
        rw [List.mem_range'_1] at hn
        rw [show n - k = (n - (k + 1)) + 1 by omega, List.getElem?_cons_succ]
      by_cases h : y = ((i : Nat) : Int)
      · rw [List.filter_cons_of_pos (by simpa using h), List.filter_cons_of_pos (by simpa using h), List.map_cons, List.map_cons, ih (k + 1), e2]
      · rw [List.filter_cons_of_neg (by simpa using h), List.filter_cons_of_neg (by simpa using h), ih (k + 1), e2]
  unfold rightsOf rng
  rw [key hs 0, List.filter_map]
  rw [show List.range' 0 hs.length = List.range hs.length from (List.range_eq_range' ..).symm]
  congr 1
theorem holdI_get {x : Int} (h0 : 0 ≤ x) (h1 : x < o.names.length) : (holdI o)[x.toNat]? = some (ownerI o x) := by
  unfold holdI rng
  rw [List.getElem?_map, List.getElem?_map, List.getElem?_range (by omega)]
  show some (ownerI o ((x.toNat : Nat) : Int)) = _
  rw [Int.toNat_of_nonneg h0]
theorem holdI_len : (holdI o).length = o.names.length := by
  unfold holdI
  rw [List.length_map, rng_len]
theorem rights_own (ho : OwnOk o) {i : Nat} (hi : i < o.names.length) : rightsOf (holdI o) i = (o.rights.filter fun q => decide (q.2 = ((i : Nat) : Int))).map (·.1) := by
  rw [zip_rights, holdI_len]
  have e1 : ((rng o.names.length).filter fun x => decide ((holdI o)[x.toNat]? = some ((i : Nat) : Int))) = ((rng o.names.length).filter fun x => decide (ownerI o x = ((i : Nat) : Int)) && !decide (x ∈ o.taken)) := by
    refine List.filter_congr fun x hx => ?_
    obtain ⟨x0, x1⟩ := mem_rng.mp hx
    rw [holdI_get x0 x1]
    by_cases ht : x ∈ o.taken
    · have : ownerI o x = -1 := by unfold ownerI; rw [if_pos ht]
      rw [this, decide_eq_true ht]
      have : ¬ ((-1 : Int) = ((i : Nat) : Int)) := by omega
      simp [this]
    · rw [decide_eq_false ht]
      simp
  rw [e1, ← List.filter_filter, ← ho.rk, List.filter_map]
  congr 1
  refine List.filter_congr fun p hp => ?_
  show decide (ownerI o p.1 = _) = _
  rw [owner_right ho hp]
theorem fr_find (x : Int) : (frO o).find? (fun p => decide (p.1 = x)) = if x ∈ o.taken then some (x, (o.rights.filter fun q => decide (q.2 = x)).map (·.1)) else none := by
  unfold frO
  induction o.taken with
  | nil => rfl
  | cons y tk ih =>
    rw [List.map_cons, List.find?_cons]
    by_cases h : y = x
    · subst h
      rw [if_pos List.mem_cons_self]
      simp
    · rw [show decide ((y, (o.rights.filter fun q => decide (q.2 = y)).map (·.1)).1 = x) = false from decide_eq_false h]
      rw [ih]
      have : (x ∈ y :: tk) = (x ∈ tk) := by
        rw [List.mem_cons]
        exact propext ⟨fun q => q.resolve_left fun e => h e.symm, .inr⟩
      simp only [this]
/-- the standing that the hall tells at first is the law's -/
theorem standing_own (ho : OwnOk o) : stD (holdI o) = (rng o.names.length).map (toldAt (frO o)) := by
  apply List.ext_getElem?
  intro i
  unfold stD
  rw [List.getElem?_mapIdx, List.getElem?_map]
  by_cases hi : i < o.names.length
  · have e1 := holdI_get (o := o) (x := ((i : Nat) : Int)) (by omega) (by omega)
    rw [Int.toNat_natCast] at e1
    have e2 : (rng o.names.length)[i]? = some ((i : Nat) : Int) := by
      unfold rng
      rw [List.getElem?_map, List.getElem?_range hi]
      rfl
    rw [e1, e2]
    show some _ = some (toldAt (frO o) ((i : Nat) : Int))
    congr 1
    unfold toldAt
    rw [fr_find]
    by_cases ht : ((i : Nat) : Int) ∈ o.taken
    · have eo : ownerI o ((i : Nat) : Int) = -1 := by unfold ownerI; rw [if_pos ht]
      rw [if_pos ht]
      dsimp only
      rw [if_pos eo, rights_own ho hi]
    · have eo : ¬ ownerI o ((i : Nat) : Int) = -1 := by
        obtain ⟨p, hp, hpm, hpe⟩ := right_of ho (x := ((i : Nat) : Int)) (by omega) (by omega) ht
        have := ho.tr _ (ho.rv p hpm)
        rw [← hpe, owner_right ho hpm]
        omega
      rw [if_neg ht]
      dsimp only
      rw [if_neg eo]
  · rw [List.getElem?_eq_none (by rw [holdI_len]; omega), List.getElem?_eq_none (by rw [rng_len]; omega)]
    rfl
end
end Mb

set_option Elab.async false
set_option linter.all false
set_option maxRecDepth 100000
set_option maxHeartbeats 2000000
/-! ==, !=, in and len by methods of an own class; repr of data. -/
namespace Mb
open PySem PySem.Spec PyProof.Rows L2

section
variable {X : Cx} {pins : List (Addr × Obj)} {σ : L2.St} {H : Hp} {s : Shared} {k : Nat} {f C : Addr} {fd : FuncData} {ps : List Str} {sp : Sp}
/-- a def runs somewhere below the body -/
theorem run_at {A : Around} {Q : VK} {us : List Value} {vs : List V} (hA : A.frames = X.A.frames) (F : FnOk X.prog X.w X.K X.mg X.base CX0 k f fd ps sp) (hr : Room k A) (hb : Binds X.K fd ps [])
    (I : Inv X pins σ H s) (r : Vals vs us) (h : sp vs H Q E0) : wpAny (model X.prog X.w) A (call (.ref f) us) (EP X pins σ Q) X.xe s := by
  have v0 : Env0 X.prog X.w X.K X.mg X.base A X.stack s H := { I.env0 with frames := by rw [hA]; exact I.env0.frames }
  have hl : us.length = ps.length := r.length.symm.trans (F.len _ _ _ _ h)
  have hbi : BindsTo s fd ⟨us, []⟩ (ps.zip us) := by simpa using hb s us I.kIn (by simpa using hl)
  refine wpAny_call (codeAny_mono (F.run A X.stack s H ⟨us, []⟩ us vs Q E0 hr v0 hbi r h) fun o s2 hq => ?_)
  match o, hq with
  | .ok (.ret u), hq => exact I.after hq
end

/-- a method of the class at C -/
structure Own1 (P : Program) (w : World) (K : PySem.W.Frag) (mg : Str → Option Value) (base : Heap) (C : Addr) (m : Str) (k : Nat) (sp : Sp) : Prop where
  ex : ∃ f fd ps, PySem.W.findIn K (.ref C) m = some (some (.ref f)) ∧ PySem.W.isFn K (.ref f) = true ∧ Binds K fd ps [] ∧ FnOk P w K mg base CX0 k f fd ps sp
/-- a comparison by an own method -/
def rOwn (K : PySem.W.Frag) (C : Addr) (sp : Sp) (g : Bool → Bool) : R2 := fun x y H Q => ∃ a dx fs tb, x = .ref a ∧ H a = some (.ins C dx fs) ∧ TyX K H y tb ∧ PySem.W.notFirst K C tb = true ∧ sp [x, y] H (fun v H' => ∃ b, v = .bl b ∧ Q (.bl (g b)) H') E0

section
variable {prog : Program} {w : World} {A : Around} {E : Value → Shared → Prop} {s : Shared} {K : PySem.W.Frag} {x C f : Addr} {h0 : Heap} {m : Str → Option Value} {L : Addr} {ox : Obj} {od : Option Obj} {b tb : Value}
open PySem.W Builtin in
theorem tryNe {Q : Value → Shared → Prop} (hu : A.in1.units < cLine) (KI : K.In s.heap) (I : InstAt s.heap x ox C od) (hne : findIn K (.ref C) "__ne__" = some (some (.builtin "object.__ne__"))) (hm : mroIn K C (.type "object") = some true)
    (hs : findIn K (.ref C) "__eq__" = some (some (.ref f))) (hf : isFn K (.ref f) = true) (h : wpAny (model prog w) A.in1 (call (.ref f) [.ref x, b]) (fun v s' => ∃ k, v = .bool k ∧ Q (.bool (!k)) s') E s) :
    wpAny (model prog w) A (tryCompare (.ref x) (cmpInfo .NotEq).2.1 b) (fun r s' => ∃ v, r = some v ∧ Q v s') E s := by
  have hc : wpAny (model prog w) A (call (.builtin "object.__ne__") [.ref x, b]) (fun v s' => ∃ k, v = .bool k ∧ Q (.bool k) s') E s := by
    refine wpAny_call (codeAny_call_builtin PySem.F.cmp_object.ne.plain PySem.F.cmpEntry_ne (check_slot (i := "object.__ne__") (owner := "object") (n := "__ne__") PySem.F.cmpKind_ne PySem.F.cmpSplit_ne (I.type.andThen (looks_mroIn KI hm)) (PySem.F.cmpArgs_ne _ _) ?_))
    unfold Builtin.«object.__ne__»
    refine wpAny_bind (m := slotArgs "__ne__" 1 _) (wpAny_pure ?_)
    refine wpAny_bind (m := cRoomFor _ _) (wpAny_cRoomFor hu ?_)
    refine wpAny_bind (m := callSpecialIfBound? (.ref x) (Str.ofString "__eq__") _) (ifBound_K KI I hs hf (wpAny_mono h (fun r s' hq => ?_) fun _ _ y => y))
    obtain ⟨k, rfl, hq⟩ := hq
    exact wpAny_bind (wpAny_truthy_bool (wpAny_pure ⟨_, rfl, hq⟩))
  unfold tryCompare
  refine wpAny_bind ?_
  have back : ∀ v s', (∃ k, v = Value.bool k ∧ Q (.bool k) s') → wpAny (model prog w) A (match (some v : Option Value) with | some .notImplemented | none => pure none | some v => pure (some v)) (fun r s' => ∃ v, r = some v ∧ Q v s') E s' := by
    rintro v s' ⟨k, rfl, q⟩
    exact wpAny_pure ⟨_, rfl, q⟩
  simp only [callSpecialIfBound?, bindSpecialIfBound?]
  refine wpAny_holding (wpAny_bind (wpAny_bind (wpAny_bind (I.type.here ((looks_findIn KI hne).here ?_)))))
  simp only [PySem.F.cmp_object.ne.bind]
  refine wpAny_bind (wpAny_askSetting (wpAny_ite ?_))
  have fin : wpAny (model prog w) A (call (.builtin "object.__ne__") ([.ref x] ++ [b]) >>= fun v => pure (some v)) (fun r s' => wpAny (model prog w) A (match r with | some .notImplemented | none => pure none | some v => pure (some v)) (fun r s' => ∃ v, r = some v ∧ Q v s') E s') E s :=
    wpAny_bind (wpAny_mono hc (fun v s' h' => wpAny_pure (back v s' h')) fun _ _ h' => h')
  split
  · exact wpAny_bind (wpAny_pure (wpAny_pure fin))
  · exact wpAny_tryCatch (wpAny_bind (wpAny_pure (wpAny_pure fin)))
open PySem.W Builtin in
theorem neOwn {Q : Value → Shared → Prop} (hu0 : A.units < cLine) (hu : A.in1.units < cLine) (KI : K.In s.heap) (I : InstAt s.heap x ox C od) (hb : Looks (model prog w) s.heap (typeOf b) tb) (hn : notFirst K C tb = true)
    (hne : findIn K (.ref C) "__ne__" = some (some (.builtin "object.__ne__"))) (hm : mroIn K C (.type "object") = some true) (hs : findIn K (.ref C) "__eq__" = some (some (.ref f))) (hf : isFn K (.ref f) = true)
    (h : wpAny (model prog w) A.in1 (call (.ref f) [.ref x, b]) (fun v s' => ∃ k, v = .bool k ∧ Q (.bool (!k)) s') E s) : wpAny (model prog w) A (richCompare .NotEq (.ref x) b) Q E s := by
  have one := tryNe (Q := Q) hu KI I hne hm hs hf h
  have go : ∀ z : Option Value → Sem Value, (∀ v, z (some v) = pure v) → wpAny (model prog w) A (tryCompare (.ref x) (cmpInfo .NotEq).2.1 b >>= z) Q E s := fun z hz =>
    wpAny_bind (wpAny_mono one (fun r s' q => by
      obtain ⟨v, rfl, q⟩ := q
      rw [hz]
      exact wpAny_pure q) fun _ _ e => e)
  unfold richCompare
  simp only [oneThing_ref]
  refine wpAny_holding (wpAny_bind (wpAny_cRoomFor hu0 ?_))
  refine wpAny_bind (I.type.here (wpAny_bind (hb.here ?_)))
  by_cases hq : (Value.ref C != tb) = true
  · have e : subIn K tb (.ref C) = some false := by
      rcases Bool.or_eq_true_iff.mp hn with e | e
      · rw [beq_iff_eq.mp e] at hq; simp at hq
      · exact beq_iff_eq.mp e
    rw [if_pos hq]
    refine wpAny_bind ((looks_subIn KI e).here ?_)
    simp only [Bool.false_eq_true, if_false]
    exact go _ fun _ => rfl
  · rw [if_neg hq]
    refine wpAny_bind (wpAny_pure ?_)
    simp only [Bool.false_eq_true, if_false]
    exact go _ fun _ => rfl
end

section
variable {X : Cx} {n : Nat} {C : Addr} {sp : Sp}
theorem op_ownEq (F : Own1 X.prog X.w X.K X.mg X.base C "__eq__" n sp) (hr : Room n X.A) : OpR X (compareOp .Eq) (rOwn X.K C sp id) := by
  obtain ⟨f, fd, ps, hs, hf, hb, F⟩ := F.ex
  intro pins s σ H x y v u Q I rx ry h
  obtain ⟨a, dx, fs, tb, rfl, ha, ty, nf, h⟩ := h
  obtain rfl : v = Value.ref a := rx
  obtain ⟨mA, J, _⟩ := ins_get I.hok ha
  obtain ⟨od, J, _⟩ := J.look
  obtain ⟨m, hF⟩ := I.fr
  obtain ⟨P, Z, p, _⟩ := kit_of I ry ty
  show wpAny _ _ (richCompare .Eq (.ref a) u) _ _ _
  refine PySem.W.cmp_K (op := .Eq) (tb := tb) hr.units0 hF I.ok.mod.kin J (Z.ty _ _ I.kIn p) nf hs hf ?_
  refine wpAny_mono (run_at (vs := [.ref a, y]) rfl F hr hb I (.cons rfl (.cons ry .nil)) h) (fun w s' q => ?_) fun _ _ e => e
  obtain ⟨z, H', I', rz, b, rfl, q⟩ := q
  obtain rfl : w = Value.bool b := rz
  exact ⟨.bl b, H', I', rfl, q⟩
theorem op_ownNe (F : Own1 X.prog X.w X.K X.mg X.base C "__eq__" n sp) (hr : Room (n + 1) X.A) (hne : PySem.W.findIn X.K (.ref C) "__ne__" = some (some (.builtin "object.__ne__"))) (hm : PySem.W.mroIn X.K C (.type "object") = some true) : OpR X (compareOp .NotEq) (rOwn X.K C sp not) := by
  obtain ⟨f, fd, ps, hs, hf, hb, F⟩ := F.ex
  intro pins s σ H x y v u Q I rx ry h
  obtain ⟨a, dx, fs, tb, rfl, ha, ty, nf, h⟩ := h
  obtain rfl : v = Value.ref a := rx
  obtain ⟨mA, J, _⟩ := ins_get I.hok ha
  obtain ⟨od, J, _⟩ := J.look
  obtain ⟨P, Z, p, _⟩ := kit_of I ry ty
  show wpAny _ _ (richCompare .NotEq (.ref a) u) _ _ _
  refine neOwn (tb := tb) hr.units0 hr.in1.units0 I.kIn J (Z.ty _ _ I.kIn p) nf hne hm hs hf ?_
  refine wpAny_mono (run_at (vs := [.ref a, y]) rfl F hr.in1 hb I (.cons rfl (.cons ry .nil)) h) (fun w s' q => ?_) fun _ _ e => e
  obtain ⟨z, H', I', rz, b, rfl, q⟩ := q
  obtain rfl : w = Value.bool b := rz
  exact ⟨b, rfl, .bl (!b), H', I', rfl, q⟩
theorem op_ownIn (F : Own1 X.prog X.w X.K X.mg X.base C "__contains__" n sp) (hr : Room n X.A) : OpR X (compareOp .In) (fun x y H Q => ∃ a dx fs, y = .ref a ∧ H a = some (.ins C dx fs) ∧ sp [y, x] H (fun v H' => ∃ b, v = .bl b ∧ Q (.bl b) H') E0) := by
  obtain ⟨f, fd, ps, hs, hf, hb, F⟩ := F.ex
  intro pins s σ H x y v u Q I rx ry h
  obtain ⟨a, dx, fs, rfl, ha, h⟩ := h
  obtain rfl : u = Value.ref a := ry
  obtain ⟨mA, J, _⟩ := ins_get I.hok ha
  obtain ⟨od, J, _⟩ := J.look
  obtain ⟨m, hF⟩ := I.fr
  refine PySem.W.in_K hF I.ok.mod.kin J hs hf ?_
  refine wpAny_mono (run_at (vs := [.ref a, x]) rfl F hr hb I (.cons rfl (.cons rx .nil)) h) (fun w s' q => ?_) fun _ _ e => e
  obtain ⟨z, H', I', rz, b, rfl, q⟩ := q
  obtain rfl : w = Value.bool b := rz
  exact wpAny_truthy_bool ⟨.bl b, H', I', rfl, q⟩
theorem call_ownLen (F : Own1 X.prog X.w X.K X.mg X.base C "__len__" n sp) (hr : Room (n + 1) X.A) : CallR X (.builtin "len") (fun xs H Q => ∃ a dx fs, xs = [.ref a] ∧ H a = some (.ins C dx fs) ∧ sp [.ref a] H (fun v H' => ∃ i : Int, v = .int i ∧ 0 ≤ i ∧ i < 2 ^ 63 ∧ Q (.int i) H') E0) := by
  obtain ⟨f, fd, ps, hs, hf, hb, F⟩ := F.ex
  intro pins s σ H xs us Q I r h
  obtain ⟨a, dx, fs, rfl, ha, h⟩ := h
  obtain ⟨u, rfl, rx⟩ := vals1 r
  obtain rfl : u = Value.ref a := rx
  obtain ⟨mA, J, _⟩ := ins_get I.hok ha
  obtain ⟨od, J, _⟩ := J.look
  obtain ⟨m, hF⟩ := I.fr
  refine PySem.W.len_K hF I.ok.mod.kin J hs hf ?_
  refine wpAny_mono (run_at (vs := [.ref a]) rfl F hr.in1 hb I (.cons rfl .nil) h) (fun w s' q => ?_) fun _ _ e => e
  obtain ⟨z, H', I', rz, i, rfl, i0, i1, q⟩ := q
  obtain ⟨t, rfl⟩ := rz
  exact ⟨⟨i0, i1⟩, .int i, H', I'.tok _, ⟨_, rfl⟩, q⟩
/-- repr of a list or tuple of data, where no repr is under way -/
theorem call_reprD (hg : X.A.guards = some []) (hu : X.A.units + 64 < cLine) : CallR X (.builtin "repr") (fun xs H Q => ∃ (a : Addr) (d : PyData), xs = [.ref a] ∧ Dp X.K H (.ref a) d ∧ d.showable = true ∧ d.hasDict = false ∧ d.depth ≤ 60 ∧ d.shown.length ≤ sizeLine ∧ Q (.str d.shown) H) := by
  intro pins s σ H xs us Q I r h
  obtain ⟨a, d, rfl, hd, h1, h2, h3, h4, q⟩ := h
  obtain ⟨u, rfl, rx⟩ := vals1 r
  obtain ⟨as, hr⟩ := Dp.reads I d _ _ hd rx
  obtain rfl : u = Value.ref a := rx
  exact repr_of_reads' hr h1 (fun e => by rw [h2] at e; cases e) hg (by omega) (fun _ _ e => e) (fun h' t tk hk => ⟨.str d.shown, H, I.kept hk, ⟨t, rfl⟩, q⟩) h4
theorem call_reprB : CallR X (.builtin "repr") (fun xs H Q => ∃ b : Bool, xs = [.bl b] ∧ Q (.str (if b then "True" else "False")) H) := by
  intro pins s σ H xs us Q I r h
  obtain ⟨b, rfl, q⟩ := h
  obtain ⟨u, rfl, rx⟩ := vals1 r
  obtain rfl : u = Value.bool b := rx
  exact PySem.P.repr_of_bool ⟨.str _, H, I.tok _, ⟨_, rfl⟩, q⟩
end
end Mb

set_option Elab.async false
set_option linter.all false
set_option maxRecDepth 100000
set_option maxHeartbeats 2000000
/-! Defs that are run where no repr is under way; objects made; enumerate from a start, by data. -/
namespace Mb
open PySem PySem.Spec PyProof.Rows L2

/-- a def's promise where no repr is under way -/
structure FnG (P : Program) (w : World) (K : PySem.W.Frag) (mg : Str → Option Value) (base : Heap) (k : Nat) (f : Addr) (fd : FuncData) (ps : List Str) (sp : Sp) : Prop where
  len : ∀ vs H Q, sp vs H Q E0 → vs.length = ps.length
  go : ∀ (A : Around) (outer : List Env) (s : Shared) (H : Hp) (args : Args) (us : List Value) (vs : List V) (Q : VK), A.guards = some [] → Room k A → Env0 P w K mg base A outer s H → BindsTo s fd args (ps.zip us) → Vals vs us → sp vs H Q E0 →
    codeAny (model P w) A (.call (.ref f) args) (CR CX0 outer P w H s Q E0) s
section
variable {P : Program} {w : World} {K : PySem.W.Frag} {mg : Str → Option Value} {base : Heap}
theorem mkFnG {x qual : Str} {st : Stmt} {f : Addr} {fd : FuncData} {N ps : List Str} {k : Nat} {sp : Sp} (D : Fun K x qual st f fd) (S : FnScope N ps (defScope st)) (len : ∀ vs H Q, sp vs H Q E0 → vs.length = ps.length)
    (body : ∀ (cdv : Value) (A : Around) (outer : List Env) (s : Shared) (H : Hp) (vs : List V) (Q : VK), A.guards = some [] → Room k (A.deeper (envOfC qual (defScope st) s.heap.objs.size f cdv)) → sp vs H Q E0 →
      eB (cxOf CX0 P w K mg base N qual (defScope st) f cdv A outer s H E0).nox (defBody st) { nx := fun _ H' => Q .non H', rt := Q } (start N vs) H) : FnG P w K mg base (k + 1) f fd ps sp := by
  obtain ⟨oc, od, kV, doc, pm, an, cdv, ct, osl, rfl, at_, isCode⟩ := D.ex
  refine ⟨len, fun A outer s H args us vs Q hg room v0 hbi r hsp => ?_⟩
  have kept : K.In s.heap := v0.mod.kin.keeps fun b o e => (v0.bs b o e).1
  have loc : ∀ y ∈ ps.zip us, (defScope st).names.lookup y.1 = some .local ∨ ((defScope st).names.lookup y.1 = some .cell ∧ ((cellsFrom (s.heap.objs.size + 1) (defScope st).names []).lookup y.1).isSome = true) := by
    rintro ⟨nm, val⟩ hy
    exact (S.par nm (List.of_mem_zip hy).1).imp (fun h => h) fun h => ⟨h, PySem.W.cellsFrom_some _ _ _ (.inl h)⟩
  refine codeAny_call_function room.depth (kept _ _ at_) rfl S.co S.gen rfl (PySem.W.codeRec_of kept isCode) (hbi _ _ _ _ (wpAny_newFunctionEnv_cells S.kind loc fun env he s1 new => ?_))
  subst he
  refine ⟨(v0.mod.nolimit.keeps fun b o e => (v0.bs b o e).1).keeps new.toInCall.keep, codeAny_func ?_⟩
  obtain ⟨t, rules, reads⟩ := body cdv A outer s H vs Q hg (room.deeper _) hsp
  have I := inv_start (CX := CX0) (E := E0) S room.hd v0 (len _ _ _ hsp) r new
  refine wpAny_mono (rules.nox.run [] s1 (start N vs) H _ I reads) (fun o s2 hs => ?_) fun _ _ h => h
  have done : ∀ {σ2 : L2.St} {H2 : Hp} {v : V} {u : Value}, Inv (cxOf CX0 P w K mg base N qual (defScope st) f cdv A outer s H E0) [] σ2 H2 s2 → RelV v u → Q v H2 → CE outer P w H s Q u s2 :=
    fun {σ2 H2 v u} J rv q => ⟨v, H2, J.os, J.bare, J.base, J.hok, rv, q⟩
  cases o with
  | ret u =>
    obtain ⟨v, σ2, H2, J, rv, q⟩ := hs
    exact done J rv q
  | next =>
    obtain ⟨σ2, H2, J, q⟩ := hs
    exact done (v := V.non) (u := Value.none) J rfl q
  | brk => exact (let ⟨_, _, _, q⟩ := hs; q).elim
  | cont => exact (let ⟨_, _, _, q⟩ := hs; q).elim
/-- the law itself is called where no repr is under way -/
theorem callG {mb : Str → Option Value} {k : Nat} {fa a : Addr} {sp : Sp} {s₁ : Shared} {vs : List Value} {ns : List Int}
    (kin : K.In s₁.heap) (nsm : s₁.heap.Ns mainGlobals mg) (nsb : s₁.heap.Ns builtinsNs mb) (boot : ∀ x : Str, x ≠ "__name__" → mb x = bootBuiltins x) (lim : s₁.heap.NoLimit) (gens : s₁.gens = #[])
    (ha : s₁.heap.get? a = some { cls := .type "list", data := .seq vs.toArray }) (hi : IntsAre vs ns) (hl : ns.length ≤ sizeLine) (room : Room k callerA)
    (F : ∀ base : Heap, K.In base → base.Ns mainGlobals mg → ∃ (fd : FuncData) (ps : List Str), ps.length = 1 ∧ Binds K fd ps [] ∧ FnG P w K mg base k fa fd ps sp)
    (hsp : ∀ H : Hp, SqL K H a (ns.map V.int) → sp [.ref a] H (fun v _ => v = .bl true) E0) :
    codeAny (model P w) callerA (.call (.ref fa) ⟨[.ref a], []⟩) (fun r s' => r = .ok (.ret (.bool true)) ∧ OldK s₁.heap s'.heap ∧ s'.os = s₁.os ∧ AllBare s'.gens) s₁ := by
  let script : Obj := { cls := .type "list", data := .seq vs.toArray }
  -- what of the heap is told: at most the script, as it is
  have main : ∀ H : Hp, (∀ b u, H b = some u → b = a ∧ u = .frz script (.lst (ns.map V.int)) ∧ K.lookup a = none) → SqL K H a (ns.map V.int) →
      codeAny (model P w) callerA (.call (.ref fa) ⟨[.ref a], []⟩) (fun r s' => r = .ok (.ret (.bool true)) ∧ OldK s₁.heap s'.heap ∧ s'.os = s₁.os ∧ AllBare s'.gens) s₁ := by
    intro H told seq
    have ok : HOk P w H s₁.heap := fun b u e => by
      obtain ⟨rfl, rfl, _⟩ := told b u e
      exact ⟨ha, by rw [List.length_map]; exact hl, vs, _, vals_ints hi, ha⟩
    have free : ∀ {b : Addr} {o : Obj}, s₁.heap.get? b = some o → (b = a → o ≠ script ∨ K.lookup a ≠ none) → H b = none := fun {b o} e ne => by
      cases q : H b with
      | none => rfl
      | some u =>
        obtain ⟨rfl, _, kn⟩ := told b u q
        rcases ne rfl with h | h
        · exact (h (Option.some.inj (e.symm.trans ha))).elim
        · exact (h kn).elim
    have nsOf : ∀ {b : Addr} {m : Str → Option Value}, s₁.heap.Ns b m → (hidT s₁.heap H).Ns b m := by
      rintro b m ⟨o, es, ep, e, d, r⟩
      refine ⟨o, es, ep, hidT_get e (free e fun _ => .inl fun z => ?_), d, r⟩
      rw [z] at d
      cases d
    have kb : K.In (hidT s₁.heap H) := fun b o e => hidT_get (kin b o e) (free (kin b o e) fun z => .inr (by rw [← z, e]; exact fun h => nomatch h))
    have mod : Mod K mg (hidT s₁.heap H) := ⟨kb, nsOf nsm, ⟨mb, nsOf nsb, boot⟩, let ⟨mc, h1, h2⟩ := lim; ⟨mc, nsOf h1, h2⟩⟩
    have v0 : Env0 P w K mg (hidT s₁.heap H) callerA [] s₁ H := ⟨rfl, mod, fun b o e => of_hidT e, Nat.le_of_eq (hidT_size _ _), trivial, (fun b hb => nomatch (show b ∈ ([] : List Addr) from hb)), ok, .of_eq gens⟩
    obtain ⟨fd, ps, one, bind, f⟩ := F _ kb (nsOf nsm)
    have bd : BindsTo s₁ fd ⟨[.ref a], []⟩ (ps.zip [.ref a]) := by simpa using bind s₁ [.ref a] kin (by simpa using one.symm)
    refine codeAny_mono (f.go callerA [] s₁ H ⟨[.ref a], []⟩ [.ref a] [.ref a] _ rfl room v0 bd (.cons rfl .nil) (hsp H seq)) fun o s2 hs => ?_
    match o, hs with
    | .ok (.ret u), ⟨v, H2, os, bare, un, ok2, rv, q⟩ =>
      obtain rfl : v = .bl true := q
      obtain rfl : u = Value.bool true := rv
      refine ⟨rfl, OldK.of_keep fun b o e => ?_, os, bare⟩
      cases q : H b with
      | none => exact un.keep b o e q (fun z => nomatch (show b ∈ ([] : List Addr) from z)) (fun z => nomatch z)
      | some u =>
        obtain ⟨rfl, rfl, _⟩ := told b u q
        obtain ⟨e1, _⟩ := ok _ _ q
        obtain ⟨e2, _⟩ := ok2 _ _ (un.frzs _ _ _ q)
        rw [e] at e1
        cases e1
        exact e2
  cases kn : K.lookup a with
  | some o =>
    have e := kin a o kn
    rw [ha] at e
    cases e
    exact main (fun _ => none) (fun b u z => nomatch z) (.inr ⟨_, vs.toArray, _, kn, rfl, rfl, rfl, by rw [List.size_toArray, hi.length]; exact hl, by simpa using vals_ints hi⟩)
  | none =>
    refine main (fun b => if b = a then some (.frz script (.lst (ns.map V.int))) else none) (fun b u z => ?_) (.inl (.inr ⟨script, if_pos rfl⟩))
    by_cases hb : b = a
    · rw [if_pos hb] at z
      exact ⟨hb, (Option.some.inj z).symm, kn⟩
    · rw [if_neg hb] at z
      cases z
end
/-- a def by its name, run where no repr is under way -/
structure HasG (P : Program) (w : World) (K : PySem.W.Frag) (mg : Str → Option Value) (base : Heap) (x : Str) (k : Nat) (n : Nat) (sp : Sp) : Prop where
  ex : ∃ f fd ps, ps.length = n ∧ mg x = some (.ref f) ∧ PySem.W.keepIn K (.ref f) = true ∧ Binds K fd ps [] ∧ FnG P w K mg base k f fd ps sp
theorem mkHasG {P : Program} {w : World} {K : PySem.W.Frag} {mg : Str → Option Value} {base : Heap} {x : Str} {st : Stmt} {N ps : List Str} {k : Nat} {sp : Sp} (T : Top1 K mg x st ps) (S : FnScope N ps (defScope st)) (len : ∀ vs H Q, sp vs H Q E0 → vs.length = ps.length)
    (body : ∀ (f : Addr) (cdv : Value) (A : Around) (outer : List Env) (s : Shared) (H : Hp) (vs : List V) (Q : VK), A.guards = some [] → Room k (A.deeper (envOfC x (defScope st) s.heap.objs.size f cdv)) → sp vs H Q E0 →
      eB (cxOf CX0 P w K mg base N x (defScope st) f cdv A outer s H E0).nox (defBody st) { nx := fun _ H' => Q .non H', rt := Q } (start N vs) H) : HasG P w K mg base x (k + 1) ps.length sp := by
  obtain ⟨f, fd, h1, D, hb⟩ := T.ex
  exact ⟨f, fd, ps, rfl, h1, D.kp, hb, mkFnG D S len fun cdv A outer s H vs Q => body f cdv A outer s H vs Q⟩
section
variable {X : Cx} {σ : L2.St} {H : Hp} {Q : VK} {e : Expr} {es : List Expr} {p pos : Pos} {x : Str} {k j n : Nat} {sp : Sp}
theorem w_callG (F : HasG X.prog X.w X.K X.mg X.base x k n sp) (hr : Room j X.A) (hk : k ≤ j) (quiet : X.A.guards = some []) (q : eA X (e :: es) σ H fun vs H1 => sp vs H1 Q E0) (hg : Gl X x := by rfl)
    (hdb : (x == ("__debug__" : Str)) = false := by decide) (he : starEach (e :: es) X.env = (false, eval e X.env) :: starEach es X.env := by rfl) (hpl : (backTo pos (starEach es X.env)).any (·.1) = false := by rfl) :
    eE X (.Call (.Name x p) (e :: es) [] pos) σ H Q := by
  obtain ⟨f, fd, ps, _, h1, h2, h3, h4⟩ := F.ex
  have call : PE X (.Call (.Name x p) (e :: es) [] pos) (tCall sp [] E0 (eA X (e :: es))) := ⟨fun pins s σ H Q I h => by
    refine wpAny_Call_Name_kw (ld_glob I hg h1 ?_ hdb)
    refine PySem.W.callWith_K (h₀ := X.base) I.ok.mod.kin h2 (thn (pa_e.run pos pins s σ H _ I h) fun us s1 ⟨vs, H1, I1, r, q⟩ => ⟨I1.kIn, ?_⟩) he hpl
    have q : sp vs H1 Q E0 := by simpa using q
    have hl : us.length = ps.length := r.length.symm.trans (h4.len _ _ _ q)
    have hbi : BindsTo s1 fd ⟨us, []⟩ (ps.zip us) := by simpa using h3 s1 us I1.kIn (by simpa using hl)
    refine wpAny_call (codeAny_mono (h4.go X.A X.stack s1 H1 ⟨us, []⟩ us vs Q quiet (hr.mono hk) I1.env0 hbi r q) fun o s2 hq => ?_)
    match o, hq with
    | .ok (.ret u), hq => exact I1.after hq⟩
  refine eE.mk call ?_
  obtain ⟨t, ht, q⟩ := q
  exact ⟨t, ht, by simpa using q⟩
end

/-! ### objects -/
/-- a class by its name, with what __init__ promises -/
structure HasI (P : Program) (w : World) (K : PySem.W.Frag) (mg : Str → Option Value) (base : Heap) (x : Str) (C : Addr) (k : Nat) (sp : Sp) : Prop where
  ex : ∃ f fd ps, mg x = some (.ref C) ∧ Mk K C f ∧ Binds K fd ps [] ∧ FnOk P w K mg base CX0 k f fd ps sp
section
variable {X : Cx} {σ : L2.St} {H : Hp} {Q : VK} {e : Expr} {es : List Expr} {p pos : Pos} {x : Str} {C : Addr} {k j : Nat} {sp : Sp}
theorem w_make (F : HasI X.prog X.w X.K X.mg X.base x C k sp) (hr : Room j X.A) (hk : k + 1 ≤ j) (q : eA X (e :: es) σ H fun vs H1 => ∀ a dx, H1 a = none → H1 dx = none → dx ≠ a → sp (.ref a :: vs) (upd (upd H1 dx (.own a)) a (.ins C dx [])) (fun v H2 => v = .non ∧ Q (.ref a) H2) E0)
    (hg : Gl X x := by rfl) (hdb : (x == ("__debug__" : Str)) = false := by decide) (he : starEach (e :: es) X.env = (false, eval e X.env) :: starEach es X.env := by rfl) (hpl : (backTo pos (starEach es X.env)).any (·.1) = false := by rfl) :
    eE X (.Call (.Name x p) (e :: es) [] pos) σ H Q := by
  obtain ⟨f, fd, ps, h1, h2, h3, h4⟩ := F.ex
  refine eE.mk (pe_make h2 h4 (hr.mono hk) hg h1 h3 .nil pass0 pa_e hdb he hpl) ?_
  obtain ⟨t, ht, q⟩ := q
  exact ⟨t, ht, by simpa using q⟩
theorem w_make0 (F : HasI X.prog X.w X.K X.mg X.base x C k sp) (hr : Room j X.A) (hk : k + 1 ≤ j) (q : ∀ a dx, H a = none → H dx = none → dx ≠ a → sp [.ref a] (upd (upd H dx (.own a)) a (.ins C dx [])) (fun v H2 => v = .non ∧ Q (.ref a) H2) E0)
    (hg : Gl X x := by rfl) (hdb : (x == ("__debug__" : Str)) = false := by decide) : eE X (.Call (.Name x p) [] [] pos) σ H Q := by
  obtain ⟨f, fd, ps, h1, h2, h3, h4⟩ := F.ex
  exact eE.mk (pe_make0 h2 h4 (hr.mono hk) hg h1 h3 .nil pass0 hdb) q
end
/-- a method of the text -/
structure TopM (K : PySem.W.Frag) (C : Addr) (x qual : Str) (st : Stmt) (ps : List Str) : Prop where
  ex : ∃ f fd, PySem.W.findIn K (.ref C) x = some (some (.ref f)) ∧ PySem.W.isFn K (.ref f) = true ∧ Fun K x qual st f fd ∧ Binds K fd ps []
section
variable {P : Program} {w : World} {K : PySem.W.Frag} {mg : Str → Option Value} {base : Heap} {C : Addr} {x qual : Str} {st : Stmt} {N ps : List Str} {k : Nat} {sp : Sp}
theorem mkOwn1 (T : TopM K C x qual st ps) (S : FnScope N ps (defScope st)) (len : ∀ vs H Q E, sp vs H Q E → vs.length = ps.length)
    (body : ∀ (f : Addr) (cdv : Value) (A : Around) (outer : List Env) (s : Shared) (H : Hp) (vs : List V) (Q : VK) (E : XK), Room k (A.deeper (envOfC qual (defScope st) s.heap.objs.size f cdv)) → sp vs H Q E →
      eB (cxOf CX0 P w K mg base N qual (defScope st) f cdv A outer s H E).nox (defBody st) { nx := fun _ H' => Q .non H', rt := Q } (start N vs) H) : Own1 P w K mg base C x (k + 1) sp := by
  obtain ⟨f, fd, h1, h2, D, hb⟩ := T.ex
  exact ⟨f, fd, ps, h1, h2, hb, D.ok S len fun cdv A outer s H vs Q E hr h => body f cdv A outer s H vs Q E hr h⟩
theorem mkHasI {y : Str} (T : TopM K C "__init__" qual st ps) (hm : mg y = some (.ref C)) (mk : PySem.W.makesIn K C = true) (kp : PySem.W.keepIn K (.ref C) = true) (S : FnScope N ps (defScope st)) (len : ∀ vs H Q E, sp vs H Q E → vs.length = ps.length)
    (body : ∀ (f : Addr) (cdv : Value) (A : Around) (outer : List Env) (s : Shared) (H : Hp) (vs : List V) (Q : VK) (E : XK), Room k (A.deeper (envOfC qual (defScope st) s.heap.objs.size f cdv)) → sp vs H Q E →
      eB (cxOf CX0 P w K mg base N qual (defScope st) f cdv A outer s H E).nox (defBody st) { nx := fun _ H' => Q .non H', rt := Q } (start N vs) H) : HasI P w K mg base y C (k + 1) sp := by
  obtain ⟨f, fd, ps', h1, h2, hb, h⟩ := (mkOwn1 T S len body).ex
  exact ⟨f, fd, ps', hm, ⟨mk, h1, h2, kp⟩, hb, h⟩
end
end Mb

set_option Elab.async false
set_option linter.all false
set_option maxRecDepth 100000
set_option maxHeartbeats 2000000
namespace Mb
open PySem PySem.Spec PyProof.Rows L2 TL
/-! ### a thing that changes, read as if it stood still -/
def del (G : Hp) (x : Addr) : Hp := fun b => if b = x then none else G b
theorem del_ne {G : Hp} {x b : Addr} (h : b ≠ x) : del G x b = G b := if_neg h
theorem del_self {G : Hp} {x : Addr} : del G x x = none := if_pos rfl
section
variable {A : List Addr} {G H G' H' : Hp} {x C dx : Addr} {o : HO} {fs : List (Str × V)} {K : PySem.W.Frag}
theorem Step.thaw (s : Step A (upd G x o) H G' H') (gx : G x = none) : Step A G H (del G' x) H' where
  g := fun b u e => by
    have hb : b ≠ x := fun z => by rw [z, gx] at e; cases e
    rw [del_ne hb]
    exact s.g b u (by rw [upd_ne hb]; exact e)
  s := fun b u e => by
    by_cases hb : b = x
    · rw [hb, del_self] at e; cases e
    · rw [del_ne hb] at e
      exact s.s b u e
  fr := s.fr
  new := fun b u e => by
    by_cases hb : b = x
    · rw [hb, del_self] at e; cases e
    · rw [del_ne hb] at e
      rcases s.new b u e with h | h
      · rw [upd_ne hb] at h
        exact .inl h
      · exact .inr h
theorem SqT.thaw {a : Addr} {xs : List V} (hx : G x = some (.ins C dx fs)) (h : SqT K G a xs) : SqT K (del G x) a xs := by
  rcases h with (h | ⟨o, h⟩) | h
  · refine .inl (.inl ?_)
    rw [del_ne fun z => by rw [z, hx] at h; cases h]
    exact h
  · refine .inl (.inr ⟨o, ?_⟩)
    rw [del_ne fun z => by rw [z, hx] at h; cases h]
    exact h
  · exact .inr h
mutual
theorem Da.thaw (hx : G x = some (.ins C dx fs)) : ∀ {d : Dt} {v : V}, Da K G v d → Da K (del G x) v d
  | _, _, .non => .non
  | _, _, .bl b => .bl b
  | _, _, .int i => .int i
  | _, _, .str y => .str y
  | _, _, .lst h hs => .lst (by rw [del_ne fun z => by rw [z, hx] at h; cases h]; exact h) (Das.thaw hx hs)
  | _, _, .tup h hs => .tup (SqT.thaw hx h) (Das.thaw hx hs)
  | _, _, .dct h hs => .dct (h.elim (fun h => .inl (by rw [del_ne fun z => by rw [z, hx] at h; cases h]; exact h)) fun ⟨o, h⟩ => .inr ⟨o, by rw [del_ne fun z => by rw [z, hx] at h; cases h]; exact h⟩) (Dks.thaw hx hs)
theorem Das.thaw (hx : G x = some (.ins C dx fs)) : ∀ {ds : List Dt} {vs : List V}, Das K G vs ds → Das K (del G x) vs ds
  | _, _, .nil => .nil
  | _, _, .cons h hs => .cons (Da.thaw hx h) (Das.thaw hx hs)
theorem Dks.thaw (hx : G x = some (.ins C dx fs)) : ∀ {ds : List (Key × Dt)} {vs : List (Key × V)}, Dks K G vs ds → Dks K (del G x) vs ds
  | _, _, .nil => .nil
  | _, _, .cons h hs => .cons (Da.thaw hx h) (Dks.thaw hx hs)
end
end
/-! ### slices of tuples -/
section
variable {X : Cx} {σ : L2.St} {G : Hp} {e : Expr} {pos p2 : Pos} {ds : List Dt}
theorem pu_slT {lo hi : Option Expr} {l u : Option Int} (ha : Pu X e σ G (.tuple ds)) (hl : PuO X lo σ G l) (hh : PuO X hi σ G u) (hw : ¬ (HT.sIx ds.length 0 l = 0 ∧ HT.sIx ds.length ds.length u = ds.length)) :
    Pu X (.Subscript e (.Slice lo hi none p2) pos) σ G (.tuple (cutD ds l u)) := fun G1 H g s Q q => by
  refine w_slice sl_tup (ha G1 H g s _ fun v G2 H2 s2 hd2 => hl G2 H2 (g.trans s2.g) s2.s _ fun G3 H3 s3 => hh G3 H3 (g.trans (s2.g.trans s3.g)) s3.s _ fun G4 H4 s4 => ?_)
  obtain ⟨m, vs, rfl, h1, h2⟩ := hd2.tup_inv
  refine ⟨m, vs, rfl, SqT.same (s3.g.trans (s4.g.trans s4.s)) h1, by rw [h2.length]; exact hw, fun p hp => ?_⟩
  exact q _ _ _ ((s2.trans (s3.trans s4)).trans (Step.alloc s4.s hp)) (.tup (SqT.of upd_same) ((h2.mono (s3.g.trans s4.g)).cut.mono (Same.toUpd (s4.s.free hp))))
end

/-! ### methods of the text -/
def cm (c : Stmt) (i : Nat) : Stmt := match c with
  | .ClassDef _ _ _ b _ _ _ _ _ _ _ => b.getD i (.Pass ⟨0, 0, 0, 0⟩)
  | _ => .Pass ⟨0, 0, 0, 0⟩
abbrev mDraftInit : Stmt := cm cDraft 0
abbrev mHallInit : Stmt := cm cHall 0
abbrev mHallLen : Stmt := cm cHall 1
abbrev mHallIn : Stmt := cm cHall 2
abbrev mHallEq : Stmt := cm cHall 3
section
variable {P : Program} {w : World} {K : PySem.W.Frag} {mg : Str → Option Value} {base : Heap} {C : Addr}
theorem DrAt.pure {G H G' H' : Hp} {a dx lh lk : Addr} {d : Dr} (h : DrAt K C G H a dx lh lk d) (s : Step [] G H G' H') : DrAt K C G' H' a dx lh lk d := by
  obtain ⟨vh, vks, h1, h2, h3, h4, h5, h6, h7, h8, h9, h10⟩ := h
  exact ⟨vh, vks, s.keep h1 (by simp), s.out h2 h1, h3.mono s.g, fun e => (h4 e).mono s.g, s.keep h5 (by simp), s.out h6 h5, s.keep h7 (by simp), s.out h8 h7, h9.mono s.g, h10⟩
theorem scDraftInit : FnScope ["self"] ["self"] (defScope mDraftInit) := ⟨rfl, rfl, rfl, by decide +kernel, rfl, by decide +kernel, by decide +kernel⟩
def spDraftInit (K : PySem.W.Frag) (C : Addr) : Sp := fun vs H Q _ => ∃ G a dx, vs = [.ref a] ∧ Same G H ∧ G a = none ∧ H a = some (.ins C dx []) ∧
  ∀ lh lk G' H', Step [a] G H G' H' → H lh = none → H lk = none → DrAt K C G' H' a dx lh lk ⟨[], [], []⟩ → Q .non H'
theorem spDraftInit_len : ∀ vs H Q E, spDraftInit K C vs H Q E → vs.length = 1 := fun vs H Q E ⟨G, a, dx, h, _⟩ => by rw [h]; rfl
theorem has_dinit (CD : ClsD K C) (T : TopM K C "__init__" "HallDraft.__init__" mDraftInit ["self"]) (hm : mg "HallDraft" = some (.ref C)) (mk : PySem.W.makesIn K C = true) (kp : PySem.W.keepIn K (.ref C) = true) : HasI P w K mg base "HallDraft" C 1 (spDraftInit K C) := by
  refine mkHasI (k := 0) T hm mk kp scDraftInit spDraftInit_len fun f cdv A outer s H vs Q E hr h => ?_
  obtain ⟨G, a, dx, rfl, g, ga, ha, k⟩ := h
  refine b_cons (s_fld (w_pu (pu_tup pua_nil) g fun v1 G1 H1 s1 hv1 => w_var 0 rfl ?_))
  have ha1 := s1.keep ha (by simp)
  have ga1 := s1.out ga ha
  refine ⟨a, C, dx, [], rfl, ha1, CD.cls, CD.hands, by decide, ?_⟩
  have st2 : Step [a] G H G1 (upd H1 a (.ins C dx [("hands", v1)])) := s1.pure.trans (Step.mut s1.s ga1 ha1 (by simp))
  refine b_cons (s_fld (w_emptyM fun lh hlh => w_var 0 rfl ?_))
  have hlh0 : H lh = none := st2.free hlh
  have nal : a ≠ lh := fun e => by rw [← e, ha] at hlh0; cases hlh0
  have st3 := st2.trans (Step.allocM (o := .lst []) st2.s hlh)
  have ha3 : (upd (upd H1 a (.ins C dx [("hands", v1)])) lh (.lst [])) a = some (.ins C dx [("hands", v1)]) := by rw [upd_ne nal]; exact upd_same
  refine ⟨a, C, dx, _, rfl, ha3, CD.cls, CD.holders, by show 1 < 1000; decide, ?_⟩
  have st4 := st3.trans (Step.mut (o' := .ins C dx [("hands", v1), ("holders", .ref lh)]) st3.s ga1 ha3 (by simp))
  refine b_one (s_fld (w_emptyM fun lk hlk => w_var 0 rfl ?_))
  have hlk0 : H lk = none := st4.free hlk
  have nak : a ≠ lk := fun e => by rw [← e, ha] at hlk0; cases hlk0
  have nlk : lh ≠ lk := fun e => by
    have q := hlk
    rw [← e, upd_ne (Ne.symm nal), upd_same] at q
    cases q
  have st5 := st4.trans (Step.allocM (o := .lst []) st4.s hlk)
  have ha5 : (upd (upd (upd (upd H1 a (.ins C dx [("hands", v1)])) lh (.lst [])) a (.ins C dx [("hands", v1), ("holders", .ref lh)])) lk (.lst [])) a = some (.ins C dx [("hands", v1), ("holders", .ref lh)]) := by rw [upd_ne nak]; exact upd_same
  refine ⟨a, C, dx, _, rfl, ha5, CD.cls, CD.kinds, by show 2 < 1000; decide, ?_⟩
  have st6 := st5.trans (Step.mut (o' := .ins C dx [("hands", v1), ("holders", .ref lh), ("kinds", .ref lk)]) st5.s ga1 ha5 (by simp))
  have glh : G1 lh = none := by
    cases q : G1 lh with
    | none => rfl
    | some o =>
      cases (st2.s _ _ q).symm.trans hlh
  have glk : G1 lk = none := by
    cases q : G1 lk with
    | none => rfl
    | some o =>
      cases (st4.s _ _ q).symm.trans hlk
  refine k lh lk G1 _ st6 hlh0 hlk0 ⟨v1, [], upd_same, ga1, hv1, fun e => (e rfl).elim, ?_, glh, ?_, glk, .nil, nlk⟩
  · rw [upd_ne (Ne.symm nal), upd_ne nlk, upd_ne (Ne.symm nal)]
    exact upd_same
  · rw [upd_ne (Ne.symm nak)]
    exact upd_same
end
end Mb

set_option Elab.async false
set_option linter.all false
set_option maxRecDepth 100000
set_option maxHeartbeats 4000000
namespace Mb
open PySem PySem.Spec PyProof.Rows L2 TL
/-! ### a hall is made of the text of an own hall -/
structure ClsH (K : PySem.W.Frag) (C : Addr) : Prop where
  cls : Cls K C
  text : NoAttr K C "text"
  hands : NoAttr K C "hands"
  kinds : NoAttr K C "kinds"
  holders : NoAttr K C "first_holders"
  standing : NoAttr K C "first_standing"
  lots : NoAttr K C "lots"
  still : NoAttr K C "is_still"
def stillO (o : Own) : Bool := (o.kinds.map fun k => PyData.eqv (.tuple [optD k.b, optD k.e, optD k.g]) (.tuple [.none, .none, .none])).all id
def lotsD (o : Own) : List Dt := o.kinds.map fun k => .tuple (ofI (lotK k))
structure HallF (K : PySem.W.Frag) (G : Hp) (o : Own) (fs : List (Str × V)) : Prop where
  ex : ∃ v1 v2 v3 v4 v5 : V, fs = ([("text", .str (textO o)), ("hands", v1), ("kinds", v2), ("first_holders", v3), ("first_standing", v4), ("lots", v5), ("is_still", .bl (stillO o))] : List (Str × V)) ∧ Da K G v1 (.tuple (ofS o.names)) ∧ Da K G v2 (.tuple (o.kinds.map kdD)) ∧
    Da K G v3 (.tuple (ofI (holdI o))) ∧ Da K G v4 (.tuple (stD (holdI o))) ∧ Da K G v5 (.tuple (lotsD o))
theorem HallF.mono {K : PySem.W.Frag} {G G' : Hp} {o : Own} {fs : List (Str × V)} (h : HallF K G o fs) (s : Same G G') : HallF K G' o fs := by
  obtain ⟨v1, v2, v3, v4, v5, e, h1, h2, h3, h4, h5⟩ := h.ex
  exact ⟨v1, v2, v3, v4, v5, e, h1.mono s, h2.mono s, h3.mono s, h4.mono s, h5.mono s⟩
theorem shaped_opts (k : Kd) : SeqAt.shaped (.tuple [optD k.b, optD k.e, optD k.g]) = true ∧ nod (.tuple [optD k.b, optD k.e, optD k.g]) = true := by
  obtain ⟨n, c, b, e, g⟩ := k
  cases b <;> cases e <;> cases g <;> exact ⟨rfl, rfl⟩
section
variable {P : Program} {w : World} {K : PySem.W.Frag} {mg : Str → Option Value} {base : Heap} {CD CH : Addr}
abbrev HTLine (P w K mg base) (C : Addr) := Has P w K mg base "takes_line" 4 2 (spLine K C)
abbrev HStanding (P w K mg base) := Has P w K mg base "standing_told" 1 1 (spPure K 1 rStanding)
abbrev HLot (P w K mg base) := Has P w K mg base "lot_told" 1 1 (spPure K 1 rLotTold)
abbrev nHallInit : List Str := ["self", "text", "draft", "lines", "number", "line", "kind"]
theorem scHallInit : FnScope nHallInit ["self", "text"] (defScope mHallInit) := ⟨rfl, rfl, rfl, by decide +kernel, rfl, by decide +kernel, by decide +kernel⟩
def spHallInit (K : PySem.W.Frag) (C : Addr) : Sp := fun vs H Q _ => ∃ G x dx o, vs = [.ref x, .str (textO o)] ∧ Same G H ∧ G x = none ∧ H x = some (.ins C dx []) ∧ OwnOk o ∧
  ∀ fs G' H', Step [x] G H G' H' → G' x = none → H' x = some (.ins C dx fs) → HallF K G' o fs → Q .non H'
theorem spHallInit_len {C : Addr} : ∀ vs H Q E, spHallInit K C vs H Q E → vs.length = 2 := fun vs H Q E ⟨G, x, dx, o, h, _⟩ => by rw [h]; rfl
theorem text_len {o : Own} (ho : OwnOk o) : (textO o).length ≤ 1500 := by
  have h := linesO_len ho
  refine Nat.le_trans (join_len_le "\n" 99 (linesO o) h.2) (Nat.le_trans (Nat.mul_le_mul_right _ h.1) (by decide))
theorem has_hinit (DD : ClsD K CD) (DH : ClsH K CH) (T : TopM K CH "__init__" "Hall.__init__" mHallInit ["self", "text"]) (hm : mg "Hall" = some (.ref CH)) (mk : PySem.W.makesIn K CH = true) (kp : PySem.W.keepIn K (.ref CH) = true) (B : Blt mg)
    (hD : HasI P w K mg base "HallDraft" CD 1 (spDraftInit K CD)) (hL : HTLine P w K mg base CD) (hS : HStanding P w K mg base) (hO : HLot P w K mg base) : HasI P w K mg base "Hall" CH 5 (spHallInit K CH) := by
  refine mkHasI (k := 4) T hm mk kp scHallInit spHallInit_len fun f cdv A outer s H vs Q E hr h => ?_
  obtain ⟨G, x, dx, o, rfl, g, gx, hx, ho, k⟩ := h
  have tl := text_len ho
  refine b_cons (s_if (t_pu (put_not (put_val (pu_isi (k := true) (pu_var 1 rfl (.str _)) (fun _ _ _ _ hv => isS_str hv) B.isinstance B.str (by decide +kernel)))) g fun G1 H1 s1 => ite2 (fun hc => by cases hc) (fun _ => b_nil ?_)))
  have hx1 := s1.keep hx (by simp)
  refine b_cons (s_set 2 scHallInit.nd (w_make0 hD hr (by decide) fun a dxa ha1 hd1 nda => ?_))
  have ha0 : H a = none := s1.free ha1
  have st1 : Step [] G H G1 (upd H1 dxa (.own a)) := s1.trans (Step.allocM s1.s hd1)
  have ha2 : (upd H1 dxa (.own a)) a = none := by rw [upd_ne (Ne.symm nda)]; exact ha1
  have st2 : Step [] G H G1 (upd (upd H1 dxa (.own a)) a (.ins CD dxa [])) := st1.trans (Step.allocM st1.s ha2)
  refine ⟨G1, a, dxa, rfl, st2.s, s1.s.free ha1, upd_same, fun lh lk G3 H3 s3 hlh hlk hd => ⟨rfl, ?_⟩⟩
  have hlk0 : H lk = none := st2.free hlk
  have st4 : Step [] G H G3 H3 := Step.drop ha0 (st2.pure.trans s3)
  refine b_cons (s_set 3 scHallInit.nd (w_pu (d := .list (ofS (linesO o))) (Pu.to (pu_split (pu_var 1 rfl (.str _)) pu_str (by decide) ?len) (by rw [split_text ho])) st4.s fun vl G5 H5 s5 hvl => ?_))
  case len => exact Nat.le_trans (Nat.add_le_add_right tl 2) (by decide)
  have st5 := st4.trans s5
  have F5 := hd.pure s5
  refine b_cons (s_forD (src_enumK (k := 1) (pu_var 3 rfl hvl) B.enumerate (by decide) (by decide)) st5.s fun G6 H6 s6 => ⟨fun i σ H' => ∃ (Gi : Hp) (lh' : Addr) (u4 u5 u6 : Option V), σ = [some (.ref x), some (.str (textO o)), some (.ref a), some vl, u4, u5, u6] ∧ Same G6 Gi ∧
    Step [] G H Gi H' ∧ DrAt K CD Gi H' a dxa lh' lk (dAt o i) ∧ H lh' = none, ?_, ?_, ?_, ?_⟩)
  · exact ⟨G6, lh, _, _, _, rfl, Same.refl _, st5.trans s6, F5.pure s6, st2.free hlh⟩
  · rintro i σ H' ⟨Gi, lh', u4, u5, u6, rfl, sg, st, F, hl⟩
    exact sg.trans st.s
  · rintro i d y σ H' H9 hi ⟨Gi, lh', u4, u5, u6, rfl, sg, st, F, hl⟩ hw
    unfold enumD ofS at hi
    rw [List.getElem?_mapIdx, List.getElem?_map, lines_words, List.getElem?_map] at hi
    obtain ⟨q, hq, rfl⟩ := Option.map_eq_some_iff.mp hi
    obtain ⟨l, hl1, rfl⟩ := Option.map_eq_some_iff.mp hq
    obtain ⟨ws, hws, rfl⟩ := Option.map_eq_some_iff.mp hl1
    have hwm := List.mem_of_getElem? hws
    obtain ⟨G10, s10, hx10⟩ := hw Gi sg st.s
    obtain ⟨t2, ts2, rfl, ht2, hts2⟩ := hx10.tup_inv
    cases hts2 with
    | cons y1 hts2 =>
    cases hts2 with
    | cons y2 hts2 =>
    cases hts2
    obtain rfl := y1.int_inv
    obtain rfl := y2.str_inv
    have F10 := F.pure s10
    have st10 := st.trans s10
    have hll : (Txt.join " " ws).length ≤ 99 := (linesO_len ho).2 _ (by rw [lines_words]; exact List.mem_map_of_mem hwm)
    refine g_tup (SqT.same s10.s ht2) rfl (gs_cons (g_name 4 scHallInit.nd (gs_cons (g_name 5 scHallInit.nd (gs_nil (b_one (s_if (t_not (t_val (w_call hL hr (by decide) (a_cons (w_var 2 rfl (a_cons (w_pu (d := .list (ofS ws)) (Pu.to (pu_split (pu_var 5 rfl (.str _)) pu_str (by decide) ?len2) (by rw [split_line ho ws hwm])) st10.s fun vw G11 H11 s11 hvw => a_nil ?_))))))))))))))
    case len2 => exact Nat.le_trans (Nat.add_le_add_right hll 2) (by decide)
    have st11 := st10.trans s11
    refine ⟨G11, a, dxa, lh', lk, dAt o i, vw, ws, rfl, st11.s, F10.pure s11, dAt_ok ho i, hvw, words_wds ho ws hwm, fun hb => ?_, fun d' hb lh2 G12 H12 s12 hl2 F12 => ⟨true, rfl, ite2 (fun hc => by cases hc) (fun _ => b_nil ?_)⟩⟩
    · rw [dAt_step ho hws] at hb
      cases hb
    · rw [dAt_step ho hws] at hb
      obtain rfl := Option.some.inj hb
      refine ⟨G12, lh2, _, _, _, rfl, sg.trans (s10.g.trans (s11.g.trans s12.g)), Step.drop hlk0 (Step.drop hl (Step.drop ha0 (st11.pure.trans s12))), F12, ?_⟩
      rcases hl2 with rfl | h
      · exact hl
      · exact st11.free h
  · rintro σ H' ⟨Gi, lh', u4, u5, u6, rfl, sg, st, F, hl⟩
    have en : (enumD 1 (ofS (linesO o))).length = (wordsO o).length := by
      unfold enumD ofS
      rw [List.length_mapIdx, List.length_map, lines_words, List.length_map]
    rw [en, dAt_end ho] at F
    obtain ⟨vh, vks, h1, h2, h3, _, h5, h6, h7, h8, h9, h10⟩ := F
    have h5 : H' lh' = some (.lst ((holdJ o o.rights.length).map oV)) := h5
    have nal : a ≠ lh' := fun e => by rw [e, h5] at h1; cases h1
    have nak : a ≠ lk := fun e => by rw [e, h7] at h1; cases h1
    have e6 : (upd Gi a (.ins CD dxa [("hands", vh), ("holders", .ref lh'), ("kinds", .ref lk)])) lh' = none := by rw [upd_ne (Ne.symm nal)]; exact h6
    have e8 : (upd (upd Gi a (.ins CD dxa [("hands", vh), ("holders", .ref lh'), ("kinds", .ref lk)])) lh' (.lst ((holdJ o o.rights.length).map oV))) lk = none := by rw [upd_ne (Ne.symm h10), upd_ne (Ne.symm nak)]; exact h8
    have st7 := ((st.freeze ha0 h1 h2).freeze hl h5 e6).freeze hlk0 h7 e8
    have uA : Same Gi (upd (upd (upd Gi a (.ins CD dxa [("hands", vh), ("holders", .ref lh'), ("kinds", .ref lk)])) lh' (.lst ((holdJ o o.rights.length).map oV))) lk (.lst vks)) := (Same.toUpd h2).trans ((Same.toUpd e6).trans (Same.toUpd e8))
    have haA : (upd (upd (upd Gi a (.ins CD dxa [("hands", vh), ("holders", .ref lh'), ("kinds", .ref lk)])) lh' (.lst ((holdJ o o.rights.length).map oV))) lk (.lst vks)) a = some (.ins CD dxa [("hands", vh), ("holders", .ref lh'), ("kinds", .ref lk)]) := by rw [upd_ne nak, upd_ne nal]; exact upd_same
    have hoA : Da K (upd (upd (upd Gi a (.ins CD dxa [("hands", vh), ("holders", .ref lh'), ("kinds", .ref lk)])) lh' (.lst ((holdJ o o.rights.length).map oV))) lk (.lst vks)) (.ref lh') (.list (ofI (holdI o))) := by
      refine .lst (xs := (holdI o).map V.int) ?_ (Das.ofInts _)
      rw [upd_ne h10, upd_same, holdJ_I ho, List.map_map]
      rfl
    have hkA : Da K (upd (upd (upd Gi a (.ins CD dxa [("hands", vh), ("holders", .ref lh'), ("kinds", .ref lk)])) lh' (.lst ((holdJ o o.rights.length).map oV))) lk (.lst vks)) (.ref lk) (.list (o.kinds.map kdD)) := .lst upd_same (h9.mono uA)
    have hvA := h3.mono uA
    generalize hG7 : (upd (upd (upd Gi a (.ins CD dxa [("hands", vh), ("holders", .ref lh'), ("kinds", .ref lk)])) lh' (.lst ((holdJ o o.rights.length).map oV))) lk (.lst vks)) = G7 at *
    clear uA e6 e8 hG7
    have ek : (o.kinds.map kdD).length = o.kinds.length := by simp
    have k1 := ho.k1
    have k8 := ho.k8
    have m5 := ho.m5
    refine b_cons (s_if (t_pu (put_c (c_eqI (i := (o.kinds.length : Int)) (Pu.to (pu_lenL (pu_pv (pv_fld 2 rfl haA DD.cls DD.kinds rfl) hkA) B.len) (by rw [ek])) pu_int)) st7.s fun G8 H8 s8 => ite2 (fun hc => absurd (of_decide_eq_true hc) (by omega)) (fun _ => b_nil ?_)))
    have st8 := st7.trans s8
    have hx8 := st8.keep hx (by simp)
    have gx8 := st8.out gx hx
    have ha8 := s8.g _ _ haA
    -- self.text
    refine b_cons (s_fld (w_var 1 rfl (w_var 0 rfl ⟨x, CH, dx, [], rfl, hx8, DH.cls, DH.text, by decide, ?_⟩)))
    have st9 : Step [x] G H G8 (upd H8 x (.ins CH dx [("text", .str (textO o))])) := st8.pure.trans (Step.mut st8.s gx8 hx8 (by simp))
    -- self.hands
    refine b_cons (s_fld (w_pv (pv_fld 2 rfl ha8 DD.cls DD.hands rfl) st9.s (w_var 0 rfl ⟨x, CH, dx, [("text", .str (textO o))], rfl, upd_same, DH.cls, DH.hands, by show 1 < 1000; decide, ?_⟩)))
    have st10 : Step [x] G H G8 (upd (upd H8 x (.ins CH dx [("text", .str (textO o))])) x (.ins CH dx [("text", .str (textO o)), ("hands", vh)])) := st9.trans (Step.mut st9.s gx8 upd_same (by simp))
    -- self.kinds
    refine b_cons (s_fld (w_pu (pu_tupleL (pu_pv (pv_fld 2 rfl ha8 DD.cls DD.kinds rfl) (hkA.mono s8.g)) B.tuple) st10.s fun v2 G11 H11 s11 hv2 => w_var 0 rfl ⟨x, CH, dx, [("text", .str (textO o)), ("hands", vh)], rfl, s11.keep upd_same (by simp), DH.cls, DH.kinds, by show 2 < 1000; decide, ?_⟩))
    have gx11 := s11.out gx8 upd_same
    have st11 : Step [x] G H G11 (upd H11 x (.ins CH dx [("text", .str (textO o)), ("hands", vh), ("kinds", v2)])) := (st10.trans s11.pure).trans (Step.mut s11.s gx11 (s11.keep upd_same (by simp)) (by simp))
    -- self.first_holders
    refine b_cons (s_fld (w_pu (pu_tupleL (pu_pv (pv_fld 2 rfl (s11.g _ _ ha8) DD.cls DD.holders rfl) (hoA.mono (s8.g.trans s11.g))) B.tuple) st11.s fun v3 G12 H12 s12 hv3 => w_var 0 rfl ⟨x, CH, dx, [("text", .str (textO o)), ("hands", vh), ("kinds", v2)], rfl, s12.keep upd_same (by simp), DH.cls, DH.holders, by show 3 < 1000; decide, ?_⟩))
    have gx12 := s12.out gx11 upd_same
    have st12 : Step [x] G H G12 (upd H12 x (.ins CH dx [("text", .str (textO o)), ("hands", vh), ("kinds", v2), ("first_holders", v3)])) := (st11.trans s12.pure).trans (Step.mut s12.s gx12 (s12.keep upd_same (by simp)) (by simp))
    -- self.first_standing
    refine b_cons (s_fld (w_call hS hr (by decide) (a_cons (w_fld (w_var 0 rfl ⟨x, CH, dx, _, v3, rfl, upd_same, DH.cls, DH.holders, rfl, a_nil ⟨G12, [.tuple (ofI (holdI o))], .tuple (stD (holdI o)), rfl, st12.s, .one hv3, ⟨holdI o, rfl, by rw [holdI_len]; omega, rfl⟩, fun v4 G13 H13 s13 hv4 => w_var 0 rfl ⟨x, CH, dx, [("text", .str (textO o)), ("hands", vh), ("kinds", v2), ("first_holders", v3)], rfl, s13.keep upd_same (by simp), DH.cls, DH.standing, by show 4 < 1000; decide, ?_⟩⟩⟩)))))
    have gx13 := s13.out gx12 upd_same
    have st13 : Step [x] G H G13 (upd H13 x (.ins CH dx [("text", .str (textO o)), ("hands", vh), ("kinds", v2), ("first_holders", v3), ("first_standing", v4)])) := (st12.trans s13.pure).trans (Step.mut s13.s gx13 (s13.keep upd_same (by simp)) (by simp))
    have hk13 := hv2.mono (s12.g.trans s13.g)
    have gs13 : Same (upd G13 x (.ins CH dx [("text", .str (textO o)), ("hands", vh), ("kinds", v2), ("first_holders", v3), ("first_standing", v4)])) (upd H13 x (.ins CH dx [("text", .str (textO o)), ("hands", vh), ("kinds", v2), ("first_holders", v3), ("first_standing", v4)])) := stillS st13.s upd_same
    -- self.lots
    refine b_cons (s_fld (w_pu (d := .tuple (lotsD o)) (pu_tupleL (Pu.to (pu_lc1 6 (cd := kdD) (ns := o.kinds) (src_tup (pu_pv (pv_fld 0 rfl (upd_same (H := G13)) DH.cls DH.kinds rfl) (hk13.mono (Same.toUpd gx13)))) (fun q => .tuple (ofI (lotK q))) (fun _ => true) scHallInit.nd (fun _ _ _ _ _ _ _ _ _ _ _ => puts_nil)
      (fun n hn _ v G2 g2 hv _ _ _ _ _ => pu_call hO hr (by decide) (pua_cons (pu_var 6 rfl hv) pua_nil) ⟨n, rfl, ?nl, rfl⟩ rfl) (by omega)) (by rw [filter_tt]; rfl)) B.tuple) gs13 fun v5 G14 H14 s14 hv5 => w_var 0 rfl ⟨x, CH, dx, [("text", .str (textO o)), ("hands", vh), ("kinds", v2), ("first_holders", v3), ("first_standing", v4)], rfl, s14.keep upd_same (by simp), DH.cls, DH.lots, by show 5 < 1000; decide, ?_⟩))
    case nl =>
      have := (ho.kd n hn).row.rc.2
      omega
    have t14 := s14.thaw gx13
    have d14 := hv5.thaw (s14.g x _ upd_same)
    generalize del G14 x = G15 at t14 d14
    have gx15 := t14.out gx13 upd_same
    have st14 : Step [x] G H G15 (upd H14 x (.ins CH dx [("text", .str (textO o)), ("hands", vh), ("kinds", v2), ("first_holders", v3), ("first_standing", v4), ("lots", v5)])) := (st13.trans t14.pure).trans (Step.mut t14.s gx15 (t14.keep upd_same (by simp)) (by simp))
    have hk15 := hk13.mono t14.g
    have gs14 : Same (upd G15 x (.ins CH dx [("text", .str (textO o)), ("hands", vh), ("kinds", v2), ("first_holders", v3), ("first_standing", v4), ("lots", v5)])) (upd H14 x (.ins CH dx [("text", .str (textO o)), ("hands", vh), ("kinds", v2), ("first_holders", v3), ("first_standing", v4), ("lots", v5)])) := stillS st14.s upd_same
    -- self.is_still
    refine b_one (s_fld (w_pu (d := .bool (stillO o)) (pu_all (bs := o.kinds.map fun q => PyData.eqv (.tuple [optD q.b, optD q.e, optD q.g]) (.tuple [.none, .none, .none])) (Pu.to (pu_lc1 6 (cd := kdD) (ns := o.kinds) (src_tup (pu_pv (pv_fld 0 rfl (upd_same (H := G15)) DH.cls DH.kinds rfl) (hk15.mono (Same.toUpd gx15))))
      (fun q => .bool (PyData.eqv (.tuple [optD q.b, optD q.e, optD q.g]) (.tuple [.none, .none, .none]))) (fun _ => true) scHallInit.nd (fun _ _ _ _ _ _ _ _ _ _ _ => puts_nil)
      (fun n hn _ v G2 g2 hv _ _ _ _ _ => pu_c (c_eqD (d1 := .tuple [optD n.b, optD n.e, optD n.g]) (Pu.to (pu_slT (pu_var 6 rfl hv) (puo_some pu_int) puo_none (by simp [HT.sIx])) ?sl) (pu_tup (pua_cons pu_non (pua_cons pu_non (pua_cons pu_non pua_nil)))) (shaped_opts n).2 rfl (shaped_opts n).1 rfl (hu64 hr))) (by omega)) (by rw [filter_tt, List.map_map]; rfl)) B.all) gs14 fun v6 G16 H16 s16 hv6 => w_var 0 rfl ⟨x, CH, dx, [("text", .str (textO o)), ("hands", vh), ("kinds", v2), ("first_holders", v3), ("first_standing", v4), ("lots", v5)], rfl, s16.keep upd_same (by simp), DH.cls, DH.still, by show 6 < 1000; decide, ?_⟩))
    case sl => rfl
    obtain rfl := hv6.bl_inv
    have t16 := s16.thaw gx15
    have gx17 := t16.out gx15 upd_same
    have st17 : Step [x] G H (del G16 x) (upd H16 x (.ins CH dx [("text", .str (textO o)), ("hands", vh), ("kinds", v2), ("first_holders", v3), ("first_standing", v4), ("lots", v5), ("is_still", .bl (stillO o))])) := (st14.trans t16.pure).trans (Step.mut t16.s gx17 (t16.keep upd_same (by simp)) (by simp))
    refine k _ _ _ st17 gx17 upd_same ⟨vh, v2, v3, v4, v5, rfl, ?_, hk15.mono t16.g, hv3.mono (s13.g.trans (t14.g.trans t16.g)), hv4.mono (t14.g.trans t16.g), d14.mono t16.g⟩
    exact hvA.mono (s8.g.trans (s11.g.trans (s12.g.trans (s13.g.trans (t14.g.trans t16.g)))))
end
end Mb

set_option Elab.async false
set_option linter.all false
set_option maxRecDepth 100000
set_option maxHeartbeats 4000000
namespace Mb
open PySem PySem.Spec PyProof.Rows L2 TL
/-! ### standings: who holds whom, and the rights of each who is here -/
def gH (hs : List Int) (x : Int) : Int := hs.getD x.toNat 0
def outR (hs : List Int) (k : Kd) : Option Int := if (k.b.any fun x => !decide (gH hs x ∈ k.cs)) = true then k.b else if (k.g.any fun x => !decide (gH hs x ∈ k.cs)) = true then k.g else none
def refK (hs : List Int) (k : Kd) : Option (Str × Int) := match k.cs.find? fun c => !decide (gH hs c = -1) with
  | some c => some ("away", c)
  | none => (outR hs k).map fun x => ("right", x)
def lastC (k : Kd) : Int := k.cs.getLastD 0
def heirC (k : Kd) (z : Int) : Int := (k.cs.filter fun c => !decide (c = z)).headD 0
def setO (hs : List Int) (o : Option Int) (v : Int) : List Int := match o with
  | some x => hs.set x.toNat v
  | none => hs
def behBG (hs : List Int) (k : Kd) : List Int := setO (setO hs k.b (-1)) k.g (lastC k)
def behE (hs : List Int) (z h : Int) : List Int := (hs.map fun x => if x = z then h else x).set z.toNat h
def behK (hs : List Int) (k : Kd) : List Int := match k.e with
  | some z => behE (behBG hs k) z (heirC k z)
  | none => behBG hs k
structure HsOk (n : Nat) (hs : List Int) : Prop where
  len : hs.length = n
  own : ∀ x : Int, 0 ≤ x → x < n → gH hs x = -1 ∨ (0 ≤ gH hs x ∧ gH hs x < n ∧ gH hs (gH hs x) = -1)
/-! the same by rows of rights -/
abbrev Fr := List (Int × List Int)
def inF (fr : Fr) (x : Int) : Bool := fr.any fun p => decide (p.1 = x)
def lookF (fr : Fr) (x : Int) : List Int := ((fr.find? fun p => decide (p.1 = x)).map (·.2)).getD []
def putA {α β : Type} [DecidableEq α] (l : List (α × β)) (x : α) (v : β) : List (α × β) := if (l.any fun p => decide (p.1 = x)) = true then l.map (fun p => if p.1 = x then (p.1, v) else p) else l ++ [(x, v)]
def dropA {α β : Type} [DecidableEq α] (l : List (α × β)) (x : α) : List (α × β) := l.filter fun p => !decide (p.1 = x)
def movedK (k : Kd) : List Int := k.b.toList ++ k.g.toList
def outF (fr : Fr) (k : Kd) : Option Int := if (k.b.any fun x => !(k.cs.any fun c => decide (x ∈ lookF fr c))) = true then k.b else if (k.g.any fun x => !(k.cs.any fun c => decide (x ∈ lookF fr c))) = true then k.g else none
def refF (fr : Fr) (k : Kd) : Option (Str × Int) := match k.cs.find? fun c => !inF fr c with
  | some c => some ("away", c)
  | none => (outF fr k).map fun x => ("right", x)
def behF1 (fr : Fr) (k : Kd) : Fr := fr.map fun p => (p.1, p.2.filter fun y => !decide (y ∈ movedK k))
def behF2 (fr : Fr) (k : Kd) : Fr := match k.b with
  | some x => putA (behF1 fr k) x []
  | none => behF1 fr k
def behF3 (fr : Fr) (k : Kd) : Fr := match k.g with
  | some x => putA (behF2 fr k) (lastC k) (PySem.W.sortI (lookF (behF2 fr k) (lastC k) ++ [x]))
  | none => behF2 fr k
def behF (fr : Fr) (k : Kd) : Fr := match k.e with
  | some z => dropA (putA (behF3 fr k) (heirC k z) (PySem.W.sortI (lookF (behF3 fr k) (heirC k z) ++ lookF (behF3 fr k) z ++ [z]))) z
  | none => behF3 fr k
def Rts (n : Nat) (hs : List Int) (i : Int) (l : List Int) : Prop := l.Pairwise (· < ·) ∧ ∀ y, y ∈ l ↔ 0 ≤ y ∧ y < n ∧ gH hs y = i
structure RelF (n : Nat) (hs : List Int) (fr : Fr) : Prop where
  nd : (fr.map (·.1)).Nodup
  mem : ∀ x : Int, x ∈ fr.map (·.1) ↔ 0 ≤ x ∧ x < n ∧ gH hs x = -1
  val : ∀ p ∈ fr, Rts n hs p.1 p.2
theorem asc_ext : ∀ {l m : List Int}, l.Pairwise (· < ·) → m.Pairwise (· < ·) → (∀ x, x ∈ l ↔ x ∈ m) → l = m
  | [], [], _, _, _ => rfl
  | [], y :: m, _, _, h => by have := (h y).mpr List.mem_cons_self; cases this
  | x :: l, [], _, _, h => by have := (h x).mp List.mem_cons_self; cases this
  | x :: l, y :: m, hl, hm, h => by
    rw [List.pairwise_cons] at hl hm
    have hxy : x = y := by
      have h1 := (h x).mp List.mem_cons_self
      have h2 := (h y).mpr List.mem_cons_self
      rcases List.mem_cons.mp h1 with e | e
      · exact e
      · rcases List.mem_cons.mp h2 with e2 | e2
        · exact e2.symm
        · have := hm.1 x e
          have := hl.1 y e2
          omega
    subst hxy
    congr 1
    refine asc_ext hl.2 hm.2 fun z => ?_
    constructor
    · intro hz
      rcases List.mem_cons.mp ((h z).mp (List.mem_cons_of_mem _ hz)) with e | e
      · have := hl.1 z hz
        omega
      · exact e
    · intro hz
      rcases List.mem_cons.mp ((h z).mpr (List.mem_cons_of_mem _ hz)) with e | e
      · have := hm.1 z hz
        omega
      · exact e
theorem gH_eq {hs : List Int} {x : Int} (h : x.toNat < hs.length) : hs[x.toNat]? = some (gH hs x) := by
  unfold gH
  rw [List.getD_eq_getElem?_getD, List.getElem?_eq_getElem h]
  rfl
theorem rightsOf_rts {n : Nat} {hs : List Int} (hl : hs.length = n) (i : Nat) : Rts n hs i (rightsOf hs i) := by
  rw [zip_rights, hl]
  refine ⟨(rng_sorted n).filter _, fun y => ?_⟩
  rw [List.mem_filter, mem_rng]
  constructor
  · rintro ⟨⟨h0, h1⟩, h2⟩
    rw [gH_eq (by omega)] at h2
    exact ⟨h0, h1, by simpa using h2⟩
  · rintro ⟨h0, h1, h2⟩
    refine ⟨⟨h0, h1⟩, ?_⟩
    rw [gH_eq (by omega), h2]
    simp
theorem Rts.eq {n : Nat} {hs : List Int} {i : Int} {l m : List Int} (a : Rts n hs i l) (b : Rts n hs i m) : l = m := asc_ext a.1 b.1 fun x => (a.2 x).trans (b.2 x).symm
section
variable {n : Nat} {hs : List Int} {fr : Fr} {k : Kd}
theorem find_key {fr : Fr} (nd : (fr.map (·.1)).Nodup) {p : Int × List Int} (hp : p ∈ fr) : (fr.find? fun q => decide (q.1 = p.1)) = some p := by
  induction fr with
  | nil => cases hp
  | cons q fr ih =>
    rw [List.map_cons, List.nodup_cons] at nd
    rw [List.find?_cons]
    rcases List.mem_cons.mp hp with rfl | hp
    · rw [decide_eq_true rfl]
    · have : q.1 ≠ p.1 := fun e => nd.1 (e ▸ List.mem_map_of_mem hp)
      rw [decide_eq_false this]
      exact ih nd.2 hp
theorem RelF.inF (R : RelF n hs fr) {x : Int} (h0 : 0 ≤ x) (h1 : x < n) : inF fr x = decide (gH hs x = -1) := by
  unfold Mb.inF
  by_cases h : gH hs x = -1
  · rw [decide_eq_true h, List.any_eq_true]
    obtain ⟨p, hp, e⟩ := List.mem_map.mp ((R.mem x).mpr ⟨h0, h1, h⟩)
    exact ⟨p, hp, decide_eq_true e⟩
  · rw [decide_eq_false h, List.any_eq_false]
    intro p hp e
    have := (R.mem x).mp (List.mem_map.mpr ⟨p, hp, of_decide_eq_true e⟩)
    exact h this.2.2
theorem RelF.look (R : RelF n hs fr) {x : Int} (h0 : 0 ≤ x) (h1 : x < n) (h : gH hs x = -1) : ∃ p ∈ fr, p.1 = x ∧ (fr.find? fun q => decide (q.1 = x)) = some p ∧ Rts n hs x (lookF fr x) := by
  obtain ⟨p, hp, e⟩ := List.mem_map.mp ((R.mem x).mpr ⟨h0, h1, h⟩)
  have e : p.1 = x := e
  subst e
  refine ⟨p, hp, rfl, find_key R.nd hp, ?_⟩
  unfold lookF
  rw [find_key R.nd hp]
  exact R.val p hp
theorem RelF.told (R : RelF n hs fr) (hl : hs.length = n) : (rng n).map (toldAt fr) = stD hs := by
  apply List.ext_getElem?
  intro i
  unfold stD
  rw [List.getElem?_mapIdx, List.getElem?_map]
  by_cases hi : i < n
  · have e2 : (rng n)[i]? = some ((i : Nat) : Int) := by
      unfold rng
      rw [List.getElem?_map, List.getElem?_range hi]
      rfl
    have e1 : hs[i]? = some (gH hs ((i : Nat) : Int)) := by
      have := gH_eq (hs := hs) (x := ((i : Nat) : Int)) (by omega)
      rwa [Int.toNat_natCast] at this
    rw [e1, e2]
    show some (toldAt fr ((i : Nat) : Int)) = some _
    congr 1
    by_cases h : gH hs ((i : Nat) : Int) = -1
    · obtain ⟨p, hp, e, hf, _⟩ := R.look (x := ((i : Nat) : Int)) (by omega) (by omega) h
      unfold toldAt
      rw [hf]
      dsimp only
      rw [if_pos h]
      have := R.val p hp
      rw [e] at this
      rw [this.eq (rightsOf_rts hl i)]
    · unfold toldAt
      cases hf : fr.find? fun q => decide (q.1 = ((i : Nat) : Int)) with
      | some p =>
        have hp := List.mem_of_find?_eq_some hf
        have e : p.1 = ((i : Nat) : Int) := by simpa using List.find?_some hf
        exact (h ((R.mem _).mp (List.mem_map.mpr ⟨p, hp, e⟩)).2.2).elim
      | none =>
        dsimp only
        rw [if_neg h]
  · rw [List.getElem?_eq_none (l := rng n) (by rw [rng_len]; omega), List.getElem?_eq_none (l := hs) (by omega)]
    rfl
theorem find_congr {α : Type} {p q : α → Bool} {l : List α} (h : ∀ x ∈ l, p x = q x) : l.find? p = l.find? q := by
  induction l with
  | nil => rfl
  | cons x l ih =>
    rw [List.find?_cons, List.find?_cons, h x List.mem_cons_self, ih fun y hy => h y (List.mem_cons_of_mem _ hy)]
/-- told the same -/
theorem RelF.ref (R : RelF n hs fr) (hk : RowOk n k.cs k.b k.e k.g) : refF fr k = refK hs k := by
  have hc := hk.rc.1.2
  unfold refF refK
  rw [find_congr (q := fun c => !decide (gH hs c = -1)) fun c hm => by rw [R.inF (hc c hm).1 (hc c hm).2]]
  cases hf : k.cs.find? fun c => !decide (gH hs c = -1) with
  | some c => rfl
  | none =>
    have here : ∀ c ∈ k.cs, gH hs c = -1 := fun c hm => by
      have := List.find?_eq_none.mp hf c hm
      simpa using this
    have own : ∀ x : Int, 0 ≤ x → x < n → (k.cs.any fun c => decide (x ∈ lookF fr c)) = decide (gH hs x ∈ k.cs) := by
      intro x h0 h1
      by_cases h : gH hs x ∈ k.cs
      · rw [decide_eq_true h, List.any_eq_true]
        obtain ⟨_, _, _, _, r⟩ := R.look (hc _ h).1 (hc _ h).2 (here _ h)
        exact ⟨_, h, decide_eq_true ((r.2 x).mpr ⟨h0, h1, rfl⟩)⟩
      · rw [decide_eq_false h, List.any_eq_false]
        intro c hm e
        obtain ⟨_, _, _, _, r⟩ := R.look (hc c hm).1 (hc c hm).2 (here c hm)
        have := ((r.2 x).mp (of_decide_eq_true e)).2.2
        exact h (this ▸ hm)
    have hb : (k.b.any fun x => !(k.cs.any fun c => decide (x ∈ lookF fr c))) = (k.b.any fun x => !decide (gH hs x ∈ k.cs)) := by
      cases e : k.b with
      | none => rfl
      | some x => exact congrArg not (own x (hk.rb x e).1 (hk.rb x e).2.1)
    have hg : (k.g.any fun x => !(k.cs.any fun c => decide (x ∈ lookF fr c))) = (k.g.any fun x => !decide (gH hs x ∈ k.cs)) := by
      cases e : k.g with
      | none => rfl
      | some x => exact congrArg not (own x (hk.rg x e).1 (hk.rg x e).2.1)
    show (outF fr k).map _ = (outR hs k).map _
    unfold outF outR
    rw [hb, hg]
end
end Mb

set_option Elab.async false
set_option linter.all false
set_option maxRecDepth 100000
set_option maxHeartbeats 4000000
namespace Mb
open PySem PySem.Spec PyProof.Rows L2 TL
section
variable {α β : Type} [DecidableEq α] {l : List (α × β)} {x : α} {v : β}
theorem mem_putA {p : α × β} : p ∈ putA l x v ↔ (p ∈ l ∧ p.1 ≠ x) ∨ p = (x, v) := by
  unfold putA
  split
  · rename_i h
    rw [List.mem_map]
    constructor
    · rintro ⟨q, hq, rfl⟩
      by_cases e : q.1 = x
      · right
        rw [if_pos e, e]
      · left
        rw [if_neg e]
        exact ⟨hq, e⟩
    · rintro (⟨hp, e⟩ | rfl)
      · exact ⟨p, hp, by rw [if_neg e]⟩
      · obtain ⟨q, hq, e⟩ := List.any_eq_true.mp h
        have e := of_decide_eq_true e
        exact ⟨q, hq, by rw [if_pos e, e]⟩
  · rename_i h
    rw [List.mem_append, List.mem_singleton]
    constructor
    · rintro (hp | rfl)
      · refine .inl ⟨hp, fun e => h ?_⟩
        rw [List.any_eq_true]
        exact ⟨p, hp, decide_eq_true e⟩
      · exact .inr rfl
    · rintro (⟨hp, _⟩ | rfl)
      · exact .inl hp
      · exact .inr rfl
theorem nodup_putA (h : (l.map (·.1)).Nodup) : ((putA l x v).map (·.1)).Nodup := by
  unfold putA
  split
  · have : (l.map (fun p => if p.1 = x then (p.1, v) else p)).map (·.1) = l.map (·.1) := by
      rw [List.map_map]
      refine List.map_congr_left fun p _ => ?_
      show (if p.1 = x then (p.1, v) else p).1 = p.1
      split <;> rfl
    rw [this]
    exact h
  · rename_i hn
    rw [List.map_append, List.nodup_append]
    refine ⟨h, by simp, fun a ha b hb => ?_⟩
    simp only [List.map_cons, List.map_nil, List.mem_singleton] at hb
    subst hb
    obtain ⟨p, hp, rfl⟩ := List.mem_map.mp ha
    intro e
    exact hn (List.any_eq_true.mpr ⟨p, hp, decide_eq_true e⟩)
theorem mem_dropA {p : α × β} : p ∈ dropA l x ↔ p ∈ l ∧ p.1 ≠ x := by
  unfold dropA
  rw [List.mem_filter]
  simp
theorem nodup_dropA (h : (l.map (·.1)).Nodup) : ((dropA l x).map (·.1)).Nodup := h.sublist (List.filter_sublist.map _)
end
theorem lookF_of {fr : Fr} (nd : (fr.map (·.1)).Nodup) {x : Int} {l : List Int} (h : (x, l) ∈ fr) : lookF fr x = l := by
  unfold lookF
  rw [find_key nd h]
  rfl
theorem sortI_rts {l : List Int} (h : l.Nodup) : (PySem.W.sortI l).Pairwise (· < ·) ∧ ∀ x, x ∈ PySem.W.sortI l ↔ x ∈ l := by
  have hp := PySem.W.sortI_perm l
  have hs := PySem.W.sortI_rises l
  have hn : (PySem.W.sortI l).Nodup := hp.symm.nodup h
  refine ⟨?_, fun x => hp.mem_iff⟩
  rw [List.nodup_iff_pairwise_ne] at hn
  exact (hs.and hn).imp fun {a b} ⟨h1, h2⟩ => by omega
theorem gH_set {hs : List Int} {x y v : Int} (h0 : 0 ≤ x) (h1 : x < hs.length) (h2 : 0 ≤ y) : gH (hs.set x.toNat v) y = if y = x then v else gH hs y := by
  unfold gH
  rw [List.getD_eq_getElem?_getD, List.getD_eq_getElem?_getD]
  by_cases e : y = x
  · subst e
    rw [if_pos rfl, List.getElem?_set_self (by omega)]
    rfl
  · rw [if_neg e, List.getElem?_set_ne (by omega)]
section
variable {n : Nat} {hs : List Int} {fr : Fr} {k : Kd}
theorem last_mem (hk : RowOk n k.cs k.b k.e k.g) : lastC k ∈ k.cs := by
  have h1 := hk.rc.2.1
  unfold lastC
  cases e : k.cs with
  | nil => rw [e] at h1; simp at h1
  | cons c r =>
    rw [List.getLastD_cons]
    cases r with
    | nil => simp
    | cons d r =>
      exact List.mem_cons_of_mem _ (by
        rw [List.getLastD_cons]
        have := List.getLast_mem (l := d :: r) (by simp)
        rw [List.getLast_eq_getLastD] at this
        simpa using this)
theorem heir_mem (hk : RowOk n k.cs k.b k.e k.g) {z : Int} (hz : k.e = some z) : heirC k z ∈ k.cs ∧ heirC k z ≠ z := by
  obtain ⟨h1, h2⟩ := hk.re z hz
  have hn := hk.rc.1.1
  obtain ⟨c, hc, hne⟩ : ∃ c ∈ k.cs, c ≠ z := by
    match e : k.cs, h2, hn with
    | a :: b :: r, _, hn =>
      by_cases ha : a = z
      · refine ⟨b, by simp, fun e2 => ?_⟩
        rw [List.nodup_cons] at hn
        exact hn.1 (by rw [ha, ← e2]; simp)
      · exact ⟨a, by simp, ha⟩
  have hf : heirC k z ∈ k.cs.filter fun c => !decide (c = z) := by
    unfold heirC
    have : c ∈ k.cs.filter fun c => !decide (c = z) := List.mem_filter.mpr ⟨hc, by simp [hne]⟩
    cases q : k.cs.filter fun c => !decide (c = z) with
    | nil => rw [q] at this; cases this
    | cons d r => simp
  rw [List.mem_filter] at hf
  exact ⟨hf.1, by simpa using hf.2⟩
structure Can (n : Nat) (hs : List Int) (k : Kd) : Prop where
  here : ∀ c ∈ k.cs, gH hs c = -1
  b : ∀ x, k.b = some x → gH hs x ∈ k.cs
  g : ∀ x, k.g = some x → gH hs x ∈ k.cs
theorem can_of (h : refK hs k = none) : Can n hs k := by
  unfold refK at h
  cases hf : k.cs.find? fun c => !decide (gH hs c = -1) with
  | some c => rw [hf] at h; cases h
  | none =>
    rw [hf] at h
    have h : (outR hs k).map (fun x => (("right" : Str), x)) = none := h
    rw [Option.map_eq_none_iff] at h
    unfold outR at h
    refine ⟨fun c hm => by simpa using List.find?_eq_none.mp hf c hm, fun x hx => ?_, fun x hx => ?_⟩
    · by_cases q : gH hs x ∈ k.cs
      · exact q
      · rw [hx] at h
        simp [q] at h
    · by_cases q : gH hs x ∈ k.cs
      · exact q
      · split at h
        · rename_i hb
          rw [h] at hb
          simp at hb
        · rw [hx] at h
          simp [q] at h
theorem setO_len {hs : List Int} {o : Option Int} {v : Int} : (setO hs o v).length = hs.length := by
  cases o <;> simp [setO]
theorem gH_setO {hs : List Int} {o : Option Int} {y v : Int} (ho : ∀ x, o = some x → 0 ≤ x ∧ x < hs.length) (h2 : 0 ≤ y) : gH (setO hs o v) y = if o = some y then v else gH hs y := by
  cases o with
  | none => rfl
  | some x =>
    have := gH_set (v := v) (ho x rfl).1 (ho x rfl).2 h2
    show gH (hs.set x.toNat v) y = _
    rw [this]
    by_cases e : y = x
    · subst e; simp
    · rw [if_neg e, if_neg fun q => e (Option.some.inj q).symm]
theorem gBG (hl : hs.length = n) (hk : RowOk n k.cs k.b k.e k.g) {y : Int} (h : 0 ≤ y) : gH (behBG hs k) y = if k.g = some y then lastC k else if k.b = some y then -1 else gH hs y := by
  unfold behBG
  rw [gH_setO (fun x hx => by rw [setO_len]; have := hk.rg x hx; omega) h, gH_setO (fun x hx => by have := hk.rb x hx; omega) h]
theorem lenBG (hl : hs.length = n) : (behBG hs k).length = n := by
  unfold behBG
  rw [setO_len, setO_len, hl]
theorem okBG (H : HsOk n hs) (hk : RowOk n k.cs k.b k.e k.g) (C : Can n hs k) : HsOk n (behBG hs k) := by
  refine ⟨lenBG H.len, fun x h0 h1 => ?_⟩
  have hcm := hk.rc.1.2
  have nb : ∀ c, gH hs c = -1 → k.b ≠ some c := fun c e q => by
    have := hcm _ (C.b c q)
    omega
  have ng : ∀ c, gH hs c = -1 → k.g ≠ some c := fun c e q => by
    have := hcm _ (C.g c q)
    omega
  have hl := last_mem hk
  rw [gBG H.len hk h0]
  by_cases g : k.g = some x
  · rw [if_pos g]
    refine .inr ⟨(hcm _ hl).1, (hcm _ hl).2, ?_⟩
    rw [gBG H.len hk (hcm _ hl).1, if_neg (ng _ (C.here _ hl)), if_neg (nb _ (C.here _ hl))]
    exact C.here _ hl
  · rw [if_neg g]
    by_cases b : k.b = some x
    · rw [if_pos b]
      exact .inl rfl
    · rw [if_neg b]
      rcases H.own x h0 h1 with e | ⟨e0, e1, e2⟩
      · exact .inl e
      · refine .inr ⟨e0, e1, ?_⟩
        rw [gBG H.len hk e0, if_neg (ng _ e2), if_neg (nb _ e2)]
        exact e2
theorem relBG (H : HsOk n hs) (R : RelF n hs fr) (hk : RowOk n k.cs k.b k.e k.g) (C : Can n hs k) : RelF n (behBG hs k) (behF3 fr k) := by
  have hcm := hk.rc.1.2
  have hl := last_mem hk
  have nb : ∀ c, gH hs c = -1 → k.b ≠ some c := fun c e q => by
    have := hcm _ (C.b c q)
    omega
  have ng : ∀ c, gH hs c = -1 → k.g ≠ some c := fun c e q => by
    have := hcm _ (C.g c q)
    omega
  have mv : ∀ y, y ∈ movedK k ↔ k.b = some y ∨ k.g = some y := fun y => by
    unfold movedK
    rw [List.mem_append, Option.mem_toList, Option.mem_toList]
  -- the rights without those that are moved
  have k1 : ((behF1 fr k).map (·.1)) = fr.map (·.1) := by
    unfold behF1
    rw [List.map_map]
    rfl
  have n2 : ((behF2 fr k).map (·.1)).Nodup := by
    unfold behF2
    cases k.b with
    | none => rw [k1]; exact R.nd
    | some x => exact nodup_putA (by rw [k1]; exact R.nd)
  have m2 : ∀ p, p ∈ behF2 fr k ↔ (∃ q ∈ fr, p = (q.1, q.2.filter fun y => !decide (y ∈ movedK k)) ∧ k.b ≠ some q.1) ∨ (k.b = some p.1 ∧ p.2 = []) := by
    intro p
    have f1 : ∀ p, p ∈ behF1 fr k ↔ ∃ q ∈ fr, p = (q.1, q.2.filter fun y => !decide (y ∈ movedK k)) := fun p => by
      unfold behF1
      rw [List.mem_map]
      exact ⟨fun ⟨q, h1, h2⟩ => ⟨q, h1, h2.symm⟩, fun ⟨q, h1, h2⟩ => ⟨q, h1, h2.symm⟩⟩
    unfold behF2
    cases hb : k.b with
    | none =>
      show p ∈ behF1 fr k ↔ _
      rw [f1]
      constructor
      · rintro ⟨q, h1, h2⟩
        exact .inl ⟨q, h1, h2, by simp⟩
      · rintro (⟨q, h1, h2, _⟩ | ⟨h, _⟩)
        · exact ⟨q, h1, h2⟩
        · cases h
    | some x =>
      show p ∈ putA (behF1 fr k) x [] ↔ _
      rw [mem_putA, f1]
      constructor
      · rintro (⟨⟨q, h1, h2⟩, h3⟩ | rfl)
        · exact .inl ⟨q, h1, h2, fun e => h3 (by rw [h2]; exact (Option.some.inj e).symm)⟩
        · exact .inr ⟨rfl, rfl⟩
      · rintro (⟨q, h1, h2, h3⟩ | ⟨h, h'⟩)
        · exact .inl ⟨⟨q, h1, h2⟩, fun e => h3 (by rw [← e, h2])⟩
        · refine .inr ?_
          have := Option.some.inj h
          rw [this, ← h']
  -- what the last comer has
  obtain ⟨pl, hpl, epl, _, rl⟩ := R.look (hcm _ hl).1 (hcm _ hl).2 (C.here _ hl)
  have vpl := R.val pl hpl
  have lk : lookF (behF2 fr k) (lastC k) = pl.2.filter fun y => !decide (y ∈ movedK k) := lookF_of n2 ((m2 _).mpr (.inl ⟨pl, hpl, by rw [epl], by rw [epl]; exact nb _ (C.here _ hl)⟩))
  have sub : ∀ (q : Int × List Int), q ∈ fr → (q.2.filter fun y => !decide (y ∈ movedK k)).Pairwise (· < ·) ∧ ∀ y, y ∈ (q.2.filter fun y => !decide (y ∈ movedK k)) ↔ (0 ≤ y ∧ y < n ∧ gH hs y = q.1) ∧ k.b ≠ some y ∧ k.g ≠ some y := fun q hq => by
    refine ⟨(R.val q hq).1.filter _, fun y => ?_⟩
    rw [List.mem_filter, (R.val q hq).2 y]
    have : (!decide (y ∈ movedK k)) = true ↔ k.b ≠ some y ∧ k.g ≠ some y := by
      rw [Bool.not_eq_true', decide_eq_false_iff_not, mv]
      exact not_or
    rw [this]
  have m3 : ∀ p, p ∈ behF3 fr k ↔ (p ∈ behF2 fr k ∧ (k.g = none ∨ p.1 ≠ lastC k)) ∨ (∃ x, k.g = some x ∧ p = (lastC k, PySem.W.sortI (lookF (behF2 fr k) (lastC k) ++ [x]))) := by
    intro p
    unfold behF3
    cases hg : k.g with
    | none =>
      constructor
      · intro h
        exact .inl ⟨h, .inl rfl⟩
      · rintro (⟨h, _⟩ | ⟨x, h, _⟩)
        · exact h
        · cases h
    | some x =>
      show p ∈ putA _ _ _ ↔ _
      rw [mem_putA]
      constructor
      · rintro (⟨h1, h2⟩ | h)
        · exact .inl ⟨h1, .inr h2⟩
        · exact .inr ⟨x, rfl, h⟩
      · rintro (⟨h1, h2 | h2⟩ | ⟨y, h, h2⟩)
        · cases h2
        · exact .inl ⟨h1, h2⟩
        · cases h
          exact .inr h2
  refine ⟨?_, fun x => ?_, fun p hp => ?_⟩
  · unfold behF3
    cases k.g with
    | none => exact n2
    | some x => exact nodup_putA n2
  · constructor
    · intro hx
      obtain ⟨p, hp, rfl⟩ := List.mem_map.mp hx
      have key : 0 ≤ p.1 ∧ p.1 < n ∧ (k.b = some p.1 ∨ gH hs p.1 = -1) := by
        rcases (m3 p).mp hp with ⟨h, _⟩ | ⟨y, _, rfl⟩
        · rcases (m2 p).mp h with ⟨q, hq, rfl, _⟩ | ⟨h, _⟩
          · have := (R.mem q.1).mp (List.mem_map_of_mem hq)
            exact ⟨this.1, this.2.1, .inr this.2.2⟩
          · exact ⟨(hk.rb _ h).1, (hk.rb _ h).2.1, .inl h⟩
        · exact ⟨(hcm _ hl).1, (hcm _ hl).2, .inr (C.here _ hl)⟩
      refine ⟨key.1, key.2.1, ?_⟩
      rw [gBG H.len hk key.1]
      rcases key.2.2 with h | h
      · rw [if_neg fun q => (hk.rg _ q).2.2.2 h, if_pos h]
      · rw [if_neg (ng _ h), if_neg (nb _ h)]
        exact h
    · rintro ⟨h0, h1, h2⟩
      rw [gBG H.len hk h0] at h2
      have hng : k.g ≠ some x := fun q => by
        rw [if_pos q] at h2
        have := hcm _ hl
        omega
      rw [if_neg hng] at h2
      rw [List.mem_map]
      by_cases hb : k.b = some x
      · refine ⟨(x, []), (m3 _).mpr (.inl ⟨(m2 _).mpr (.inr ⟨hb, rfl⟩), .inr fun e => ?_⟩), rfl⟩
        exact (hk.rb x hb).2.2 (by rw [show x = lastC k from e]; exact hl)
      · rw [if_neg hb] at h2
        obtain ⟨q, hq, rfl⟩ := List.mem_map.mp ((R.mem x).mpr ⟨h0, h1, h2⟩)
        by_cases e : q.1 = lastC k
        · cases hg : k.g with
          | none => exact ⟨_, (m3 _).mpr (.inl ⟨(m2 _).mpr (.inl ⟨q, hq, rfl, hb⟩), .inl hg⟩), rfl⟩
          | some y => exact ⟨_, (m3 _).mpr (.inr ⟨y, hg, rfl⟩), e.symm⟩
        · exact ⟨_, (m3 _).mpr (.inl ⟨(m2 _).mpr (.inl ⟨q, hq, rfl, hb⟩), .inr e⟩), rfl⟩
  · rcases (m3 p).mp hp with ⟨h, hne⟩ | ⟨x, hg, rfl⟩
    · rcases (m2 p).mp h with ⟨q, hq, rfl, hqb⟩ | ⟨h, h'⟩
      · obtain ⟨s1, s2⟩ := sub q hq
        refine ⟨s1, fun y => ?_⟩
        have hq0 := (R.mem q.1).mp (List.mem_map_of_mem hq)
        rw [s2]
        constructor
        · rintro ⟨⟨y0, y1, y2⟩, y3, y4⟩
          refine ⟨y0, y1, ?_⟩
          rw [gBG H.len hk y0, if_neg y4, if_neg y3]
          exact y2
        · rintro ⟨y0, y1, y2⟩
          rw [gBG H.len hk y0] at y2
          have hg : k.g ≠ some y := fun e => by
            rw [if_pos e] at y2
            rcases hne with h | h
            · rw [h] at e; cases e
            · exact h y2.symm
          rw [if_neg hg] at y2
          have hb : k.b ≠ some y := fun e => by
            rw [if_pos e] at y2
            have := hq0.1
            omega
          rw [if_neg hb] at y2
          exact ⟨⟨y0, y1, y2⟩, hb, hg⟩
      · obtain ⟨px, pv⟩ := p
        have h' : pv = [] := h'
        have h : k.b = some px := h
        subst h'
        refine ⟨List.Pairwise.nil, fun y => ⟨fun e => (nomatch e), ?_⟩⟩
        rintro ⟨y0, y1, y2⟩
        have hb := hk.rb _ h
        have hob := hcm _ (C.b _ h)
        rw [gBG H.len hk y0] at y2
        split at y2
        · exact (hb.2.2 (by rw [← y2]; exact hl)).elim
        · split at y2
          · omega
          · rcases H.own y y0 y1 with e | ⟨_, _, e2⟩
            · omega
            · rw [y2] at e2
              omega
    · rw [lk]
      obtain ⟨s1, s2⟩ := sub pl hpl
      have hgx := hk.rg x hg
      have hx : x ∉ pl.2.filter fun y => !decide (y ∈ movedK k) := fun e => ((s2 x).mp e).2.2 hg
      have nd : ((pl.2.filter fun y => !decide (y ∈ movedK k)) ++ [x]).Nodup := by
        rw [List.nodup_append]
        refine ⟨List.nodup_iff_pairwise_ne.mpr (s1.imp fun {a b} h => by omega), by simp, fun a ha b hb e => hx ?_⟩
        rw [List.mem_singleton] at hb
        rw [← hb, ← e]
        exact ha
      obtain ⟨t1, t2⟩ := sortI_rts nd
      refine ⟨t1, fun y => ?_⟩
      rw [t2, List.mem_append, List.mem_singleton, s2, epl]
      constructor
      · rintro (⟨⟨y0, y1, y2⟩, y3, y4⟩ | rfl)
        · refine ⟨y0, y1, ?_⟩
          rw [gBG H.len hk y0, if_neg y4, if_neg y3]
          exact y2
        · refine ⟨hgx.1, hgx.2.1, ?_⟩
          rw [gBG H.len hk hgx.1, if_pos hg]
      · rintro ⟨y0, y1, y2⟩
        rw [gBG H.len hk y0] at y2
        by_cases e : k.g = some y
        · exact .inr (Option.some.inj (e.symm.trans hg))
        · rw [if_neg e] at y2
          have hb : k.b ≠ some y := fun e => by
            rw [if_pos e] at y2
            have := hcm _ hl
            omega
          rw [if_neg hb] at y2
          exact .inl ⟨⟨y0, y1, y2⟩, hb, e⟩
end
end Mb

set_option Elab.async false
set_option linter.all false
set_option maxRecDepth 100000
set_option maxHeartbeats 4000000
namespace Mb
open PySem PySem.Spec PyProof.Rows L2 TL
section
variable {n : Nat} {hs : List Int} {fr : Fr} {k : Kd} {z h : Int}
theorem gE (hl : hs.length = n) (z0 : 0 ≤ z) (z1 : z < n) {y : Int} (y0 : 0 ≤ y) (y1 : y < n) : gH (behE hs z h) y = if y = z then h else if gH hs y = z then h else gH hs y := by
  unfold behE
  rw [gH_set z0 (by rw [List.length_map]; omega) y0]
  by_cases e : y = z
  · rw [if_pos e, if_pos e]
  · rw [if_neg e, if_neg e]
    have hy : y.toNat < hs.length := by omega
    unfold gH
    rw [List.getD_eq_getElem?_getD, List.getD_eq_getElem?_getD, List.getElem?_map, List.getElem?_eq_getElem hy]
    rfl
theorem lenE (hl : hs.length = n) : (behE hs z h).length = n := by
  unfold behE
  rw [List.length_set, List.length_map, hl]
theorem okE (H : HsOk n hs) (z0 : 0 ≤ z) (z1 : z < n) (h0 : 0 ≤ h) (h1 : h < n) (hz : gH hs z = -1) (hh : gH hs h = -1) (ne : h ≠ z) : HsOk n (behE hs z h) := by
  have hh3 : gH (behE hs z h) h = -1 := by
    rw [gE H.len z0 z1 h0 h1, if_neg ne, hh, if_neg (by omega)]
  refine ⟨lenE H.len, fun x x0 x1 => ?_⟩
  rw [gE H.len z0 z1 x0 x1]
  by_cases e : x = z
  · rw [if_pos e]
    exact .inr ⟨h0, h1, hh3⟩
  · rw [if_neg e]
    by_cases e2 : gH hs x = z
    · rw [if_pos e2]
      exact .inr ⟨h0, h1, hh3⟩
    · rw [if_neg e2]
      rcases H.own x x0 x1 with q | ⟨q0, q1, q2⟩
      · exact .inl q
      · refine .inr ⟨q0, q1, ?_⟩
        rw [gE H.len z0 z1 q0 q1, if_neg e2, q2, if_neg (by omega)]
theorem relE (hl : hs.length = n) (R : RelF n hs fr) (z0 : 0 ≤ z) (z1 : z < n) (h0 : 0 ≤ h) (h1 : h < n) (hz : gH hs z = -1) (hh : gH hs h = -1) (ne : h ≠ z) :
    RelF n (behE hs z h) (dropA (putA fr h (PySem.W.sortI (lookF fr h ++ lookF fr z ++ [z]))) z) := by
  obtain ⟨_, _, _, _, rh⟩ := R.look h0 h1 hh
  obtain ⟨_, _, _, _, rz⟩ := R.look z0 z1 hz
  have hm : ∀ p, p ∈ dropA (putA fr h (PySem.W.sortI (lookF fr h ++ lookF fr z ++ [z]))) z ↔ (p ∈ fr ∧ p.1 ≠ h ∧ p.1 ≠ z) ∨ p = (h, PySem.W.sortI (lookF fr h ++ lookF fr z ++ [z])) := by
    intro p
    rw [mem_dropA, mem_putA]
    constructor
    · rintro ⟨⟨a, b⟩ | rfl, c⟩
      · exact .inl ⟨a, b, c⟩
      · exact .inr rfl
    · rintro (⟨a, b, c⟩ | rfl)
      · exact ⟨.inl ⟨a, b⟩, c⟩
      · exact ⟨.inr rfl, ne⟩
  refine ⟨nodup_dropA (nodup_putA R.nd), fun x => ?_, fun p hp => ?_⟩
  · constructor
    · intro hx
      obtain ⟨p, hp, rfl⟩ := List.mem_map.mp hx
      rcases (hm p).mp hp with ⟨a, b, c⟩ | rfl
      · have := (R.mem p.1).mp (List.mem_map_of_mem a)
        refine ⟨this.1, this.2.1, ?_⟩
        rw [gE hl z0 z1 this.1 this.2.1, if_neg c, this.2.2, if_neg (by omega)]
      · refine ⟨h0, h1, ?_⟩
        show gH (behE hs z h) h = -1
        rw [gE hl z0 z1 h0 h1, if_neg ne, hh, if_neg (by omega)]
    · rintro ⟨x0, x1, x2⟩
      rw [gE hl z0 z1 x0 x1] at x2
      have xz : x ≠ z := fun e => by rw [if_pos e] at x2; omega
      rw [if_neg xz] at x2
      have xg : gH hs x ≠ z := fun e => by rw [if_pos e] at x2; omega
      rw [if_neg xg] at x2
      rw [List.mem_map]
      by_cases e : x = h
      · exact ⟨_, (hm _).mpr (.inr rfl), e.symm⟩
      · obtain ⟨p, hp, rfl⟩ := List.mem_map.mp ((R.mem x).mpr ⟨x0, x1, x2⟩)
        exact ⟨p, (hm _).mpr (.inl ⟨hp, e, xz⟩), rfl⟩
  · rcases (hm p).mp hp with ⟨a, b, c⟩ | rfl
    · have hk := (R.mem p.1).mp (List.mem_map_of_mem a)
      refine ⟨(R.val p a).1, fun y => ?_⟩
      rw [(R.val p a).2]
      constructor
      · rintro ⟨y0, y1, y2⟩
        refine ⟨y0, y1, ?_⟩
        rw [gE hl z0 z1 y0 y1, if_neg (fun e => by rw [e, hz] at y2; omega), y2, if_neg c]
      · rintro ⟨y0, y1, y2⟩
        rw [gE hl z0 z1 y0 y1] at y2
        have xz : y ≠ z := fun e => by rw [if_pos e] at y2; exact b y2.symm
        rw [if_neg xz] at y2
        have xg : gH hs y ≠ z := fun e => by rw [if_pos e] at y2; exact b y2.symm
        rw [if_neg xg] at y2
        exact ⟨y0, y1, y2⟩
    · have nd : (lookF fr h ++ lookF fr z ++ [z]).Nodup := by
        rw [List.nodup_append, List.nodup_append]
        refine ⟨⟨List.nodup_iff_pairwise_ne.mpr (rh.1.imp fun {a b} h => by omega), List.nodup_iff_pairwise_ne.mpr (rz.1.imp fun {a b} h => by omega), fun a ha b hb e => ?_⟩, by simp, fun a ha b hb e => ?_⟩
        · have h1 := ((rh.2 a).mp ha).2.2
          have h2 := ((rz.2 b).mp hb).2.2
          rw [e] at h1
          omega
        · rw [List.mem_singleton] at hb
          subst hb
          subst e
          rcases List.mem_append.mp ha with q | q
          · have := ((rh.2 a).mp q).2.2
            omega
          · have := ((rz.2 a).mp q).2.2
            omega
      obtain ⟨t1, t2⟩ := sortI_rts nd
      refine ⟨t1, fun y => ?_⟩
      show y ∈ PySem.W.sortI _ ↔ _
      rw [t2, List.mem_append, List.mem_append, List.mem_singleton, rh.2, rz.2]
      constructor
      · rintro ((⟨y0, y1, y2⟩ | ⟨y0, y1, y2⟩) | rfl)
        · refine ⟨y0, y1, ?_⟩
          rw [gE hl z0 z1 y0 y1, if_neg (fun e => by rw [e, hz] at y2; omega), y2, if_neg ne]
        · refine ⟨y0, y1, ?_⟩
          rw [gE hl z0 z1 y0 y1, if_neg (fun e => by rw [e, hz] at y2; omega), if_pos y2]
        · refine ⟨z0, z1, ?_⟩
          rw [gE hl z0 z1 z0 z1, if_pos rfl]
      · rintro ⟨y0, y1, y2⟩
        rw [gE hl z0 z1 y0 y1] at y2
        by_cases e : y = z
        · exact .inr e
        · rw [if_neg e] at y2
          by_cases e2 : gH hs y = z
          · exact .inl (.inr ⟨y0, y1, e2⟩)
          · rw [if_neg e2] at y2
            exact .inl (.inl ⟨y0, y1, y2⟩)
/-- behind a meeting that can be, both tell the same again -/
theorem behind_rel (H : HsOk n hs) (R : RelF n hs fr) (hk : RowOk n k.cs k.b k.e k.g) (h : refK hs k = none) : HsOk n (behK hs k) ∧ RelF n (behK hs k) (behF fr k) := by
  have C := can_of (n := n) h
  have H2 := okBG H hk C
  have R2 := relBG H R hk C
  unfold behK behF
  cases he : k.e with
  | none => exact ⟨H2, R2⟩
  | some z =>
    have hcm := hk.rc.1.2
    obtain ⟨hz, h2⟩ := hk.re z he
    obtain ⟨hh, hne⟩ := heir_mem hk he
    have nb : ∀ c ∈ k.cs, gH (behBG hs k) c = -1 := fun c hc => by
      rw [gBG H.len hk (hcm c hc).1, if_neg (fun q => (hk.rg c q).2.2.1 hc), if_neg (fun q => (hk.rb c q).2.2 hc)]
      exact C.here c hc
    exact ⟨okE H2 (hcm z hz).1 (hcm z hz).2 (hcm _ hh).1 (hcm _ hh).2 (nb z hz) (nb _ hh) hne, relE H2.len R2 (hcm z hz).1 (hcm z hz).2 (hcm _ hh).1 (hcm _ hh).2 (nb z hz) (nb _ hh) hne⟩
end
section
variable {o : Own}
theorem hs_own (ho : OwnOk o) : HsOk o.names.length (holdI o) := by
  have get : ∀ x : Int, 0 ≤ x → x < o.names.length → gH (holdI o) x = ownerI o x := fun x h0 h1 => by
    have := holdI_get (o := o) h0 h1
    have q := gH_eq (hs := holdI o) (x := x) (by rw [holdI_len]; omega)
    rw [this] at q
    exact (Option.some.inj q).symm
  refine ⟨holdI_len, fun x h0 h1 => ?_⟩
  rw [get x h0 h1]
  by_cases h : x ∈ o.taken
  · left
    unfold ownerI
    rw [if_pos h]
  · obtain ⟨p, hp, hpm, hpe⟩ := right_of ho h0 h1 h
    have hv := ho.rv p hpm
    have := ho.tr _ hv
    have e : ownerI o x = p.2 := by rw [← hpe]; exact owner_right ho hpm
    rw [e]
    refine .inr ⟨this.1, this.2, ?_⟩
    rw [get _ this.1 this.2]
    unfold ownerI
    rw [if_pos hv]
theorem rel_own (ho : OwnOk o) : RelF o.names.length (holdI o) (frO o) := by
  have get : ∀ x : Int, 0 ≤ x → x < o.names.length → gH (holdI o) x = ownerI o x := fun x h0 h1 => by
    have := holdI_get (o := o) h0 h1
    have q := gH_eq (hs := holdI o) (x := x) (by rw [holdI_len]; omega)
    rw [this] at q
    exact (Option.some.inj q).symm
  have ek : (frO o).map (·.1) = o.taken := by
    unfold frO
    rw [List.map_map]
    exact List.map_id _
  refine ⟨?_, fun x => ?_, fun p hp => ?_⟩
  · rw [ek]
    exact List.nodup_iff_pairwise_ne.mpr (ho.tk.imp fun {a b} h => by omega)
  · rw [ek]
    constructor
    · intro h
      have := ho.tr x h
      refine ⟨this.1, this.2, ?_⟩
      rw [get x this.1 this.2]
      unfold ownerI
      rw [if_pos h]
    · rintro ⟨h0, h1, h2⟩
      rw [get x h0 h1] at h2
      by_cases h : x ∈ o.taken
      · exact h
      · obtain ⟨p, hp, hpm, hpe⟩ := right_of ho h0 h1 h
        have := ho.tr _ (ho.rv p hpm)
        rw [← hpe, owner_right ho hpm] at h2
        omega
  · unfold frO at hp
    obtain ⟨t, ht, rfl⟩ := List.mem_map.mp hp
    have h := ho.tr t ht
    have := rights_own ho (i := t.toNat) (by omega)
    rw [Int.toNat_of_nonneg h.1] at this
    have r := rightsOf_rts (holdI_len (o := o)) t.toNat
    rw [this, Int.toNat_of_nonneg h.1] at r
    exact r
end
end Mb

set_option Elab.async false
set_option linter.all false
set_option maxRecDepth 100000
set_option maxHeartbeats 4000000
namespace Mb
open PySem PySem.Spec PyProof.Rows L2 TL
/-! ### the pot, of the script and a place -/
abbrev PTop (h : Hp) (a : Addr) : Prop := PotAt h a 0
def CPowW (i j : Int) : Prop := 0 ≤ j ∧ (Builtin.Int.intBits i : Int) * j ≤ 2 ^ 27
section
variable {X : Cx} {σ : L2.St} {G H : Hp} {a b e : Expr} {p pos p2 : Pos} {x : Str} {l : Addr} {vs : List V} {ns : List Int}
theorem op_powW : OpR X (binaryOp .Pow) (rI CPowW fun i j => .int (i ^ j.toNat)) := opI fun _ _ _ _ _ _ _ hc q => pow_int hc.1 hc.2 q
theorem pu_powW {i j : Int} (ha : Pu X a σ G (.int i)) (hb : Pu X b σ G (.int j)) (hc : CPowW i j) : Pu X (.BinOp a .Pow b pos) σ G (.int (i ^ j.toNat)) := pu_bin op_powW ha hb (rv_I hc (.int _))
theorem pu_intK {k : Bool} (ha : Pu X a σ G (.bool k)) (hm : X.mg "int" = none) (hg : Gl X "int" := by rfl) (he : starEach [a] X.env = [(false, eval a X.env)] := by rfl) : Pu X (.Call (.Name "int" p) [a] [] pos) σ G (.int (if k then 1 else 0)) :=
  pu_oneT call_int1 ha (fun G1 H v g s hv Q q => by
    obtain rfl := hv.bl_inv
    exact .inr ⟨k, rfl, q _ _ _ (Step.refl s) (.int _)⟩) hm (by decide +kernel) hg (by decide) (by decide) he
theorem pu_sum (ha : Pu X a σ G (.list (ofI ns))) (hm : X.mg "sum" = none) (hc : X.calm = true := by rfl) (hg : Gl X "sum" := by rfl) (he : starEach [a] X.env = [(false, eval a X.env)] := by rfl) : Pu X (.Call (.Name "sum" p) [a] [] pos) σ G (.int ns.sum) :=
  pu_one (cr_sum hc) ha (fun G1 H v g s hv Q q => by
    obtain ⟨m, us, rfl, h1, h2⟩ := hv.lst_inv
    obtain rfl := h2.ints
    exact ⟨m, ns, rfl, SqL.of (s _ _ h1), q _ _ _ (Step.refl s) (.int _)⟩) hm (by decide +kernel) hg (by decide) (by decide) he
/-! a list that is not ours -/
theorem pu_lenQ (i : Nat) (hi : σ[i]? = some (some (.ref l))) (hs : SqL X.K G l vs) (hm : X.mg "len" = none) (hg : Gl X "len" := by rfl) (hN : X.N[i]? = some x := by rfl) (hv : Vis X.env.scope x := by first | exact Or.inl rfl | exact Or.inr (Or.inl rfl) | exact Or.inr (Or.inr rfl))
    (h1 : (x == ("__debug__" : Str)) = false := by decide) (h2 : (x == ("__classdict__" : Str)) = false := by decide) (he : starEach [.Name x p2] X.env = [(false, eval (.Name x p2) X.env)] := by rfl) : Pu X (.Call (.Name "len" p) [.Name x p2] [] pos) σ G (.int vs.length) := fun G1 H g s Q q =>
  w_callB call_len_seq hm PySem.boot_len (a_cons (w_var i hi (a_nil ⟨l, vs, rfl, .inl (SqL.same (g.trans s) hs), q _ _ _ (Step.refl s) (.int _)⟩) hN hv h1 h2) he) hg (by decide) (by decide) he rfl
theorem pu_ixQ (i : Nat) {k n : Int} (hi : σ[i]? = some (some (.ref l))) (hs : SqL X.K G l (ns.map V.int)) (hb : Pu X b σ G (.int k)) (h0 : 0 ≤ k) (hk : ns[k.toNat]? = some n) (hN : X.N[i]? = some x := by rfl) (hv : Vis X.env.scope x := by first | exact Or.inl rfl | exact Or.inr (Or.inl rfl) | exact Or.inr (Or.inr rfl))
    (h1 : (x == ("__debug__" : Str)) = false := by decide) (h2 : (x == ("__classdict__" : Str)) = false := by decide) (hp : PlainIx b := by exact fun _ _ => rfl) : Pu X (.Subscript (.Name x p2) b pos) σ G (.int n) := fun G1 H g s Q q =>
  w_ix ix_list (w_var i hi (hb G1 H g s _ fun w G3 H3 s3 hd3 => by
    obtain rfl := hd3.int_inv
    have hlt := (List.getElem?_eq_some_iff.mp hk).1
    refine ⟨l, _, k, .int n, rfl, rfl, SqL.same (g.trans (s3.g.trans s3.s)) hs, ?_, q _ _ _ s3 (.int _)⟩
    unfold atI ixN
    rw [if_pos h0, if_pos (by rw [List.length_map]; omega)]
    show (ns.map V.int)[k.toNat]? = _
    rw [List.getElem?_map, hk]
    rfl) hN hv h1 h2) hp
theorem pu_slQ (i : Nat) {k : Int} {hiE : Expr} (hi : σ[i]? = some (some (.ref l))) (hs : SqL X.K G l (ns.map V.int)) (hb : Pu X hiE σ G (.int k)) (h0 : 0 ≤ k) (hN : X.N[i]? = some x := by rfl) (hv : Vis X.env.scope x := by first | exact Or.inl rfl | exact Or.inr (Or.inl rfl) | exact Or.inr (Or.inr rfl))
    (h1 : (x == ("__debug__" : Str)) = false := by decide) (h2 : (x == ("__classdict__" : Str)) = false := by decide) : Pu X (.Subscript (.Name x p2) (.Slice none (some hiE) none p) pos) σ G (.list (ofI (ns.take k.toNat))) := fun G1 H g s Q q =>
  w_slice sl_list (w_var i hi (o_none (o_some (hb G1 H g s _ fun w G3 H3 s3 hd3 => by
    obtain rfl := hd3.int_inv
    refine ⟨k, rfl, l, _, rfl, SqL.same (g.trans (s3.g.trans s3.s)) hs, fun m hm => ?_⟩
    rw [cutV_take _ h0, ← List.map_take]
    exact q _ _ _ (s3.trans (Step.alloc s3.s hm)) (.lst upd_same (Das.ofInts _))))) hN hv h1 h2)
end
section
variable {P : Program} {w : World} {K : PySem.W.Frag} {mg : Str → Option Value} {base : Heap}
theorem scPot : FnScope ["script", "place", "cell", "own", "small"] ["script", "place"] (defScope sPot) := ⟨rfl, rfl, rfl, by decide +kernel, rfl, by decide +kernel, by decide +kernel⟩
def spPot (K : PySem.W.Frag) : Sp := fun vs H Q _ => ∃ (G : Hp) (a : Addr) (ns : List Int) (n : Nat), vs = [.ref a, .int (n : Int)] ∧ Same G H ∧ SqL K G a (ns.map V.int) ∧ n ≤ 1000 ∧
  ∀ l G' H', Step [] G H G' H' → H l = none → G' l = none → PotAt H' l 0 → Q (.ref l) H'
theorem spPot_len : ∀ vs H Q E, spPot K vs H Q E → vs.length = 2 := fun vs H Q E ⟨G, a, ns, n, h, _⟩ => by rw [h]; rfl
def cellN (ns : List Int) (n : Nat) : Int := match ns[n]? with
  | some c => c
  | none => (ns.take 1).sum % 1000003 + 1135 * (n : Int) + 518
theorem has_pot (T : Top1 K mg "_law_pot" sPot ["script", "place"]) (B : Blt mg) : Has P w K mg base "_law_pot" 1 2 (spPot K) := by
  refine mkHas (k := 0) T scPot spPot_len fun f cdv A outer s H vs Q E hr h => ?_
  obtain ⟨G, a, ns, n, rfl, g, hs, hn, k⟩ := h
  have el : (ns.map V.int).length = ns.length := by simp
  refine b_cons (s_set 2 scPot.nd (w_pu (d := .int (cellN ns n)) (pu_if (k := decide ((n : Int) < ns.length)) (put_c (c_lt (pu_var 1 rfl (.int _)) (Pu.to (pu_lenQ 0 rfl hs B.len) (by rw [el])))) (fun h => ?_) (fun h => ?_)) g fun v1 G1 H1 s1 hv1 => ?_))
  · have hlt : n < ns.length := by have := of_decide_eq_true h; omega
    have e : ns[((n : Int)).toNat]? = some (cellN ns n) := by
      unfold cellN
      rw [Int.toNat_natCast, List.getElem?_eq_getElem hlt]
    exact pu_ixQ 0 rfl hs (pu_var 1 rfl (.int _)) (by omega) e
  · have hge : ns[n]? = none := List.getElem?_eq_none (by have := of_decide_eq_false h; omega)
    refine Pu.to (pu_add (pu_add (pu_mod (pu_sum (pu_slQ 0 rfl hs pu_int (by decide)) B.sum) pu_int (by decide)) (pu_mul pu_int (pu_var 1 rfl (.int _)) ?m0)) pu_int) ?e0
    case m0 => exact wide_mul (a := 62) (b := 62) (by decide) (by omega) (by decide) (by decide) (by decide)
    case e0 =>
      unfold cellN
      rw [hge]
      rfl
  obtain rfl := hv1.int_inv
  generalize cellN ns n = c
  generalize hab : (if c < 0 then -c else c) = ab
  have hab0 : 0 ≤ ab := by rw [← hab]; split <;> omega
  have big : ((10 : Int) ^ (60 : Int).toNat) ^ (5 : Int).toNat = 10 ^ 300 := by decide +kernel
  have bigp : (0 : Int) < 10 ^ 300 := by decide +kernel
  have bigl : (10 : Int) ^ 300 < 2 ^ 999 := by decide +kernel
  refine b_cons (s_set 3 scPot.nd (w_pu (pu_mul (pu_mod (pu_intI (Pu.to (pu_abs (pu_var 2 rfl (.int c)) B.abs) (by rw [hab])) B.int) (Pu.to (pu_powW (pu_powW pu_int pu_int (by unfold CPowW; decide +kernel)) pu_int (by unfold CPowW; decide +kernel)) (by rw [big])) bigp)
    (pu_intK (k := decide ((10 : Int) ^ (18 : Int).toNat ≤ ab)) (pu_c (c_ge (Pu.to (pu_abs (pu_var 2 rfl (.int c)) B.abs) (by rw [hab])) (pu_powW pu_int pu_int (by unfold CPowW; decide +kernel)))) B.int) ?m1) s1.s fun v2 G2 H2 s2 hv2 => ?_))
  case m1 =>
    have h1 : 0 ≤ ab % 10 ^ 300 ∧ ab % 10 ^ 300 < 10 ^ 300 := ⟨Int.emod_nonneg _ (by omega), Int.emod_lt_of_pos _ bigp⟩
    refine wide_mul (a := 999) (b := 2) (by omega) ?_ (by decide) (by decide) (by decide)
    split <;> decide
  obtain rfl := hv2.int_inv
  have hown : ∀ q : Bool, 0 ≤ ab % 10 ^ 300 * (if q then 1 else 0) ∧ ab % 10 ^ 300 * (if q then 1 else 0) < 2 ^ 1000 := by
    intro q
    have h1 : 0 ≤ ab % 10 ^ 300 ∧ ab % 10 ^ 300 < 10 ^ 300 := ⟨Int.emod_nonneg _ (by omega), Int.emod_lt_of_pos _ bigp⟩
    have h2 : (2 : Int) ^ 999 < 2 ^ 1000 := by decide +kernel
    cases q
    · rw [if_neg Bool.false_ne_true, Int.mul_zero]
      exact ⟨Int.le_refl _, by decide +kernel⟩
    · rw [if_pos rfl, Int.mul_one]
      omega
  have hown' := hown (decide ((10 : Int) ^ (18 : Int).toNat ≤ ab))
  generalize ab % 10 ^ 300 * (if decide ((10 : Int) ^ (18 : Int).toNat ≤ ab) = true then (1 : Int) else 0) = own at hown'
  refine b_cons (s_set 4 scPot.nd (w_pu (pu_mod (pu_intI (pu_var 2 rfl (.int c)) B.int) pu_int (by decide)) s2.s fun v3 G3 H3 s3 hv3 => ?_))
  obtain rfl := hv3.int_inv
  have hsm : 0 ≤ c % 2305843009213693951 ∧ c % 2305843009213693951 < 2305843009213693951 := ⟨Int.emod_nonneg _ (by decide), Int.emod_lt_of_pos _ (by decide)⟩
  generalize c % 2305843009213693951 = small at hsm
  refine b_one (s_ret (w_lst (a_cons (w_var 3 rfl (a_cons (w_pu (pu_mod (pu_intI (pu_add (pu_add (pu_mul (pu_var 4 rfl (.int small)) pu_int ?m2) (pu_mul (pu_mul pu_int (pu_var 1 rfl (.int (n : Int))) ?m3) (pu_var 1 rfl (.int (n : Int))) ?m4)) pu_int) B.int) pu_int (by decide)) s3.s fun v4 G4 H4 s4 hv4 => a_cons (w_int (a_nil ⟨by show 3 ≤ sizeLine; decide, fun l hl => ?_⟩))))))))
  case m2 => exact wide_mul (a := 62) (b := 62) (by omega) (by decide) (by decide) (by decide) (by decide)
  case m3 => exact wide_mul (a := 62) (b := 62) (by decide) (by omega) (by decide) (by decide) (by decide)
  case m4 => exact wide_mul (a := 62) (b := 62) (by omega) (by omega) (by decide) (by decide) (by decide)
  obtain rfl := hv4.int_inv
  have st := (s1.trans s2).trans (s3.trans s4)
  generalize small * 73117 + 8065 * (n : Int) * (n : Int) + 511 = big2
  refine k l G4 _ (st.trans (Step.allocM st.s hl)) (st.free hl) (st.s.free hl) ⟨own, _, 0, upd_same, hown'.1, hown'.2, Int.emod_nonneg _ (by decide), ?_, by decide, by decide⟩
  exact Int.lt_trans (Int.emod_lt_of_pos _ (by decide)) (by decide)
end
end Mb

set_option Elab.async false
set_option linter.all false
set_option maxRecDepth 100000
set_option maxHeartbeats 4000000
namespace Mb
open PySem PySem.Spec PyProof.Rows L2 TL
/-! ### what a class of the text has by birth -/
def tyD : Dt → String
  | .none => "NoneType"
  | .bool _ => "bool"
  | .int _ => "int"
  | .str _ => "str"
  | .list _ => "list"
  | .tuple _ => "tuple"
  | .dict _ => "dict"
def tyNs : List String := ["NoneType", "bool", "int", "str", "list", "tuple", "dict"]
theorem tyD_mem (d : Dt) : tyD d ∈ tyNs := by
  cases d <;> simp [tyD, tyNs]
structure ClsX (K : PySem.W.Frag) (C : Addr) : Prop where
  isi : ∀ T ∈ tyNs, PySem.W.kitOne K (.type T) (.ref C) = some false
  nf : ∀ T ∈ tyNs, PySem.W.notFirst K C (.type T) = true
  cls : Cls K C
  gc : PySem.W.findIn K (.ref C) "__class__" = some (some (.builtin "object.__class__"))
  sc : PySem.W.specialIn K (.builtin "object.__class__") "__get__" = some (some (.builtin "getset_descriptor.__get__"))
  tk : PySem.W.takesIn K (.builtin "object.__class__") = some true
  mro : PySem.W.mroIn K C (.type "object") = some true
  ne : PySem.W.findIn K (.ref C) "__ne__" = some (some (.builtin "object.__ne__"))
theorem ClsX.nfO {K : PySem.W.Frag} {C : Addr} : PySem.W.notFirst K C (.ref C) = true := by
  unfold PySem.W.notFirst
  rw [beq_self_eq_true, Bool.true_or]
theorem ClsX.isiO {K : PySem.W.Frag} {C : Addr} : PySem.W.kitOne K (.ref C) (.ref C) = some true := by
  unfold PySem.W.kitOne
  rw [if_pos (beq_self_eq_true _)]
theorem ty_of {K : PySem.W.Frag} {G H : Hp} {v : V} {d : Dt} (s : Same G H) (h : Da K G v d) : TyX K H v (.type (tyD d)) := by
  cases h with
  | non => exact .base .non
  | bl b => exact .base (.bl b)
  | int i => exact .base (.int i)
  | str x => exact .base (.str x)
  | lst h hs => exact .base (.lst (s _ _ h))
  | tup h hs =>
    rcases SqT.same s h with (h | ⟨o, h⟩) | ⟨o, its, n, e, c, _⟩
    · exact .base (.tup h)
    · exact .fTuple h
    · exact .kTuple e c
  | dct h hs =>
    rcases h with h | ⟨o, h⟩
    · exact .base (.dK (s _ _ h))
    · exact .fDict (s _ _ h)
theorem ty_ins {K : PySem.W.Frag} {C : Addr} (X : ClsX K C) {H : Hp} {a dx : Addr} {fs : List (Str × V)} (h : H a = some (.ins C dx fs)) : TyX K H (.ref a) (.ref C) := .base (.ins h X.cls X.gc X.sc X.tk X.mro)
def isS : Dt → Bool
  | .str _ => true
  | _ => false
theorem kit_str {K : PySem.W.Frag} (d : Dt) : PySem.W.kitOne K (.type (tyD d)) (.type "str") = some (isS d) := by
  cases d <;> exact kit_ty (by kernel_rfl)
section
variable {X : Cx} {σ : L2.St} {G H : Hp} {a b c : Expr} {p p2 pos : Pos} {d : Dt} {x : Str} {C : Addr}
theorem pu_isStr (ha : Pu X a σ G d) (hm : X.mg "isinstance" = none) (hm2 : X.mg "str" = none) (hg : Gl X "isinstance" := by rfl) (hg2 : Gl X "str" := by rfl)
    (he : starEach [a, .Name "str" p2] X.env = (false, eval a X.env) :: starEach [.Name "str" p2] X.env := by rfl) (he2 : starEach [.Name "str" p2] X.env = (false, eval (.Name "str" p2) X.env) :: starEach [] X.env := by rfl) (hpl : (backTo pos (starEach [.Name "str" p2] X.env)).any (·.1) = false := by rfl) :
    Pu X (.Call (.Name "isinstance" p) [a, .Name "str" p2] [] pos) σ G (.bool (isS d)) :=
  pu_isi ha (fun G' H v s h => ⟨_, ty_of s h, kit_str d⟩) hm hm2 (by decide +kernel) hg hg2 (by decide) (by decide) he he2 hpl
/-- isinstance(e, C) for a class of the text -/
theorem w_isiO {Q : VK} (q : eE X a σ H fun v H1 => ∃ (t : Value) (k : Bool), TyX X.K H1 v t ∧ PySem.W.kitOne X.K t (.ref C) = some k ∧ Q (.bl k) H1) (hm : X.mg "isinstance" = none) (hm2 : X.mg x = some (.ref C)) (hg : Gl X "isinstance" := by rfl) (hg2 : Gl X x := by rfl)
    (hdb : (x == ("__debug__" : Str)) = false := by decide)
    (he : starEach [a, .Name x p2] X.env = (false, eval a X.env) :: starEach [.Name x p2] X.env := by rfl) (he2 : starEach [.Name x p2] X.env = (false, eval (.Name x p2) X.env) :: starEach [] X.env := by rfl) (hpl : (backTo pos (starEach [.Name x p2] X.env)).any (·.1) = false := by rfl) :
    eE X (.Call (.Name "isinstance" p) [a, .Name x p2] [] pos) σ H Q :=
  w_callB call_isi hm (by decide +kernel) (a_cons (q.mono fun v H1 ⟨t, k, h1, h2, q⟩ => a_cons (w_glob hm2 (v := .ref C) rfl (a_nil ⟨v, .ref C, t, .ref C, k, rfl, .own C, h1, h2, q⟩) hg2 hdb) he2) he) hg (by decide) (by decide) he hpl
end
/-! ### a hall's own methods -/
def HallAt (K : PySem.W.Frag) (C : Addr) (G : Hp) (x : Addr) (o : Own) : Prop := ∃ dx fs, G x = some (.ins C dx fs) ∧ HallF K G o fs
theorem HallAt.mono {K : PySem.W.Frag} {C : Addr} {G G' : Hp} {x : Addr} {o : Own} (h : HallAt K C G x o) (s : Same G G') : HallAt K C G' x o := by
  obtain ⟨dx, fs, h1, h2⟩ := h
  exact ⟨dx, fs, s _ _ h1, h2.mono s⟩
def inD (o : Own) : Dt → Bool
  | .str x => decide (x ∈ o.kinds.map (·.nm))
  | _ => false
section
variable {P : Program} {w : World} {K : PySem.W.Frag} {mg : Str → Option Value} {base : Heap} {C : Addr}
theorem scHLen : FnScope ["self"] ["self"] (defScope mHallLen) := ⟨rfl, rfl, rfl, by decide +kernel, rfl, by decide +kernel, by decide +kernel⟩
theorem scHIn : FnScope ["self", "value", "kind"] ["self", "value"] (defScope mHallIn) := ⟨rfl, rfl, rfl, by decide +kernel, rfl, by decide +kernel, by decide +kernel⟩
theorem scHEq : FnScope ["self", "other"] ["self", "other"] (defScope mHallEq) := ⟨rfl, rfl, rfl, by decide +kernel, rfl, by decide +kernel, by decide +kernel⟩
def spHLen (K : PySem.W.Frag) (C : Addr) : Sp := fun vs H Q _ => ∃ G x o, vs = [.ref x] ∧ Same G H ∧ HallAt K C G x o ∧ ∀ G' H', Step [] G H G' H' → Q (.int o.kinds.length) H'
theorem has_hlen (DH : ClsH K C) (T : TopM K C "__len__" "Hall.__len__" mHallLen ["self"]) (B : Blt mg) : Own1 P w K mg base C "__len__" 1 (spHLen K C) := by
  refine mkOwn1 (k := 0) T scHLen (fun vs H Q E ⟨G, x, o, h, _⟩ => by rw [h]; rfl) fun f cdv A outer s H vs Q E hr h => ?_
  obtain ⟨G, x, o, rfl, g, ⟨dx, fs, hx, hF⟩, k⟩ := h
  obtain ⟨v1, v2, v3, v4, v5, rfl, h1, h2, h3, h4, h5⟩ := hF.ex
  refine b_one (s_ret (w_pu (pu_lenT (pu_pv (pv_fld 0 rfl hx DH.cls DH.kinds rfl) h2) B.len) g fun v G' H' s' hv => ?_))
  obtain rfl := hv.int_inv
  rw [List.length_map]
  exact k G' H' s'
def spHIn (K : PySem.W.Frag) (C : Addr) : Sp := fun vs H Q _ => ∃ G x o v d, vs = [.ref x, v] ∧ Same G H ∧ HallAt K C G x o ∧ Da K G v d ∧ o.kinds.length < 1000 ∧ ∀ G' H', Step [] G H G' H' → Q (.bl (inD o d)) H'
theorem has_hin (DH : ClsH K C) (T : TopM K C "__contains__" "Hall.__contains__" mHallIn ["self", "value"]) (B : Blt mg) : Own1 P w K mg base C "__contains__" 1 (spHIn K C) := by
  refine mkOwn1 (k := 0) T scHIn (fun vs H Q E ⟨G, x, o, v, d, h, _⟩ => by rw [h]; rfl) fun f cdv A outer s H vs Q E hr h => ?_
  obtain ⟨G, x, o, v, d, rfl, g, ⟨dx, fs, hx, hF⟩, hd, hl, k⟩ := h
  obtain ⟨v1, v2, v3, v4, v5, rfl, h1, h2, h3, h4, h5⟩ := hF.ex
  refine b_one (s_ret (w_pu (d := .bool (isS d && inD o d)) (pu_and (pu_isStr (pu_var 1 rfl hd) B.isinstance B.str) fun hS => ?_) g fun v G' H' s' hv => ?_))
  · cases d with
    | str x =>
      exact pu_bo1 (pu_c (c_inS (n := x) (ns := o.kinds.map (·.nm)) (pu_var 1 rfl hd) (Pu.to (pu_lc1 2 (cd := kdD) (ns := o.kinds) (src_tup (pu_pv (pv_fld 0 rfl hx DH.cls DH.kinds rfl) h2)) (fun q => .str q.nm) (fun _ => true) scHIn.nd (fun _ _ _ _ _ _ _ _ _ _ _ => puts_nil)
        (fun n hn _ v G2 g2 hv _ _ _ _ _ => pu_ixT (i := 0) (pu_var 2 rfl hv) pu_int (by decide) rfl) (by omega)) (by rw [filter_tt]; simp [ofS]))))
    | _ => cases hS
  · obtain rfl := hv.bl_inv
    have e : (isS d && inD o d) = inD o d := by cases d <;> rfl
    rw [e]
    exact k G' H' s'
def spHEq (K : PySem.W.Frag) (C : Addr) : Sp := fun vs H Q _ => ∃ G x o y, vs = [.ref x, y] ∧ Same G H ∧ HallAt K C G x o ∧ ((∃ d, Da K G y d ∧ ∀ G' H', Step [] G H G' H' → Q (.bl false) H') ∨ ∃ x2 o2, y = .ref x2 ∧ HallAt K C G x2 o2 ∧ ∀ G' H', Step [] G H G' H' → Q (.bl (decide (textO o = textO o2))) H')
theorem has_heq (DX : ClsX K C) (DH : ClsH K C) (hm : mg "Hall" = some (.ref C)) (T : TopM K C "__eq__" "Hall.__eq__" mHallEq ["self", "other"]) (B : Blt mg) : Own1 P w K mg base C "__eq__" 1 (spHEq K C) := by
  refine mkOwn1 (k := 0) T scHEq (fun vs H Q E ⟨G, x, o, y, h, _⟩ => by rw [h]; rfl) fun f cdv A outer s H vs Q E hr h => ?_
  obtain ⟨G, x, o, y, rfl, g, ⟨dx, fs, hx, hF⟩, k⟩ := h
  obtain ⟨v1, v2, v3, v4, v5, rfl, h1, h2, h3, h4, h5⟩ := hF.ex
  rcases k with ⟨d, hd, k⟩ | ⟨x2, o2, rfl, ⟨dx2, fs2, hx2, hF2⟩, k⟩
  · exact b_one (s_ret (w_and (w_isiO (w_var 1 rfl ⟨_, false, ty_of g hd, DX.isi _ (tyD_mem d), false, rfl, k G H (Step.refl g)⟩) B.isinstance hm)))
  · obtain ⟨w1, w2, w3, w4, w5, rfl, i1, i2, i3, i4, i5⟩ := hF2.ex
    refine b_one (s_ret (w_and (w_isiO (w_var 1 rfl ⟨_, true, ty_ins DX (g _ _ hx2), ClsX.isiO, true, rfl, ?_⟩) B.isinstance hm)))
    show eE _ _ _ _ _
    refine w_one (w_pu (pu_c (c_eqS (pu_pv (pv_fld 0 rfl hx DH.cls DH.text rfl) (.str (textO o))) (pu_pv (pv_fld 1 rfl hx2 DH.cls DH.text rfl) (.str (textO o2))))) g fun v G' H' s' hv => ?_)
    obtain rfl := hv.bl_inv
    exact k G' H' s'
end
end Mb

set_option Elab.async false
set_option linter.all false
set_option maxRecDepth 100000
set_option maxHeartbeats 4000000
namespace Mb
open PySem PySem.Spec PyProof.Rows L2 TL
/-! ### data whose text is short -/
structure ReprOk (d : Dt) (b k : Nat) : Prop where
  sh : d.showable = true
  nd : d.hasDict = false
  lv : d.leavesShort 13 = true
  bu : d.bulk ≤ b
  dp : d.depth ≤ k
theorem ReprOk.up {d : Dt} {b k b' k' : Nat} (h : ReprOk d b k) (hb : b ≤ b') (hk : k ≤ k') : ReprOk d b' k' := ⟨h.sh, h.nd, h.lv, Nat.le_trans h.bu hb, Nat.le_trans h.dp hk⟩
theorem ReprOk.non : ReprOk .none 0 0 := ⟨rfl, rfl, rfl, by show (0 : Nat) ≤ 0; omega, by show (0 : Nat) ≤ 0; omega⟩
theorem ReprOk.int {i : Int} (h0 : 0 ≤ i) (h1 : i ≤ 999999999999) : ReprOk (.int i) 0 0 := by
  refine ⟨?_, by simp only [PyData.hasDict], ?_, by show (0 : Nat) ≤ 0; omega, by show (0 : Nat) ≤ 0; omega⟩
  · simp only [PyData.showable]
    refine decide_eq_true ?_
    by_cases h : i.natAbs = 0
    · rw [h]; decide
    · have := (Nat.log2_lt h (k := 1920)).mpr (Nat.lt_of_lt_of_le (show i.natAbs < 2 ^ 40 by omega) (Nat.pow_le_pow_right (by decide) (by decide)))
      exact this
  · simp only [PyData.leavesShort]
    exact decide_eq_true (PyData.shown_int_le2 (by omega) h1)
theorem ReprOk.str {x : Str} {b : Nat} (h : PyData.canLay0 (.str x) = true) (hl : x.length ≤ b) : ReprOk (.str x) b 0 := by
  refine ⟨rfl, rfl, ?_, hl, by show (0 : Nat) ≤ 0; omega⟩
  simp only [PyData.leavesShort, List.all_eq_true, decide_eq_true_eq]
  intro c hc
  have h' : x.cps.all (· < 0x110000) = true := h
  rw [Array.all_eq_true'] at h'
  have := of_decide_eq_true (h' c (Array.mem_toList_iff.mp hc))
  exact Nat.lt_trans this (by decide)
theorem reprAll {b k : Nat} : ∀ {ds : List Dt}, (∀ d ∈ ds, ReprOk d b k) → PyData.showableAll ds = true ∧ PyData.hasDictAll ds = false ∧ PyData.leavesShortAll 13 ds = true ∧ PyData.bulkAll ds ≤ ds.length * (b + 1) ∧ PyData.depthAll ds ≤ k
  | [], _ => ⟨rfl, rfl, rfl, by show (0 : Nat) ≤ _; omega, by show (0 : Nat) ≤ k; omega⟩
  | d :: ds, h => by
    obtain ⟨h1, h2, h3, h4, h5⟩ := reprAll (ds := ds) fun x hx => h x (List.mem_cons_of_mem _ hx)
    have hd := h d List.mem_cons_self
    refine ⟨?_, ?_, ?_, ?_, ?_⟩
    · simp only [PyData.showableAll, hd.sh, h1, Bool.and_self]
    · simp only [PyData.hasDictAll, hd.nd, h2, Bool.or_self]
    · simp only [PyData.leavesShortAll, hd.lv, h3, Bool.and_self]
    · have := hd.bu
      simp only [PyData.bulkAll, List.length_cons, Nat.add_mul, Nat.one_mul]
      omega
    · simp only [PyData.depthAll]
      exact Nat.max_le.mpr ⟨hd.dp, h5⟩
theorem ReprOk.tup {ds : List Dt} {b k : Nat} (h : ∀ d ∈ ds, ReprOk d b k) : ReprOk (.tuple ds) (ds.length * (b + 1)) (k + 1) := by
  obtain ⟨h1, h2, h3, h4, h5⟩ := reprAll h
  exact ⟨by simpa only [PyData.showable] using h1, by simpa only [PyData.hasDict] using h2, by simpa only [PyData.leavesShort] using h3, by simpa only [PyData.bulk] using h4, by simp only [PyData.depth]; omega⟩
theorem ReprOk.lst {ds : List Dt} {b k : Nat} (h : ∀ d ∈ ds, ReprOk d b k) : ReprOk (.list ds) (ds.length * (b + 1)) (k + 1) := by
  obtain ⟨h1, h2, h3, h4, h5⟩ := reprAll h
  exact ⟨by simpa only [PyData.showable] using h1, by simpa only [PyData.hasDict] using h2, by simpa only [PyData.leavesShort] using h3, by simpa only [PyData.bulk] using h4, by simp only [PyData.depth]; omega⟩
theorem ReprOk.size {d : Dt} {b k : Nat} (h : ReprOk d b k) : d.shown.length ≤ 15 * b + 13 := Nat.le_trans (PyData.shown_le_bulk 13 (by decide) d h.lv) (Nat.add_le_add_right (Nat.mul_le_mul_left _ h.bu) _)
theorem nods_all : ∀ {ds : List Dt}, (∀ d ∈ ds, nod d = true) → nods ds = true
  | [], _ => rfl
  | d :: ds, h => by
    simp only [nods, h d List.mem_cons_self, nods_all (fun x hx => h x (List.mem_cons_of_mem _ hx)), Bool.and_self]
section
variable {X : Cx} {σ : L2.St} {G : Hp} {a : Expr} {p pos px : Pos} {ds : List Dt} {b k : Nat}
theorem pu_reprL (quiet : X.A.guards = some []) (hu : X.A.units + 64 < cLine) (ha : Pu X a σ G (.list ds)) (hn : nods ds = true) (ok : ReprOk (.list ds) b k) (hb : 15 * b + 13 ≤ sizeLine) (hk : k ≤ 60) (hm : X.mg "repr" = none) (hg : Gl X "repr" := by rfl) (he : starEach [a] X.env = [(false, eval a X.env)] := by rfl) :
    Pu X (.Call (.Name "repr" p) [a] [] pos) σ G (.str (PyData.list ds).shown) :=
  pu_one (call_reprD quiet hu) ha (fun G1 H v g s hv Q q => by
    have hd := (Da.mono s hv).dp (by simpa only [nod] using hn)
    obtain ⟨l, vs, rfl, h1, h2⟩ := hv.lst_inv
    exact ⟨l, .list ds, rfl, hd, ok.sh, ok.nd, Nat.le_trans ok.dp hk, Nat.le_trans ok.size hb, q _ _ _ (Step.refl s) (.str _)⟩) hm (by decide +kernel) hg (by decide) (by decide) he
theorem pu_reprB {c : Bool} (ha : Pu X a σ G (.bool c)) (hm : X.mg "repr" = none) (hg : Gl X "repr" := by rfl) (he : starEach [a] X.env = [(false, eval a X.env)] := by rfl) : Pu X (.Call (.Name "repr" p) [a] [] pos) σ G (.str (if c then "True" else "False")) :=
  pu_one call_reprB ha (fun G1 H v g s hv Q q => by
    obtain rfl := hv.bl_inv
    exact ⟨c, rfl, q _ _ _ (Step.refl s) (.str _)⟩) hm (by decide +kernel) hg (by decide) (by decide) he
theorem pu_hallLen {C x : Addr} {o : Own} {nm : Str} {j : Nat} (i : Nat) (F : Own1 X.prog X.w X.K X.mg X.base C "__len__" 1 (spHLen X.K C)) (hr : Room j X.A) (hj : 2 ≤ j) (hi : σ[i]? = some (some (.ref x))) (hx : HallAt X.K C G x o) (hl : o.kinds.length < 1000) (hm : X.mg "len" = none) (hg : Gl X "len" := by rfl)
    (hN : X.N[i]? = some nm := by rfl) (hv : Vis X.env.scope nm := by first | exact Or.inl rfl | exact Or.inr (Or.inl rfl) | exact Or.inr (Or.inr rfl))
    (h1 : (nm == ("__debug__" : Str)) = false := by decide) (h2 : (nm == ("__classdict__" : Str)) = false := by decide) (he : starEach [.Name nm px] X.env = [(false, eval (.Name nm px) X.env)] := by rfl) : Pu X (.Call (.Name "len" p) [.Name nm px] [] pos) σ G (.int o.kinds.length) := fun G1 H g s Q q => by
  obtain ⟨dx, fs, e1, _⟩ := hx.mono (g.trans s)
  exact w_callB (call_ownLen F (hr.mono hj)) hm PySem.boot_len (a_cons (w_var i hi (a_nil ⟨x, dx, fs, rfl, e1, G1, x, o, rfl, s, hx.mono g, fun G' H' s' => ⟨_, rfl, by omega, by omega, q _ G' H' s' (.int _)⟩⟩) hN hv h1 h2) he) hg (by decide) (by decide) he rfl
end
/-! ### small data -/
theorem stD_mem {hs : List Int} {d : Dt} (h : d ∈ stD hs) : d = .tuple [.str "away"] ∨ ∃ i, d = .tuple [.str "here", .tuple (ofI (rightsOf hs i))] := by
  unfold stD at h
  obtain ⟨i, hi, e⟩ := List.mem_mapIdx.mp h
  split at e
  · exact .inr ⟨i, e.symm⟩
  · exact .inl e.symm
theorem rights_mem {hs : List Int} {i : Nat} {x : Int} (h : x ∈ rightsOf hs i) : 0 ≤ x ∧ x < hs.length := by
  unfold rightsOf at h
  obtain ⟨p, hp, rfl⟩ := List.mem_map.mp h
  have := (List.mem_filter.mp hp).1
  obtain ⟨n, hn, e⟩ := List.mem_iff_getElem.mp this
  rw [List.getElem_zipIdx] at e
  rw [List.length_zipIdx] at hn
  subst e
  show 0 ≤ ((0 + n : Nat) : Int) ∧ ((0 + n : Nat) : Int) < hs.length
  omega
theorem rights_len (hs : List Int) (i : Nat) : (rightsOf hs i).length ≤ hs.length := by
  unfold rightsOf
  rw [List.length_map]
  exact Nat.le_trans (List.length_filter_le _ _) (by rw [List.length_zipIdx]; exact Nat.le_refl _)
theorem name_ok {x : Str} (h : Nm x) : ReprOk (.str x) 8 0 := .str (lets_ok h.1) h.2.2
theorem ints_ok {xs : List Int} {n : Nat} (h : ∀ x ∈ xs, 0 ≤ x ∧ x < 1000) (hl : xs.length ≤ n) : ReprOk (.tuple (ofI xs)) n 1 := by
  refine (ReprOk.tup (b := 0) (k := 0) fun d hd => ?_).up (by unfold ofI; rw [List.length_map]; omega) (Nat.le_refl _)
  obtain ⟨i, hi, rfl⟩ := List.mem_map.mp hd
  exact .int (h i hi).1 (by have := (h i hi).2; omega)
theorem opt_ok {oo : Option Int} (h : ∀ x, oo = some x → 0 ≤ x ∧ x < 1000) : ReprOk (optD oo) 0 0 := by
  cases oo with
  | none => exact .non
  | some x => exact .int (h x rfl).1 (by have := (h x rfl).2; omega)
theorem tl_ok (x : Str) (h : ∀ c ∈ tl x, c < 0x110000) : PyData.canLay0 (.str x) = true := by
  show x.cps.all (· < 0x110000) = true
  rw [Array.all_eq_true']
  intro c hc
  exact decide_eq_true (h c (Array.mem_toList_iff.mpr hc))
theorem ReprOk.bl (b : Bool) : ReprOk (.bool b) 0 0 := ⟨rfl, rfl, rfl, by show (0 : Nat) ≤ 0; omega, by show (0 : Nat) ≤ 0; omega⟩
theorem bools_ok (a b : Bool) : ReprOk (.list [.bool a, .bool b]) 2 1 := by
  refine (ReprOk.lst (b := 0) (k := 0) fun d hd => ?_).up (by show 2 * (0 + 1) ≤ 2; decide) (Nat.le_refl _)
  simp only [List.mem_cons, List.not_mem_nil, or_false] at hd
  rcases hd with rfl | rfl
  · exact .bl a
  · exact .bl b
section
variable {X : Cx} {σ : L2.St} {G H : Hp} {a b e : Expr} {p pos px apos : Pos} {ds : List Dt} {d : Dt} {Q : VK} {j : Nat} {nm : Str}
theorem pu_neg {i : Int} (ha : Pu X a σ G (.int i)) : Pu X (.UnaryOp .USub a pos) σ G (.int (-i)) := fun G1 H g s Q q =>
  w_un un_neg (ha G1 H g s _ fun v G2 H2 s2 hd => ⟨i, hd.int_inv, q _ G2 H2 s2 (.int _)⟩)
theorem pu_ixLast (ha : Pu X a σ G (.list ds)) (hb : Pu X b σ G (.int (-1))) (e : ds[ds.length - 1]? = some d) (hs : PlainIx b := by exact fun _ _ => rfl) : Pu X (.Subscript a b pos) σ G d := pu_ixr ix_list ha hb (fun G1 H v w g s hv hw Q q => by
  obtain ⟨l, vs, rfl, h1, h2⟩ := hv.lst_inv
  obtain rfl := hw.int_inv
  have hlt := (List.getElem?_eq_some_iff.mp e).1
  have hl := h2.length
  obtain ⟨z, h3, h4⟩ := h2.get' e
  refine ⟨l, vs, -1, z, rfl, rfl, SqL.of (s _ _ h1), ?_, q _ _ _ (Step.refl s) h4⟩
  unfold atI ixN
  rw [if_neg (by decide), if_pos (by omega)]
  show vs[(vs.length + (-1 : Int)).toNat]? = some z
  rw [show (vs.length + (-1 : Int)).toNat = ds.length - 1 by omega]
  exact h3) hs
theorem pu_ixLastT (ha : Pu X a σ G (.tuple ds)) (hb : Pu X b σ G (.int (-1))) (e : ds[ds.length - 1]? = some d) (hs : PlainIx b := by exact fun _ _ => rfl) : Pu X (.Subscript a b pos) σ G d := pu_ixr ix_tup ha hb (fun G1 H v w g s hv hw Q q => by
  obtain ⟨l, vs, rfl, h1, h2⟩ := hv.tup_inv
  obtain rfl := hw.int_inv
  have hlt := (List.getElem?_eq_some_iff.mp e).1
  have hl := h2.length
  obtain ⟨z, h3, h4⟩ := h2.get' e
  refine ⟨l, vs, -1, z, rfl, rfl, SqT.same s h1, ?_, q _ _ _ (Step.refl s) h4⟩
  unfold atI ixN
  rw [if_neg (by decide), if_pos (by omega)]
  show vs[(vs.length + (-1 : Int)).toNat]? = some z
  rw [show (vs.length + (-1 : Int)).toNat = ds.length - 1 by omega]
  exact h3) hs
theorem pu_upper {x : Str} (ha : Pu X a σ G (.str x)) (hz : x.length ≤ 1000) (hbase : attributeBase a "upper" X.env (eval a X.env) = eval a X.env := by rfl) (hline : (apos.endLine == pos.line) = true := by rfl) :
    Pu X (.Call (.Attribute a "upper" apos) [] [] pos) σ G (.str (Txt.upper x)) := fun G1 H g s Q q =>
  w_m0 F.slot_str_upper F.type_str_upper mt_upper (ha G1 H g s _ fun v G2 H2 s2 hd => ⟨⟨x, hd.str_inv⟩, x, hd.str_inv, rfl, by omega, q _ G2 H2 s2 (.str _)⟩) hbase hline
theorem pu_dict0 : Pu X (.Dict [] [] pos) σ G (dctD []) := fun G1 H g s Q q =>
  eE.mk pe_dnewK fun l hl => q _ _ _ (Step.alloc s hl) (.dct (.inl upd_same) .nil)
theorem c_inHall {C x : Addr} {o : Own} (i : Nat) (F : Own1 X.prog X.w X.K X.mg X.base C "__contains__" 1 (spHIn X.K C)) (hr : Room j X.A) (hj : 1 ≤ j) (ha : Pu X a σ G d) (hi : σ[i]? = some (some (.ref x))) (hx : HallAt X.K C G x o) (hl : o.kinds.length < 1000)
    (hN : X.N[i]? = some nm := by rfl) (hv : Vis X.env.scope nm := by first | exact Or.inl rfl | exact Or.inr (Or.inl rfl) | exact Or.inr (Or.inr rfl))
    (h1 : (nm == ("__debug__" : Str)) = false := by decide) (h2 : (nm == ("__classdict__" : Str)) = false := by decide) : Pu X (.Compare a [.In] [.Name nm px] pos) σ G (.bool (inD o d)) := fun G1 H g s Q q =>
  w_cmp (op_ownIn F (hr.mono hj)) (ha G1 H g s _ fun v G2 H2 s2 hd => w_var i hi (by
    have hat := hx.mono (g.trans s2.g)
    obtain ⟨dx, fs, e1, _⟩ := hat.mono s2.s
    exact ⟨x, dx, fs, rfl, e1, G2, x, o, v, d, rfl, s2.s, hat, hd, hl, fun G' H' s' => ⟨_, rfl, q _ G' H' (s2.trans s') (.bl _)⟩⟩) hN hv h1 h2) (by rfl)
/-- any(..) of whatever makes bools -/
theorem w_anyC (q : eE X a σ H fun v H1 => ∃ (G : Hp) (bs : List Bool), Da X.K G v (.list (bs.map PyData.bool)) ∧ Same G H1 ∧ Q (.bl (bs.any id)) H1) (hm : X.mg "any" = none) (hc : X.calm = true := by rfl) (hg : Gl X "any" := by rfl) (he : starEach [a] X.env = [(false, eval a X.env)] := by rfl) : eE X (.Call (.Name "any" p) [a] [] pos) σ H Q := by
  refine w_callB (cr_any hc) hm (by decide +kernel) (a_cons (q.mono fun v H1 h => a_nil ?_) he) hg (by decide) (by decide) he rfl
  obtain ⟨G, bs, hv, s, q⟩ := h
  obtain ⟨l, vs, rfl, h1, h2⟩ := hv.lst_inv
  exact ⟨l, bs, rfl, by rw [← h2.bools]; exact SqL.of (s _ _ h1), q⟩
end
section
variable {X : Cx} {σ : L2.St} {G H : Hp} {a b e : Expr} {p pos px : Pos} {d : Dt} {Q : VK} {j : Nat} {nm : Str} {C x z : Addr} {o o2 : Own} {op : CmpOp} {r : R2} {k : Bool}
/-- Hall(e), the text of an own hall -/
theorem w_hallM (F : HasI X.prog X.w X.K X.mg X.base "Hall" C 5 (spHallInit X.K C)) (hr : Room j X.A) (hj : 6 ≤ j)
    (h : eE X e σ H fun v H1 => ∃ (G : Hp) (o : Own), v = .str (textO o) ∧ OwnOk o ∧ Same G H1 ∧ ∀ x G' H', Step [] G H1 G' H' → HallAt X.K C G' x o → Q (.ref x) H') (hg : Gl X "Hall" := by rfl)
    (he : starEach [e] X.env = (false, eval e X.env) :: starEach [] X.env := by rfl) (hpl : (backTo pos (starEach [] X.env)).any (·.1) = false := by rfl) : eE X (.Call (.Name "Hall" p) [e] [] pos) σ H Q := by
  refine w_make F hr hj (a_cons (h.mono fun v H1 ⟨G, o, ev, ho, g, q⟩ => a_nil fun a dx ha hd nd => ?_) he) hg (by decide) he hpl
  subst ev
  have st1 : Step [] G H1 G (upd H1 dx (.own a)) := Step.allocM g hd
  have ha1 : (upd H1 dx (.own a)) a = none := by rw [upd_ne (Ne.symm nd)]; exact ha
  have st2 : Step [] G H1 G (upd (upd H1 dx (.own a)) a (.ins C dx [])) := st1.trans (Step.allocM st1.s ha1)
  refine ⟨G, a, dx, o, rfl, st2.s, g.free ha, upd_same, ho, fun fs G' H' st gx hx hF => ⟨rfl, ?_⟩⟩
  have st3 : Step [] G H1 G' H' := Step.drop ha (st2.pure.trans st)
  exact q a _ H' (st3.freeze ha hx gx) ⟨dx, fs, upd_same, hF.mono (Same.toUpd gx)⟩
end
section
variable {X : Cx} {σ : L2.St} {G H : Hp} {a b : Expr} {p pos : Pos} {Q : VK}
theorem pu_max {i j : Int} (ha : Pu X a σ G (.int i)) (hb : Pu X b σ G (.int j)) (hm : X.mg "max" = none) (hc : X.calm = true := by rfl) (hg : Gl X "max" := by rfl)
    (he : starEach [a, b] X.env = (false, eval a X.env) :: starEach [b] X.env := by rfl) (he2 : starEach [b] X.env = (false, eval b X.env) :: starEach [] X.env := by rfl) (hpl : (backTo pos (starEach [b] X.env)).any (·.1) = false := by rfl) :
    Pu X (.Call (.Name "max" p) [a, b] [] pos) σ G (.int (if j > i then j else i)) := fun G1 H g s Q q =>
  w_callB (call_max2 hc) hm (by decide +kernel) (a_cons (ha G1 H g s _ fun v G2 H2 s2 h2 => a_cons (hb G2 H2 (g.trans s2.g) s2.s _ fun w G3 H3 s3 h3 => a_nil ⟨i, j, by rw [h2.int_inv, h3.int_inv], q _ G3 H3 (s2.trans s3) (.int _)⟩) he2) he) hg (by decide) (by decide) he hpl
/-- all(..) of whatever makes bools -/
theorem w_allC (q : eE X a σ H fun v H1 => ∃ (G : Hp) (bs : List Bool), Da X.K G v (.list (bs.map PyData.bool)) ∧ Same G H1 ∧ Q (.bl (bs.all id)) H1) (hm : X.mg "all" = none) (hc : X.calm = true := by rfl) (hg : Gl X "all" := by rfl) (he : starEach [a] X.env = [(false, eval a X.env)] := by rfl) : eE X (.Call (.Name "all" p) [a] [] pos) σ H Q := by
  refine w_callB (cr_all hc) hm (by decide +kernel) (a_cons (q.mono fun v H1 h => a_nil ?_) he) hg (by decide) (by decide) he rfl
  obtain ⟨G, bs, hv, s, q⟩ := h
  obtain ⟨l, vs, rfl, h1, h2⟩ := hv.lst_inv
  exact ⟨l, bs, rfl, by rw [← h2.bools]; exact SqL.of (s _ _ h1), q⟩
/-- a comprehension of one name without tests, each element by what it does -/
theorem lc1R {elt iter : Expr} {scope : Scope} (k : Nat) {x : Str} {px : Pos} (hN : X.N.Nodup) (Rel : Nat → List Dt → Prop)
    (hI : eI X (.Name x px) iter σ H fun J H1 => ∃ (G1 : Hp) (ds : List Dt), Same G1 H1 ∧ Walks X.K J G1 ds ∧ Rel 0 [] ∧ (∀ i acc, Rel i acc → acc.length < 100000) ∧
      (∀ i d v G2 H2 acc, ds[i]? = some d → Same G1 G2 → Same G2 H2 → Rel i acc → Da X.K G2 v d → ∀ Q : VK, (∀ y d' G4 H4, Step [] G2 H2 G4 H4 → Da X.K G4 y d' → Rel (i + 1) (acc ++ [d']) → Q y H4) → bE X scope elt (σ.set k (some v)) H2 Q) ∧
      ∀ v G' H' acc, Step [] G1 H1 G' H' → Da X.K G' v (.list acc) → Rel ds.length acc → Q v H') (hk : X.N[k]? = some x := by rfl) (hx : scope.names.lookup x = some .local := by rfl) : eLc X elt (.Name x px) iter [] scope [k] σ H Q := by
  refine lcI (own := [(x, k)]) ?_
  obtain ⟨w, hw0, hI⟩ := hI
  refine ⟨fun σ H R => ∃ R' : It → Hp → Prop, w σ H R' ∧ ∀ J H', R' J H' → R J H', ⟨fun pins s σ H R I0 ⟨R', h1, h2⟩ => ?_⟩, _, hI, ?_⟩
  · refine thn (hw0.run pins s σ H R' I0 h1) fun v s1 q => thn q fun it s2 ⟨a1, a2, a3, a4, a5, a6, a7, a8, a9, a10, a11⟩ => ?_
    exact ⟨a1, a2, a3, a4, a5, a6, a7, a8, a9, a10, h2 _ _ a11⟩
  rintro J H1 ⟨G1, ds, g1, hw, r0, rl, step, done⟩
  refine ⟨G1, ds, [], fun _ _ => True, Rel, g1, hw, trivial, r0, fun _ _ _ _ _ => trivial, (by simp), rl, ?_, fun v G' H' acc st hv e _ => done v G' H' acc st hv e⟩
  intro i d v G3 H3 acc hd g3 s3 _ e hv _
  refine ⟨(wipe σ [k]).set k (some v), wipe_set1, fun Q h s0 H0 C cl fp => ?_, true, fun _ _ _ _ _ => puts_nil, ?_⟩
  · exact g_name (X := X.blk s0 H0 scope (compEnvC scope cl C X.env) fp) k hN h hk (Or.inl (lookup_relabel_local (env := X.env) hx)) (Or.inr (lookup_relabel_local (env := X.env) hx))
  · refine ⟨(fun hf => by cases hf), fun _ G4 H4 s4 _ Q kk => ?_⟩
    rw [wipe_set1']
    exact step i d v G4 H4 acc hd (g3.trans s4.g) s4.s e (hv.mono s4.g) Q fun y d' G5 H5 s5 hd5 r5 => kk y d' G5 H5 s5 hd5 trivial r5
end
end Mb

set_option Elab.async false
set_option linter.all false
set_option maxRecDepth 100000
set_option maxHeartbeats 4000000
namespace Mb
open PySem PySem.Spec PyProof.Rows L2 TL
/-! ### defs that take a hall -/
def spHF (K : PySem.W.Frag) (C : Addr) (m : Nat) (R : Own → List Dt → Dt → Prop) : Sp := fun vs H Q _ => ∃ G x ws o ds d, vs = .ref x :: ws ∧ ds.length = m ∧ Same G H ∧ HallAt K C G x o ∧ OwnOk o ∧ Das K G ws ds ∧ R o ds d ∧ ∀ v G' H', Step [] G H G' H' → Da K G' v d → Q v H'
theorem spHF_len {K : PySem.W.Frag} {C : Addr} {m : Nat} {R : Own → List Dt → Dt → Prop} : ∀ vs H Q E, spHF K C m R vs H Q E → vs.length = m + 1 := fun vs H Q E ⟨G, x, ws, o, ds, d, h1, h2, h3, h4, h5, h6, _⟩ => by rw [h1, List.length_cons, h6.length, h2]
section
variable {X : Cx} {σ : L2.St} {G H : Hp} {a b c : Expr} {es : List Expr} {p p2 px pos : Pos} {d : Dt} {ds : List Dt} {f nm : Str} {C x : Addr} {o : Own} {k j n m : Nat} {R : Own → List Dt → Dt → Prop}
theorem pu_callH (i : Nat) (F : Has X.prog X.w X.K X.mg X.base f k n (spHF X.K C m R)) (hr : Room j X.A) (hk : k ≤ j) (hi : σ[i]? = some (some (.ref x))) (hat : HallAt X.K C G x o) (ho : OwnOk o) (ha : PuA X es σ G ds) (hR : R o ds d) (hm : ds.length = m := by rfl) (hg : Gl X f := by rfl)
    (hN : X.N[i]? = some nm := by rfl) (hv : Vis X.env.scope nm := by first | exact Or.inl rfl | exact Or.inr (Or.inl rfl) | exact Or.inr (Or.inr rfl)) (h1 : (nm == ("__debug__" : Str)) = false := by decide) (h2 : (nm == ("__classdict__" : Str)) = false := by decide)
    (hdb : (f == ("__debug__" : Str)) = false := by decide) (he : starEach (.Name nm px :: es) X.env = (false, eval (.Name nm px) X.env) :: starEach es X.env := by rfl) (hpl : (backTo pos (starEach es X.env)).any (·.1) = false := by rfl) :
    Pu X (.Call (.Name f p) (.Name nm px :: es) [] pos) σ G d := fun G1 H g s Q q =>
  w_call F hr hk (a_cons (w_var i hi (ha G1 H g s _ fun vs G2 H2 s2 hd => ⟨G2, x, vs, o, ds, d, rfl, hm, s2.s, hat.mono (g.trans s2.g), ho, hd, hR, fun v G3 H3 s3 hv => q v G3 H3 (s2.trans s3) hv⟩) hN hv h1 h2) he) hg hdb he hpl
theorem pu_isTy {T : Str} {S : String} (f : Dt → Bool) (hf : ∀ d, PySem.W.kitOne X.K (.type (tyD d)) (.type S) = some (f d)) (ha : Pu X a σ G d) (hm : X.mg "isinstance" = none) (hm2 : X.mg T = none) (hb : bootBuiltins T = some (.type S)) (hg : Gl X "isinstance" := by rfl) (hg2 : Gl X T := by rfl)
    (hn : T ≠ "__name__" := by decide) (hdb : (T == ("__debug__" : Str)) = false := by decide)
    (he : starEach [a, .Name T p2] X.env = (false, eval a X.env) :: starEach [.Name T p2] X.env := by rfl) (he2 : starEach [.Name T p2] X.env = (false, eval (.Name T p2) X.env) :: starEach [] X.env := by rfl) (hpl : (backTo pos (starEach [.Name T p2] X.env)).any (·.1) = false := by rfl) :
    Pu X (.Call (.Name "isinstance" p) [a, .Name T p2] [] pos) σ G (.bool (f d)) :=
  pu_isi ha (fun G' H v s h => ⟨_, ty_of s h, hf d⟩) hm hm2 hb hg hg2 hn hdb he he2 hpl
theorem pu_chainLL {i j k : Int} (ha : Pu X a σ G (.int i)) (hb : Pu X b σ G (.int j)) (hc : Pu X c σ G (.int k)) (hm : lastMarks [.LtE, .Lt] [b, c] = false := by with_unfolding_all rfl) : Pu X (.Compare a [.LtE, .Lt] [b, c] pos) σ G (.bool (decide (i ≤ j) && decide (j < k))) := fun G1 H g s Q q =>
  w_chain op_le op_lt (ha G1 H g s _ fun v G2 H2 s2 h2 => hb G2 H2 (g.trans s2.g) s2.s _ fun w G3 H3 s3 h3 => ⟨i, j, h2.int_inv, h3.int_inv, decide (i ≤ j), rfl, by
    cases e : decide (i ≤ j) with
    | true =>
      rw [if_pos rfl]
      refine hc G3 H3 (g.trans (s2.g.trans s3.g)) s3.s _ fun z G4 H4 s4 h4 => ⟨j, k, h3.int_inv, h4.int_inv, ?_⟩
      rw [e, Bool.true_and] at q
      exact q _ G4 H4 (s2.trans (s3.trans s4)) (.bl _)
    | false =>
      rw [if_neg Bool.false_ne_true]
      rw [e, Bool.false_and] at q
      exact q _ G3 H3 (s2.trans s3) (.bl _)⟩) hm
end
/-! ### what is an integer, a meeting -/
def isI : Dt → Bool
  | .int _ => true
  | _ => false
def isBo : Dt → Bool
  | .bool _ => true
  | _ => false
def isTu : Dt → Bool
  | .tuple _ => true
  | _ => false
theorem kit_int {K : PySem.W.Frag} (d : Dt) : PySem.W.kitOne K (.type (tyD d)) (.type "int") = some (isI d || isBo d) := by
  cases d <;> exact kit_ty (by kernel_rfl)
theorem kit_bool {K : PySem.W.Frag} (d : Dt) : PySem.W.kitOne K (.type (tyD d)) (.type "bool") = some (isBo d) := by
  cases d <;> exact kit_ty (by kernel_rfl)
theorem kit_tup {K : PySem.W.Frag} (d : Dt) : PySem.W.kitOne K (.type (tyD d)) (.type "tuple") = some (isTu d) := by
  cases d <;> exact kit_ty (by kernel_rfl)
def belowD (d : Dt) (n : Int) : Bool := match d with
  | .int i => decide (0 ≤ i) && decide (i < n)
  | _ => false
def metB (n : Int) : Dt → Bool
  | .tuple [a, b] => belowD a n && isI b
  | _ => false
def lenNe : Dt → Bool
  | .tuple ys => !decide ((ys.length : Int) = 2)
  | _ => false
theorem met_no {n : Int} : ∀ {x : Dt}, (!isTu x || lenNe x) = true → metB n x = false
  | .tuple [], _ => rfl
  | .tuple [_], _ => rfl
  | .tuple [a, b], h => by simp [isTu, lenNe] at h
  | .tuple (_ :: _ :: _ :: _), _ => rfl
  | .none, _ => rfl
  | .bool _, _ => rfl
  | .int _, _ => rfl
  | .str _, _ => rfl
  | .list _, _ => rfl
  | .dict _, _ => rfl
theorem met_yes : ∀ {x : Dt}, ¬ (!isTu x || lenNe x) = true → ∃ a b, x = .tuple [a, b]
  | .tuple [], h => by simp [isTu, lenNe] at h
  | .tuple [_], h => by simp [isTu, lenNe] at h
  | .tuple [a, b], _ => ⟨a, b, rfl⟩
  | .tuple (_ :: _ :: _ :: _), h => by
    simp [isTu, lenNe] at h
    omega
  | .none, h => by simp [isTu] at h
  | .bool _, h => by simp [isTu] at h
  | .int _, h => by simp [isTu] at h
  | .str _, h => by simp [isTu] at h
  | .list _, h => by simp [isTu] at h
  | .dict _, h => by simp [isTu] at h
section
variable {P : Program} {w : World} {K : PySem.W.Frag} {mg : Str → Option Value} {base : Heap} {C : Addr}
abbrev HLenO (P w K mg base) (C : Addr) := Own1 P w K mg base C "__len__" 1 (spHLen K C)
theorem scIsInt : FnScope ["value"] ["value"] (defScope t_is_integer) := ⟨rfl, rfl, rfl, by decide +kernel, rfl, by decide +kernel, by decide +kernel⟩
def rIsInt : List Dt → Dt → Prop := fun ds d => ∃ x, ds = [x] ∧ d = .bool (isI x)
theorem has_isint (T : Top1 K mg "is_integer" t_is_integer ["value"]) (B : Blt mg) (hB : mg "bool" = none) : Has P w K mg base "is_integer" 1 1 (spPure K 1 rIsInt) := by
  refine mkHas (k := 0) T scIsInt spPure_len fun f cdv A outer s H vs Q E hr h => ?_
  obtain ⟨G, ds, d, hm, g, hds, ⟨x, rfl, rfl⟩, k⟩ := h
  cases hds with
  | cons d0 hn =>
    cases hn
    refine b_one (s_ret (w_pu (Pu.to (pu_and (pu_isTy (S := "int") _ kit_int (pu_var 0 rfl d0) B.isinstance B.int (by decide +kernel)) fun _ => pu_bo1 (pu_not (pu_isTy (S := "bool") _ kit_bool (pu_var 0 rfl d0) B.isinstance hB (by decide +kernel)))) ?e) g fun v G2 H2 s2 hv => k v G2 H2 s2 hv))
    case e => cases x <;> rfl
abbrev HIsInt (P w K mg base) := Has P w K mg base "is_integer" 1 1 (spPure K 1 rIsInt)
theorem scBelow : FnScope ["value", "many"] ["value", "many"] (defScope t_is_below) := ⟨rfl, rfl, rfl, by decide +kernel, rfl, by decide +kernel, by decide +kernel⟩
def rBelow : List Dt → Dt → Prop := fun ds d => ∃ x n, ds = [x, .int n] ∧ d = .bool (belowD x n)
theorem has_below (T : Top1 K mg "is_below" t_is_below ["value", "many"]) (B : Blt mg) (hI : HIsInt P w K mg base) : Has P w K mg base "is_below" 2 2 (spPure K 2 rBelow) := by
  refine mkHas (k := 1) T scBelow spPure_len fun f cdv A outer s H vs Q E hr h => ?_
  obtain ⟨G, ds, d, hm, g, hds, ⟨x, n, rfl, rfl⟩, k⟩ := h
  cases hds with
  | cons d0 hn =>
  cases hn with
  | cons d1 hn =>
    cases hn
    refine b_one (s_ret (w_pu (d := .bool (isI x && belowD x n)) (pu_and (pu_call hI hr (by decide) (pua_cons (pu_var 0 rfl d0) pua_nil) ⟨x, rfl, rfl⟩ rfl) fun h => ?_) g fun v G2 H2 s2 hv => k v G2 H2 s2 ?_))
    · cases x with
      | int i => exact pu_bo1 (pu_chainLL pu_int (pu_var 0 rfl d0) (pu_var 1 rfl d1))
      | _ => cases h
    · have e : (isI x && belowD x n) = belowD x n := by cases x <;> rfl
      rw [← e]
      exact hv
abbrev HBelow (P w K mg base) := Has P w K mg base "is_below" 2 2 (spPure K 2 rBelow)
theorem scIsMet : FnScope ["hall", "value"] ["hall", "value"] (defScope t_is_meeting) := ⟨rfl, rfl, rfl, by decide +kernel, rfl, by decide +kernel, by decide +kernel⟩
def rIsMet : Own → List Dt → Dt → Prop := fun o ds d => ∃ x, ds = [x] ∧ d = .bool (metB o.kinds.length x)
theorem has_ismet (T : Top1 K mg "is_meeting" t_is_meeting ["hall", "value"]) (B : Blt mg) (hI : HIsInt P w K mg base) (hB : HBelow P w K mg base) (hL : HLenO P w K mg base C) : Has P w K mg base "is_meeting" 3 2 (spHF K C 1 rIsMet) := by
  refine mkHas (k := 2) T scIsMet spHF_len fun f cdv A outer s H vs Q E hr h => ?_
  obtain ⟨G, hx, ws, o, ds, d, rfl, hm, g, hat, ho, hds, ⟨x, rfl, rfl⟩, k⟩ := h
  have h8 := ho.k8
  cases hds with
  | cons d0 hn =>
    cases hn
    refine b_cons (s_if (t_pu (k := !isTu x || lenNe x) (put_w (puw_or (put_not (put_val (pu_isTy (S := "tuple") _ kit_tup (pu_var 1 rfl d0) B.isinstance B.tuple (by decide +kernel)))) fun h => puw_or1 ?len)) g fun G1 H1 s1 => ite2 (fun hc => b_one (s_ret (w_bl (k _ G1 H1 s1 ?_)))) (fun hc => b_nil ?_)))
    case len =>
      cases x with
      | tuple ys => exact put_c (c_neI (pu_lenT (pu_var 1 rfl d0) B.len) pu_int)
      | _ => cases h
    · rw [met_no hc]
      exact .bl _
    · obtain ⟨a, b, rfl⟩ := met_yes hc
      have d1 := d0.mono s1.g
      refine b_one (s_ret (w_pu (pu_and (pu_call hB hr (by decide) (pua_cons (pu_ixT (i := 0) (pu_var 1 rfl d1) pu_int (by decide) rfl) (pua_cons (pu_hallLen 0 hL hr (by decide) rfl (hat.mono s1.g) (by omega) B.len) pua_nil)) ⟨a, _, rfl, rfl⟩ rfl) fun _ => pu_bo1 (pu_call hI hr (by decide) (pua_cons (pu_ixT (i := 1) (pu_var 1 rfl d1) pu_int (by decide) rfl) pua_nil) ⟨b, rfl, rfl⟩ rfl)) s1.s fun v G2 H2 s2 hv => k v G2 H2 (s1.trans s2) hv))
end
end Mb

set_option Elab.async false
set_option linter.all false
set_option maxRecDepth 100000
set_option maxHeartbeats 4000000
namespace Mb
open PySem PySem.Spec PyProof.Rows L2 TL
/-! ### what the hall tells of a kind, whoever holds whom -/
def refD : Option (Str × Int) → Dt
  | none => .none
  | some (w, i) => .tuple [.str w, .int i]
theorem find_at {α : Type} {p : α → Bool} : ∀ {l : List α} {i : Nat} {c : α}, (∀ (j : Nat) (d : α), j < i → l[j]? = some d → p d = false) → l[i]? = some c → p c = true → l.find? p = some c
  | [], i, c, _, h, _ => by simp at h
  | x :: l, 0, c, _, h, hp => by
    obtain rfl : x = c := by simpa using h
    rw [List.find?_cons, hp]
  | x :: l, i + 1, c, hn, h, hp => by
    rw [List.find?_cons, hn 0 x (by omega) rfl]
    exact find_at (fun j d hj hd => hn (j + 1) d (by omega) hd) h hp
theorem find_nil {α : Type} {p : α → Bool} {l : List α} (h : ∀ (j : Nat) (d : α), l[j]? = some d → p d = false) : l.find? p = none := by
  rw [List.find?_eq_none]
  intro x hx
  obtain ⟨j, hj⟩ := List.getElem?_of_mem hx
  rw [h j x hj]
  exact Bool.false_ne_true
section
variable {P : Program} {w : World} {K : PySem.W.Frag} {mg : Str → Option Value} {base : Heap} {C : Addr}
theorem scReach : FnScope ["hall", "holders", "kind", "comers", "begins", "_", "gives", "hand"] ["hall", "holders", "kind"] (defScope t_hand_out_of_reach) := ⟨rfl, rfl, rfl, by decide +kernel, rfl, by decide +kernel, by decide +kernel⟩
/-- who holds whom, the number of a kind -/
structure AtK (o : Own) (hs : List Int) (j : Int) (k : Kd) : Prop where
  len : hs.length = o.names.length
  j0 : 0 ≤ j
  k : o.kinds[j.toNat]? = some k
theorem AtK.row {o : Own} {hs : List Int} {j : Int} {k : Kd} (h : AtK o hs j k) (ho : OwnOk o) : RowOk o.names.length k.cs k.b k.e k.g := (ho.kk k (List.mem_of_getElem? h.k)).2
theorem AtK.at_ {o : Own} {hs : List Int} {j : Int} {k : Kd} (h : AtK o hs j k) : (o.kinds.map kdD)[j.toNat]? = some (kdD k) := by
  rw [List.getElem?_map, h.k]
  rfl
theorem hs_at {hs : List Int} {x : Int} (h0 : 0 ≤ x) (h1 : x < hs.length) : (ofI hs)[x.toNat]? = some (.int (gH hs x)) := by
  unfold ofI
  rw [List.getElem?_map, gH_eq (by omega)]
  rfl
def rReach : Own → List Dt → Dt → Prop := fun o ds d => ∃ hs j k, ds = [.tuple (ofI hs), .int j] ∧ AtK o hs j k ∧ d = optD (outR hs k)
theorem has_reach (DH : ClsH K C) (T : Top1 K mg "hand_out_of_reach" t_hand_out_of_reach ["hall", "holders", "kind"]) (B : Blt mg) : Has P w K mg base "hand_out_of_reach" 1 3 (spHF K C 2 rReach) := by
  refine mkHas (k := 0) T scReach spHF_len fun f cdv A outer s H vs Q E hr h => ?_
  obtain ⟨G, x, ws, o, ds, d, rfl, hm, g, hat, ho, hds, ⟨hs, j, kk, rfl, hk, rfl⟩, k⟩ := h
  obtain ⟨dx, fs, hx, hF⟩ := id hat
  obtain ⟨w1, w2, w3, w4, w5, rfl, i1, i2, i3, i4, i5⟩ := hF.ex
  have row := hk.row ho
  cases hds with
  | cons d0 hn =>
  cases hn with
  | cons d1 hn =>
    cases hn
    rename_i vh vk
    refine b_cons (s_asg (w_pu (d := .tuple [.tuple (ofI kk.cs), optD kk.b, optD kk.e, optD kk.g]) (Pu.to (pu_slT (pu_ixT (pu_pv (pv_fld 0 rfl hx DH.cls DH.kinds rfl) i2) (pu_var 2 rfl d1) hk.j0 hk.at_) (puo_some pu_int) puo_none (by simp [kdD, HT.sIx])) rfl) g fun v1 G1 H1 s1 hv1 => ?_))
    obtain ⟨t, ts, rfl, ht, hts⟩ := hv1.tup_inv
    cases hts with
    | cons e1 hts =>
    cases hts with
    | cons e2 hts =>
    cases hts with
    | cons e3 hts =>
    cases hts with
    | cons e4 hts =>
    cases hts
    rename_i c1 c2 c3 c4
    refine g_tup (SqT.same s1.s ht) rfl (gs_cons (g_name 3 scReach.nd (gs_cons (g_name 4 scReach.nd (gs_cons (g_name 5 scReach.nd (gs_cons (g_name 6 scReach.nd (gs_nil ?_)))))))))
    have d01 := d0.mono s1.g
    refine b_cons (s_forD (src_tup (ds := [optD kk.b, optD kk.g]) (pu_tup (pua_cons (pu_var 4 rfl e2) (pua_cons (pu_var 6 rfl e4) pua_nil)))) s1.s fun G2 H2 s2 => ⟨fun i σ H' => ∃ (G3 : Hp) (u7 : Option V), σ = [some (.ref x), some vh, some vk, some c1, some c2, some c3, some c4, u7] ∧ Same G2 G3 ∧ Step [] G H G3 H' ∧
      (1 ≤ i → (kk.b.any fun x => !decide (gH hs x ∈ kk.cs)) = false) ∧ (2 ≤ i → (kk.g.any fun x => !decide (gH hs x ∈ kk.cs)) = false), ?_, ?_, ?_, ?_⟩)
    · exact ⟨G2, _, rfl, Same.refl _, s1.trans s2, fun h => by omega, fun h => by omega⟩
    · rintro i σ H' ⟨G3, u7, rfl, sg, st, _⟩
      exact sg.trans st.s
    · rintro i d y σ H' H9 hi ⟨G3, u7, rfl, sg, st, p1, p2⟩ hw
      obtain ⟨G4, s4, hy⟩ := hw G3 sg st.s
      have g24 := s2.g.trans (sg.trans s4.g)
      have d04 := d01.mono g24
      have e14 := e1.mono g24
      have st4 := st.trans s4
      -- one hand asked
      obtain ⟨oo, rfl, rng, yes, no⟩ : ∃ oo : Option Int, d = optD oo ∧ (∀ z, oo = some z → 0 ≤ z ∧ z < o.names.length) ∧ ((oo.any fun x => !decide (gH hs x ∈ kk.cs)) = true → outR hs kk = oo) ∧
          ((oo.any fun x => !decide (gH hs x ∈ kk.cs)) = false → (1 ≤ i + 1 → (kk.b.any fun x => !decide (gH hs x ∈ kk.cs)) = false) ∧ (2 ≤ i + 1 → (kk.g.any fun x => !decide (gH hs x ∈ kk.cs)) = false)) := by
        match i, hi with
        | 0, hi =>
          refine ⟨kk.b, (Option.some.inj hi).symm, fun z hz => ⟨(row.rb z hz).1, (row.rb z hz).2.1⟩, fun h => ?_, fun h => ⟨fun _ => h, fun h => by omega⟩⟩
          unfold outR
          rw [if_pos h]
        | 1, hi =>
          refine ⟨kk.g, (Option.some.inj hi).symm, fun z hz => ⟨(row.rg z hz).1, (row.rg z hz).2.1⟩, fun h => ?_, fun h => ⟨fun _ => p1 (by omega), fun _ => h⟩⟩
          unfold outR
          rw [if_neg (by rw [p1 (by omega)]; exact Bool.false_ne_true), if_pos h]
        | i + 2, hi => cases hi
      refine g_name 7 scReach.nd (b_one (s_if (t_pu (k := oo.any fun x => !decide (gH hs x ∈ kk.cs)) (PuT.to (k := !oo.isNone && oo.any fun x => !decide (gH hs x ∈ kk.cs)) (put_w (puw_and (put_c (c_notN oo.isNone (pu_var 7 rfl hy) fun G' v' _ hv' => optN hv')) fun h => puw_and1 ?test)) (by cases oo <;> rfl)) st4.s fun G5 H5 s5 => ite2 (fun hc => b_one (s_ret (w_var 7 rfl (k _ G5 H5 (st4.trans s5) ?ret)))) (fun hc => b_nil ⟨G5, _, rfl, sg.trans (s4.g.trans s5.g), st4.trans s5, no (by simpa using hc)⟩))))
      case test =>
        cases oo with
        | none => cases h
        | some z =>
          have hz := rng z rfl
          exact put_c (c_ninIT (n := gH hs z) (ns := kk.cs) (pu_ixT (pu_var 1 rfl d04) (pu_var 7 rfl hy) hz.1 (hs_at hz.1 (by rw [hk.len]; exact hz.2))) (pu_var 3 rfl e14))
      case ret =>
        rw [yes hc]
        exact hy.mono s5.g
    · rintro σ H' ⟨G3, u7, rfl, sg, st, p1, p2⟩
      refine b_one (s_ret (w_non (k .non G3 H' st ?_)))
      have : outR hs kk = none := by
        unfold outR
        rw [if_neg (by rw [p1 (by show 1 ≤ 2; decide)]; exact Bool.false_ne_true), if_neg (by rw [p2 (by show 2 ≤ 2; decide)]; exact Bool.false_ne_true)]
      rw [this]
      exact .non
end
end Mb

set_option Elab.async false
set_option linter.all false
set_option maxRecDepth 100000
set_option maxHeartbeats 4000000
namespace Mb
open PySem PySem.Spec PyProof.Rows L2 TL
section
variable {P : Program} {w : World} {K : PySem.W.Frag} {mg : Str → Option Value} {base : Heap} {C : Addr}
abbrev HReach (P w K mg base) (C : Addr) := Has P w K mg base "hand_out_of_reach" 1 3 (spHF K C 2 rReach)
theorem scTRef : FnScope ["hall", "holders", "kind", "comer", "hand"] ["hall", "holders", "kind"] (defScope t_told_refusal) := ⟨rfl, rfl, rfl, by decide +kernel, rfl, by decide +kernel, by decide +kernel⟩
def rTRef : Own → List Dt → Dt → Prop := fun o ds d => ∃ hs j k, ds = [.tuple (ofI hs), .int j] ∧ AtK o hs j k ∧ d = refD (refK hs k)
theorem has_tref (DH : ClsH K C) (L : Glb K mg) (T : Top1 K mg "told_refusal" t_told_refusal ["hall", "holders", "kind"]) (B : Blt mg) (hR : HReach P w K mg base C) : Has P w K mg base "told_refusal" 2 3 (spHF K C 2 rTRef) := by
  refine mkHas (k := 1) T scTRef spHF_len fun f cdv A outer s H vs Q E hr h => ?_
  obtain ⟨G, x, ws, o, ds, d, rfl, hm, g, hat, ho, hds, ⟨hs, j, kk, rfl, hk, rfl⟩, k⟩ := h
  obtain ⟨dx, fs, hx, hF⟩ := id hat
  obtain ⟨w1, w2, w3, w4, w5, rfl, i1, i2, i3, i4, i5⟩ := hF.ex
  have row := hk.row ho
  have hcm := row.rc.1.2
  obtain ⟨uh, gh, rh⟩ := L.here
  cases hds with
  | cons d0 hn =>
  cases hn with
  | cons d1 hn =>
    cases hn
    rename_i vh vk
    refine b_cons (s_forD (src_tup (ds := ofI kk.cs) (pu_ixT (i := 1) (pu_ixT (pu_pv (pv_fld 0 rfl hx DH.cls DH.kinds rfl) i2) (pu_var 2 rfl d1) hk.j0 hk.at_) pu_int (by decide) rfl)) g fun G2 H2 s2 => ⟨fun i σ H' => ∃ (G3 : Hp) (u3 u4 : Option V), σ = [some (.ref x), some vh, some vk, u3, u4] ∧ Same G2 G3 ∧ Step [] G H G3 H' ∧
      ∀ (n : Nat) (c : Int), n < i → kk.cs[n]? = some c → (!decide (gH hs c = -1)) = false, ?_, ?_, ?_, ?_⟩)
    · exact ⟨G2, _, _, rfl, Same.refl _, s2, fun n c h => by omega⟩
    · rintro i σ H' ⟨G3, u3, u4, rfl, sg, st, _⟩
      exact sg.trans st.s
    · rintro i d y σ H' H9 hi ⟨G3, u3, u4, rfl, sg, st, p1⟩ hw
      unfold ofI at hi
      rw [List.getElem?_map] at hi
      obtain ⟨c, hc, rfl⟩ := Option.map_eq_some_iff.mp hi
      have hcc := hcm c (List.mem_of_getElem? hc)
      obtain ⟨G4, s4, hy⟩ := hw G3 sg st.s
      obtain rfl := hy.int_inv
      have g24 := s2.g.trans (sg.trans s4.g)
      have st4 := st.trans s4
      refine g_name 3 scTRef.nd (b_one (s_if (t_pu (put_c (c_neI (pu_ixT (pu_var 1 rfl (d0.mono g24)) (pu_var 3 rfl (.int c)) hcc.1 (hs_at hcc.1 (by rw [hk.len]; exact hcc.2))) (pu_glob gh rh (.int (-1))))) st4.s fun G5 H5 s5 => ite2 (fun hq => ?_) (fun hq => b_nil ⟨G5, _, _, rfl, sg.trans (s4.g.trans s5.g), st4.trans s5, fun n c2 hn h2 => ?_⟩))))
      · refine b_one (s_ret (w_pu (d := .tuple [.str "away", .int c]) (pu_tup (pua_cons pu_str (pua_cons (pu_var 3 rfl (.int c)) pua_nil))) s5.s fun v6 G6 H6 s6 hv6 => k v6 G6 H6 (st4.trans (s5.trans s6)) ?_))
        have : refK hs kk = some (("away" : Str), c) := by
          unfold refK
          rw [find_at (p := fun c => !decide (gH hs c = -1)) (fun j d hj hd => p1 j d hj hd) hc hq]
        rw [this]
        exact hv6
      · rcases Nat.lt_or_ge n i with h | h
        · exact p1 n c2 h h2
        · obtain rfl : n = i := by omega
          rw [hc] at h2
          cases h2
          simpa using hq
    · rintro σ H' ⟨G3, u3, u4, rfl, sg, st, p1⟩
      have g23 := s2.g.trans sg
      have none_away : kk.cs.find? (fun c => !decide (gH hs c = -1)) = none := find_nil fun n c hc => p1 n c (by
        have := (List.getElem?_eq_some_iff.mp hc).1
        unfold ofI
        rw [List.length_map]
        exact this) hc
      have er : refK hs kk = (outR hs kk).map fun x => (("right" : Str), x) := by
        unfold refK
        rw [none_away]
      rw [er] at k
      refine b_cons (s_set 4 scTRef.nd (w_pu (pu_callH 0 hR hr (by decide) rfl (hat.mono g23) ho (pua_cons (pu_var 1 rfl (d0.mono g23)) (pua_cons (pu_var 2 rfl (d1.mono g23)) pua_nil)) ⟨hs, j, kk, rfl, hk, rfl⟩) st.s fun v5 G5 H5 s5 hv5 => ?_))
      refine b_one (s_ret (w_pu (pu_if (put_c (c_isN (outR hs kk).isNone (pu_var 4 rfl hv5) fun G' v' _ hv' => optN hv')) (fun h => ?yes) (fun h => ?no)) s5.s fun v6 G6 H6 s6 hv6 => k v6 G6 H6 (st.trans (s5.trans s6)) hv6))
      case yes =>
        cases e : outR hs kk with
        | none => exact pu_non
        | some z => rw [e] at h; cases h
      case no =>
        cases e : outR hs kk with
        | none => rw [e] at h; cases h
        | some z =>
          rw [e] at hv5
          exact pu_tup (pua_cons pu_str (pua_cons (pu_var 4 rfl hv5) pua_nil))
end
end Mb

set_option Elab.async false
set_option linter.all false
set_option maxRecDepth 100000
set_option maxHeartbeats 4000000
namespace Mb
open PySem PySem.Spec PyProof.Rows L2 TL
section
variable {X : Cx} {σ : L2.St} {G H : Hp} {a c : Expr} {p pos : Pos} {D : Ends} {s1 : List Stmt} {k : Bool} {ds : List Dt}
/-- an if without else, both ways into J -/
theorem s_ifJ (J : L2.St → Hp → Prop) (hc : PuT X c σ G k) (g : Same G H) (yes : k = true → ∀ G1 H1, Step [] G H G1 H1 → ∀ D' : Ends, (∀ σ' H', J σ' H' → D'.nx σ' H') → eB X s1 D' σ H1) (no : k = false → ∀ G1 H1, Step [] G H G1 H1 → J σ H1) (rest : ∀ σ' H', J σ' H' → D.nx σ' H') : eS X (.If c s1 [] pos) D σ H :=
  s_if (t_pu hc g fun G1 H1 st => ite2 (fun h => yes h G1 H1 st D rest) (fun h => b_nil (rest σ H1 (no (by simpa using h) G1 H1 st))))
theorem w_listT {Q : VK} (ha : Pu X a σ G (.tuple ds)) (g : Same G H) (hm : X.mg "list" = none) (q : ∀ l vs G' H', Step [] G H G' H' → H' l = none → Das X.K G' vs ds → Q (.ref l) (upd H' l (.lst vs)))
    (hg : Gl X "list" := by rfl) (he : starEach [a] X.env = [(false, eval a X.env)] := by rfl) : eE X (.Call (.Name "list" p) [a] [] pos) σ H Q := by
  refine w_callTy call_list_of hm (by decide +kernel) (a_cons (ha G H (Same.refl G) g _ fun v G2 H2 s2 hd2 => a_nil ?_) he) hg (by decide) (by decide) he rfl
  obtain ⟨m, vs, rfl, h1, h2⟩ := hd2.tup_inv
  exact ⟨m, vs, rfl, .inr (SqT.same s2.s h1), fun l hl => q l vs G2 H2 s2 hl h2⟩
end
section
variable {K : PySem.W.Frag} {G H G3 H3 : Hp} {l : Addr} {hs : List Int} {vs : List V}
/-- a list of ints under construction, one of them stored -/
theorem PAt.setI (F : PAt K G H l (ofI hs) G3 (hs.map V.int) H3) (x v : Int) : PAt K G H l (ofI (hs.set x.toNat v)) G3 ((hs.map V.int).set x.toNat (.int v)) (upd H3 l (.lst ((hs.map V.int).set x.toNat (.int v)))) := by
  refine ⟨F.st.mutF F.h0 F.gl F.hl, upd_same, F.gl, F.h0, ?_⟩
  have e : (hs.map V.int).set x.toNat (.int v) = (hs.set x.toNat v).map V.int := (List.map_set ..).symm
  rw [e]
  exact Das.ofInts _
theorem ixN_nn {n : Nat} {x : Int} (h0 : 0 ≤ x) (h1 : x < n) : ixN n x = some x.toNat := by
  unfold ixN
  rw [if_pos h0, if_pos h1]
end
section
variable {P : Program} {w : World} {K : PySem.W.Frag} {mg : Str → Option Value} {base : Heap} {C : Addr}
abbrev nBehind : List Str := ["hall", "holders", "kind", "comers", "begins", "ends", "gives", "after", "heir", "comer", "holder"]
theorem scBehind : FnScope nBehind ["hall", "holders", "kind"] (defScope t_holders_behind) := ⟨rfl, rfl, rfl, by decide +kernel, rfl, by decide +kernel, by decide +kernel⟩
def rBehind : Own → List Dt → Dt → Prop := fun o ds d => ∃ hs j k, ds = [.tuple (ofI hs), .int j] ∧ AtK o hs j k ∧ d = .tuple (ofI (behK hs k))
theorem has_behind (DH : ClsH K C) (L : Glb K mg) (T : Top1 K mg "holders_behind" t_holders_behind ["hall", "holders", "kind"]) (B : Blt mg) : Has P w K mg base "holders_behind" 1 3 (spHF K C 2 rBehind) := by
  refine mkHas (k := 0) T scBehind spHF_len fun f cdv A outer s H vs Q E hr h => ?_
  obtain ⟨G, x, ws, o, ds, d, rfl, hm, g, hat, ho, hds, ⟨hs, j, kk, rfl, hk, rfl⟩, k⟩ := h
  obtain ⟨dx, fs, hx, hF⟩ := id hat
  obtain ⟨w1, w2, w3, w4, w5, rfl, i1, i2, i3, i4, i5⟩ := hF.ex
  have row := hk.row ho
  have hcm := row.rc.1.2
  have h5 := ho.m5
  have hlen := hk.len
  have hc1 := row.rc.2
  obtain ⟨uh, gh, rh⟩ := L.here
  cases hds with
  | cons d0 hn =>
  cases hn with
  | cons d1 hn =>
    cases hn
    rename_i vh vk
    refine b_cons (s_asg (w_pu (d := .tuple [.tuple (ofI kk.cs), optD kk.b, optD kk.e, optD kk.g]) (Pu.to (pu_slT (pu_ixT (pu_pv (pv_fld 0 rfl hx DH.cls DH.kinds rfl) i2) (pu_var 2 rfl d1) hk.j0 hk.at_) (puo_some pu_int) puo_none (by simp [kdD, HT.sIx])) rfl) g fun v1 G1 H1 s1 hv1 => ?_))
    obtain ⟨t, ts, rfl, ht, hts⟩ := hv1.tup_inv
    cases hts with
    | cons e1 hts =>
    cases hts with
    | cons e2 hts =>
    cases hts with
    | cons e3 hts =>
    cases hts with
    | cons e4 hts =>
    cases hts
    rename_i c1 c2 c3 c4
    refine g_tup (SqT.same s1.s ht) rfl (gs_cons (g_name 3 scBehind.nd (gs_cons (g_name 4 scBehind.nd (gs_cons (g_name 5 scBehind.nd (gs_cons (g_name 6 scBehind.nd (gs_nil ?_)))))))))
    refine b_cons (s_set 7 scBehind.nd (w_listT (pu_var 1 rfl (d0.mono s1.g)) s1.s B.list fun l vs0 G2 H2 s2 hl2 hd2 => ?_))
    have F2 : PAt K G H l (ofI hs) G2 vs0 (upd H2 l (.lst vs0)) := PAt.new (s1.trans s2) hd2 hl2
    -- begins
    refine b_cons (s_ifJ (fun σ H' => ∃ (G3 : Hp) (vs3 : List V), σ = [some (.ref x), some vh, some vk, some c1, some c2, some c3, some c4, some (.ref l), none, none, none] ∧ Same G2 G3 ∧ PAt K G H l (ofI (setO hs kk.b (-1))) G3 vs3 H') (put_c (c_notN kk.b.isNone (pu_var 4 rfl (e2.mono s2.g)) fun G' v' _ hv' => optN hv')) F2.st.s ?_ ?_ ?_)
    · intro hb G3 H3 s3 D' hD
      have F3 := F2.pure s3
      obtain ⟨z, hz⟩ : ∃ z, kk.b = some z := by
        cases e : kk.b with
        | none => rw [e] at hb; cases hb
        | some z => exact ⟨z, rfl⟩
      have hzr := row.rb z hz
      rw [hz] at e2
      obtain rfl := Da.int_inv e2
      obtain rfl := F3.ds.ints
      refine b_one (s_asg (w_glob gh rh (g_sub (w_var 7 rfl (w_var 4 rfl ⟨l, _, z, z.toNat, rfl, rfl, F3.hl, ixN_nn hzr.1 (by rw [List.length_map, hlen]; exact hzr.2.1), ?_⟩)))))
      refine hD _ _ ⟨G3, (hs.map V.int).set z.toNat (.int (-1)), rfl, s3.g, ?_⟩
      rw [hz]
      exact F3.setI z (-1)
    · intro hb G3 H3 s3
      have hz : kk.b = none := by
        cases e : kk.b with
        | none => rfl
        | some z => rw [e] at hb; cases hb
      refine ⟨G3, vs0, rfl, s3.g, ?_⟩
      rw [hz]
      exact F2.pure s3
    rintro σ H4 ⟨G4, vs4, rfl, g24, F4⟩
    -- gives
    refine b_cons (s_ifJ (fun σ H' => ∃ (G5 : Hp) (vs5 : List V), σ = [some (.ref x), some vh, some vk, some c1, some c2, some c3, some c4, some (.ref l), none, none, none] ∧ Same G2 G5 ∧ PAt K G H l (ofI (behBG hs kk)) G5 vs5 H') (put_c (c_notN kk.g.isNone (pu_var 6 rfl (e4.mono (s2.g.trans g24))) fun G' v' _ hv' => optN hv')) F4.st.s ?_ ?_ ?_)
    · intro hb G5 H5 s5 D' hD
      have F5 := F4.pure s5
      obtain ⟨z, hz⟩ : ∃ z, kk.g = some z := by
        cases e : kk.g with
        | none => rw [e] at hb; cases hb
        | some z => exact ⟨z, rfl⟩
      have hzr := row.rg z hz
      rw [hz] at e4
      obtain rfl := Da.int_inv e4
      obtain rfl := F5.ds.ints
      have hlast : (ofI kk.cs)[(ofI kk.cs).length - 1]? = some (.int (lastC kk)) := by
        unfold ofI lastC
        rw [List.length_map, List.getElem?_map]
        have : kk.cs[kk.cs.length - 1]? = some (kk.cs.getLastD 0) := by
          rw [← List.getLast?_eq_getElem?, List.getLastD_eq_getLast?]
          cases q : kk.cs with
          | nil => rw [q] at hc1; simp at hc1
          | cons a r => rw [List.getLast?_cons]; rfl
        rw [this]
        rfl
      refine b_one (s_asg (w_pu (pu_ixLastT (pu_var 3 rfl (e1.mono (s2.g.trans (g24.trans s5.g)))) (pu_neg pu_int) hlast) F5.st.s fun v6 G6 H6 s6 hv6 => ?_))
      have F6 := F5.pure s6
      obtain rfl := hv6.int_inv
      refine g_sub (w_var 7 rfl (w_var 6 rfl ⟨l, _, z, z.toNat, rfl, rfl, F6.hl, ixN_nn hzr.1 (by rw [List.length_map, setO_len, hlen]; exact hzr.2.1), ?_⟩))
      refine hD _ _ ⟨G6, ((setO hs kk.b (-1)).map V.int).set z.toNat (.int (lastC kk)), rfl, g24.trans (s5.g.trans s6.g), ?_⟩
      have e : behBG hs kk = (setO hs kk.b (-1)).set z.toNat (lastC kk) := by
        unfold behBG
        rw [hz]
        rfl
      rw [e]
      exact F6.setI z (lastC kk)
    · intro hb G5 H5 s5
      have hz : kk.g = none := by
        cases e : kk.g with
        | none => rfl
        | some z => rw [e] at hb; cases hb
      refine ⟨G5, vs4, rfl, g24.trans s5.g, ?_⟩
      have e : behBG hs kk = setO hs kk.b (-1) := by
        unfold behBG
        rw [hz]
        rfl
      rw [e]
      exact F4.pure s5
    rintro σ H6 ⟨G6, vs6, rfl, g26, F6⟩
    have lbg : (behBG hs kk).length = o.names.length := lenBG hlen
    -- ends
    refine b_cons (s_ifJ (fun σ H' => ∃ (G7 : Hp) (vs7 : List V) (l7 : Addr) (u8 u9 u10 : Option V), σ = [some (.ref x), some vh, some vk, some c1, some c2, some c3, some c4, some (.ref l7), u8, u9, u10] ∧ PAt K G H l7 (ofI (behK hs kk)) G7 vs7 H') (put_c (c_notN kk.e.isNone (pu_var 5 rfl (e3.mono (s2.g.trans g26))) fun G' v' _ hv' => optN hv')) F6.st.s ?_ ?_ ?_)
    · intro hb G7 H7 s7 D' hD
      have F7 := F6.pure s7
      obtain ⟨z, hz⟩ : ∃ z, kk.e = some z := by
        cases e : kk.e with
        | none => rw [e] at hb; cases hb
        | some z => exact ⟨z, rfl⟩
      have hzr := row.re z hz
      rw [hz] at e3
      obtain rfl := Da.int_inv e3
      have g17 := s2.g.trans (g26.trans s7.g)
      have hheir : (((kk.cs.filter fun c => !decide (c = z)).map PyData.int))[(0 : Int).toNat]? = some (.int (heirC kk z)) := by
        have := (heir_mem row hz).1
        unfold heirC
        cases q : kk.cs.filter fun c => !decide (c = z) with
        | nil =>
          obtain ⟨h1, h2⟩ := heir_mem row hz
          have h3 : heirC kk z ∈ kk.cs.filter fun c => !decide (c = z) := List.mem_filter.mpr ⟨h1, by simp [h2]⟩
          rw [q] at h3
          cases h3
        | cons a r => rfl
      refine b_cons (s_set 8 scBehind.nd (w_pu (pu_ixL (pu_lc1 9 (cd := PyData.int) (ns := kk.cs) (src_tup (pu_var 3 rfl (e1.mono g17))) (fun c => .int c) (fun c => !decide (c = z)) scBehind.nd
        (fun n hn v G8 g8 hv _ _ _ _ _ => puts_one (put_c (c_neI (pu_var 9 rfl hv) (pu_var 5 rfl (.int z))))) (fun n hn _ v G8 g8 hv _ _ _ _ _ => pu_var 9 rfl hv) (by omega)) pu_int (by decide) hheir) F7.st.s fun v8 G8 H8 s8 hv8 => ?_))
      obtain rfl := hv8.int_inv
      have F8 := F7.pure s8
      refine b_cons (s_setPM 7 10 (lc1 10 (cd := PyData.int) (ns := behBG hs kk) (src_list (pu_var 7 rfl F8.da)) (fun y => .int (if y = z then heirC kk z else y)) (fun _ => true) scBehind.nd (fun _ _ _ _ _ _ _ _ _ _ _ => puts_nil)
        (fun n hn _ v G9 g9 hv _ _ _ _ _ => pu_if (put_c (c_eqI (pu_var 10 rfl hv) (pu_var 5 rfl (.int z)))) (fun h => Pu.to (pu_var 8 rfl (.int _)) (by rw [if_pos (of_decide_eq_true h)])) (fun h => Pu.to (pu_var 10 rfl hv) (by rw [if_neg (of_decide_eq_false h)]))) (by omega)) F8.fin.s scBehind.nd fun l9 xs9 G9 H9 s9 gl9 hl9 hxs9 hd9 => ?_)
      rw [filter_tt] at hd9
      have e9 : ((behBG hs kk).map fun y => (PyData.int (if y = z then heirC kk z else y))) = ofI ((behBG hs kk).map fun y => if y = z then heirC kk z else y) := by simp [ofI]
      rw [e9] at hd9
      have F9 : PAt K G H l9 (ofI ((behBG hs kk).map fun y => if y = z then heirC kk z else y)) G9 xs9 H9 := ⟨F8.fin.trans s9, hxs9, gl9, F8.fin.free hl9, hd9⟩
      obtain rfl := F9.ds.ints
      refine b_one (s_asg (w_var 8 rfl (g_sub (w_var 7 rfl (w_var 5 rfl ⟨l9, _, z, z.toNat, rfl, rfl, F9.hl, ixN_nn (hcm z hzr.1).1 (by rw [List.length_map, List.length_map, lbg]; exact (hcm z hzr.1).2), ?_⟩)))))
      refine hD _ _ ⟨G9, (((behBG hs kk).map fun y => if y = z then heirC kk z else y).map V.int).set z.toNat (.int (heirC kk z)), l9, _, _, _, rfl, ?_⟩
      have e : behK hs kk = ((behBG hs kk).map fun y => if y = z then heirC kk z else y).set z.toNat (heirC kk z) := by
        unfold behK
        rw [hz]
        rfl
      rw [e]
      exact F9.setI z (heirC kk z)
    · intro hb G7 H7 s7
      have hz : kk.e = none := by
        cases e : kk.e with
        | none => rfl
        | some z => rw [e] at hb; cases hb
      refine ⟨G7, vs6, l, _, _, _, rfl, ?_⟩
      have e : behK hs kk = behBG hs kk := by
        unfold behK
        rw [hz]
      rw [e]
      exact F6.pure s7
    rintro σ H8 ⟨G8, vs8, l8, u8, u9, u10, rfl, F8⟩
    refine b_one (s_ret (w_pu (pu_tupleL (pu_var 7 rfl F8.da) B.tuple) F8.fin.s fun v9 G9 H9 s9 hv9 => k v9 G9 H9 (F8.fin.trans s9) hv9))
end
end Mb

set_option Elab.async false
set_option linter.all false
set_option maxRecDepth 100000
set_option maxHeartbeats 4000000
namespace Mb
open PySem PySem.Spec PyProof.Rows L2 TL
/-! ### what can be next; the holders behind a weaving -/
def kAt (o : Own) (j : Int) : Kd := (o.kinds[j.toNat]?).getD ⟨⟨#[]⟩, [], none, none, none⟩
theorem kAt_some {o : Own} {j : Int} (h0 : 0 ≤ j) (h1 : j < o.kinds.length) : o.kinds[j.toNat]? = some (kAt o j) := by
  unfold kAt
  rw [List.getElem?_eq_getElem (show j.toNat < o.kinds.length by omega)]
  rfl
theorem atK_of {o : Own} {hs : List Int} {j : Int} (hl : hs.length = o.names.length) (h0 : 0 ≤ j) (h1 : j < o.kinds.length) : AtK o hs j (kAt o j) := ⟨hl, h0, kAt_some h0 h1⟩
def nextK (o : Own) (hs : List Int) : List Int := (rng o.kinds.length).filter fun j => (refK hs (kAt o j)).isNone
def stepD (o : Own) (hs : List Int) (j : Int) : Dt := .tuple [.int j, .tuple (ofI (behK hs (kAt o j)))]
theorem refN {K : PySem.W.Frag} {G : Hp} {v : V} : ∀ {r : Option (Str × Int)}, Da K G v (refD r) → decide (v = V.non) = r.isNone
  | none, h => by
    obtain rfl := Da.non_inv h
    rfl
  | some (w, i), h => by
    obtain ⟨l, vs, rfl, _⟩ := Da.tup_inv h
    rfl
abbrev Wv := List (Int × Int)
def meD (p : Int × Int) : Dt := .tuple [.int p.1, .int p.2]
def runW (o : Own) (hs : List Int) : Wv → List Int
  | [] => hs
  | p :: r => runW o (behK hs (kAt o p.1)) r
theorem runW_snoc (o : Own) (p : Int × Int) : ∀ (ws : Wv) (hs : List Int), runW o hs (ws ++ [p]) = behK (runW o hs ws) (kAt o p.1)
  | [], _ => rfl
  | _ :: ws, hs => runW_snoc o p ws _
structure WvOk (o : Own) (hs : List Int) (ws : Wv) : Prop where
  len : ws.length ≤ 1000
  ok : ∀ (i : Nat) (p : Int × Int), ws[i]? = some p → 0 ≤ p.1 ∧ p.1 < o.kinds.length ∧ refK (runW o hs (ws.take i)) (kAt o p.1) = none
theorem behK_len {n : Nat} {hs : List Int} {k : Kd} (hl : hs.length = n) : (behK hs k).length = n := by
  unfold behK
  cases k.e with
  | none => exact lenBG hl
  | some z => exact lenE (lenBG hl)
theorem runW_len {o : Own} : ∀ {ws : Wv} {hs : List Int} {n : Nat}, hs.length = n → (runW o hs ws).length = n
  | [], _, _, h => h
  | p :: ws, hs, n, h => runW_len (ws := ws) (behK_len h)
section
variable {P : Program} {w : World} {K : PySem.W.Frag} {mg : Str → Option Value} {base : Heap} {C : Addr}
abbrev HTRef (P w K mg base) (C : Addr) := Has P w K mg base "told_refusal" 2 3 (spHF K C 2 rTRef)
abbrev HBehind (P w K mg base) (C : Addr) := Has P w K mg base "holders_behind" 1 3 (spHF K C 2 rBehind)
abbrev HIsMet (P w K mg base) (C : Addr) := Has P w K mg base "is_meeting" 3 2 (spHF K C 1 rIsMet)
theorem scWalked : FnScope ["hall", "weaving", "holders", "number", "meeting"] ["hall", "weaving"] (defScope t_walked) := ⟨rfl, rfl, rfl, by decide +kernel, rfl, by decide +kernel, by decide +kernel⟩
def rWalked : Own → List Dt → Dt → Prop := fun o ds d => ∃ ws, ds = [.tuple (ws.map meD)] ∧ WvOk o (holdI o) ws ∧ d = .tuple [.none, .tuple (ofI (runW o (holdI o) ws))]
theorem has_walked (DH : ClsH K C) (T : Top1 K mg "walked" t_walked ["hall", "weaving"]) (B : Blt mg) (hM : HIsMet P w K mg base C) (hT : HTRef P w K mg base C) (hB : HBehind P w K mg base C) : Has P w K mg base "walked" 4 2 (spHF K C 1 rWalked) := by
  refine mkHas (k := 3) T scWalked spHF_len fun f cdv A outer s H vs Q E hr h => ?_
  obtain ⟨G, x, ws0, o, ds, d, rfl, hm, g, hat, ho, hds, ⟨ws, rfl, hws, rfl⟩, k⟩ := h
  obtain ⟨dx, fs, hx, hF⟩ := id hat
  obtain ⟨w1, w2, w3, w4, w5, rfl, i1, i2, i3, i4, i5⟩ := hF.ex
  cases hds with
  | cons d0 hn =>
    cases hn
    rename_i vw
    refine b_cons (s_set 2 scWalked.nd (w_pv (pv_fld 0 rfl hx DH.cls DH.holders rfl) g ?_))
    refine b_cons (s_if (t_pu (k := false) (PuT.to (put_not (put_val (pu_isTy (S := "tuple") _ kit_tup (pu_var 1 rfl d0) B.isinstance B.tuple (by decide +kernel)))) rfl) g fun G1 H1 s1 => ite2 (fun hc => by cases hc) (fun _ => b_nil ?_)))
    refine b_cons (s_forD (ds := enumD 0 (ws.map meD)) (src_enumT (pu_var 1 rfl (d0.mono s1.g)) B.enumerate) s1.s fun G2 H2 s2 => ⟨fun i σ H' => ∃ (G3 : Hp) (vh : V) (u3 u4 : Option V), σ = [some (.ref x), some vw, some vh, u3, u4] ∧ Same G2 G3 ∧ Step [] G H G3 H' ∧ Da K G3 vh (.tuple (ofI (runW o (holdI o) (ws.take i)))), ?_, ?_, ?_, ?_⟩)
    · exact ⟨G2, _, _, _, rfl, Same.refl _, s1.trans s2, i3.mono (s1.g.trans s2.g)⟩
    · rintro i σ H' ⟨G3, vh, u3, u4, rfl, sg, st, _⟩
      exact sg.trans st.s
    · rintro i d y σ H' H9 hi ⟨G3, vh, u3, u4, rfl, sg, st, dh⟩ hw
      unfold enumD at hi
      rw [List.getElem?_mapIdx, List.getElem?_map] at hi
      obtain ⟨q, hq, rfl⟩ := Option.map_eq_some_iff.mp hi
      obtain ⟨p, hp, rfl⟩ := Option.map_eq_some_iff.mp hq
      obtain ⟨p0, p1, pr⟩ := hws.ok i p hp
      obtain ⟨G4, s4, hy⟩ := hw G3 sg st.s
      obtain ⟨t2, ts2, rfl, ht2, hts2⟩ := hy.tup_inv
      cases hts2 with
      | cons y1 hts2 =>
      cases hts2 with
      | cons y2 hts2 =>
      cases hts2
      have st4 := st.trans s4
      have g4 := s1.g.trans (s2.g.trans (sg.trans s4.g))
      have dh4 := dh.mono s4.g
      have hl : (runW o (holdI o) (ws.take i)).length = o.names.length := runW_len holdI_len
      have hk := atK_of (o := o) hl p0 p1
      have met : metB o.kinds.length (meD p) = true := by
        show (belowD (.int p.1) o.kinds.length && isI (.int p.2)) = true
        simp [belowD, isI, p0, p1]
      refine g_tup (SqT.same s4.s ht2) rfl (gs_cons (g_name 3 scWalked.nd (gs_cons (g_name 4 scWalked.nd (gs_nil (b_cons (s_if (t_pu (k := false) (PuT.to (put_w (puw_or (put_not (put_val (Pu.to (pu_callH 0 hM hr (by decide) rfl (hat.mono g4) ho (pua_cons (pu_var 4 rfl y2) pua_nil) ⟨meD p, rfl, rfl⟩) (by rw [met])))) fun _ => puw_or1 (put_c (c_notN true (pu_callH 0 hT hr (by decide) rfl (hat.mono g4) ho (pua_cons (pu_var 2 rfl dh4) (pua_cons (pu_ixT (i := 0) (pu_var 4 rfl y2) pu_int (by decide) rfl) pua_nil)) ⟨_, p.1, kAt o p.1, rfl, hk, rfl⟩) fun G' v' _ hv' => by rw [refN hv', pr]; rfl)))) rfl) st4.s fun G5 H5 s5 => ite2 (fun hc => by cases hc) (fun _ => b_nil ?_)))))))))
      refine b_one (s_set 2 scWalked.nd (w_pu (pu_callH 0 hB hr (by decide) rfl (hat.mono (g4.trans s5.g)) ho (pua_cons (pu_var 2 rfl (dh4.mono s5.g)) (pua_cons (pu_ixT (i := 0) (pu_var 4 rfl (y2.mono s5.g)) pu_int (by decide) rfl) pua_nil)) ⟨_, p.1, kAt o p.1, rfl, hk, rfl⟩) s5.s fun v6 G6 H6 s6 hv6 => ?_))
      refine ⟨G6, v6, _, _, rfl, sg.trans (s4.g.trans (s5.g.trans s6.g)), st4.trans (s5.trans s6), ?_⟩
      have : ws.take (i + 1) = ws.take i ++ [p] := by
        rw [List.take_add_one, hp]
        rfl
      rw [this, runW_snoc]
      exact hv6
    · rintro σ H' ⟨G3, vh, u3, u4, rfl, sg, st, dh⟩
      have e : (enumD 0 (ws.map meD)).length = ws.length := by
        unfold enumD
        rw [List.length_mapIdx, List.length_map]
      rw [e, List.take_length] at dh
      exact b_one (s_ret (w_pu (pu_tup (pua_cons pu_non (pua_cons (pu_var 2 rfl dh) pua_nil))) st.s fun v6 G6 H6 s6 hv6 => k v6 G6 H6 (st.trans s6) hv6))
end
end Mb

set_option Elab.async false
set_option linter.all false
set_option maxRecDepth 100000
set_option maxHeartbeats 4000000
namespace Mb
open PySem PySem.Spec PyProof.Rows L2 TL
section
variable {P : Program} {w : World} {K : PySem.W.Frag} {mg : Str → Option Value} {base : Heap} {C : Addr}
abbrev HWalked (P w K mg base) (C : Addr) := Has P w K mg base "walked" 4 2 (spHF K C 1 rWalked)
abbrev HStandingT (P w K mg base) := Has P w K mg base "standing_told" 1 1 (spPure K 1 rStanding)
theorem scHoldersOf : FnScope ["hall", "weaving", "number", "holders"] ["hall", "weaving"] (defScope t_holders_of) := ⟨rfl, rfl, rfl, by decide +kernel, rfl, by decide +kernel, by decide +kernel⟩
def rHoldersOf : Own → List Dt → Dt → Prop := fun o ds d => ∃ ws, ds = [.tuple (ws.map meD)] ∧ WvOk o (holdI o) ws ∧ d = .tuple (ofI (runW o (holdI o) ws))
theorem has_holdersof (T : Top1 K mg "holders_of" t_holders_of ["hall", "weaving"]) (B : Blt mg) (hW : HWalked P w K mg base C) : Has P w K mg base "holders_of" 5 2 (spHF K C 1 rHoldersOf) := by
  refine mkHas (k := 4) T scHoldersOf spHF_len fun f cdv A outer s H vs Q E hr h => ?_
  obtain ⟨G, x, ws0, o, ds, d, rfl, hm, g, hat, ho, hds, ⟨ws, rfl, hws, rfl⟩, k⟩ := h
  cases hds with
  | cons d0 hn =>
    cases hn
    refine b_cons (s_asg (w_pu (pu_callH 0 hW hr (by decide) rfl hat ho (pua_cons (pu_var 1 rfl d0) pua_nil) ⟨ws, rfl, hws, rfl⟩) g fun v1 G1 H1 s1 hv1 => ?_))
    obtain ⟨t, ts, rfl, ht, hts⟩ := hv1.tup_inv
    cases hts with
    | cons e1 hts =>
    cases hts with
    | cons e2 hts =>
    cases hts
    refine g_tup (SqT.same s1.s ht) rfl (gs_cons (g_name 2 scHoldersOf.nd (gs_cons (g_name 3 scHoldersOf.nd (gs_nil ?_)))))
    refine b_cons (s_if (t_pu (k := false) (PuT.to (put_c (c_notN true (pu_var 2 rfl e1) fun G' v' _ hv' => by rw [hv'.non_inv]; rfl)) rfl) s1.s fun G2 H2 s2 => ite2 (fun hc => by cases hc) (fun _ => b_nil ?_)))
    exact b_one (s_ret (w_var 3 rfl (k _ G2 H2 (s1.trans s2) (e2.mono s2.g))))
abbrev HHoldersOf (P w K mg base) (C : Addr) := Has P w K mg base "holders_of" 5 2 (spHF K C 1 rHoldersOf)
theorem nextK_len (o : Own) (hs : List Int) : (nextK o hs).length ≤ o.kinds.length := by
  unfold nextK
  exact Nat.le_trans (List.length_filter_le _ _) (by rw [rng_len]; exact Nat.le_refl _)
end
end Mb

set_option Elab.async false
set_option linter.all false
set_option maxRecDepth 100000
set_option maxHeartbeats 4000000
namespace Mb
open PySem PySem.Spec PyProof.Rows L2 TL
/-! ### the law's own steps: what is refused -/
def frKd (fr : Fr) : List (Key × Dt) := fr.map fun p => ((.inl p.1 : Key), PyData.list (ofI p.2))
abbrev frDct (fr : Fr) : Dt := dctD (frKd fr)
theorem look_in (fr : Fr) (x : Int) : (lookD (frKd fr) (.inl x)).isSome = inF fr x := by
  unfold frKd
  rw [look_fr]
  unfold inF
  induction fr with
  | nil => rfl
  | cons p fr ih =>
    rw [List.find?_cons, List.any_cons]
    cases decide (p.1 = x) with
    | true => rfl
    | false => rw [Bool.false_or]; exact ih
section
variable {n : Nat} {hs : List Int} {fr : Fr} {k : Kd}
theorem RelF.get (R : RelF n hs fr) {x : Int} (h0 : 0 ≤ x) (h1 : x < n) (h : gH hs x = -1) : lookD (frKd fr) (.inl x) = some (.list (ofI (lookF fr x))) := by
  unfold frKd
  rw [look_fr]
  obtain ⟨p, hp, e, hf, _⟩ := R.look h0 h1 h
  unfold lookF
  rw [hf]
  rfl
theorem RelF.owns (R : RelF n hs fr) (hk : RowOk n k.cs k.b k.e k.g) (here : ∀ c ∈ k.cs, gH hs c = -1) {x : Int} (h0 : 0 ≤ x) (h1 : x < n) : (k.cs.any fun c => decide (x ∈ lookF fr c)) = decide (gH hs x ∈ k.cs) := by
  have hc := hk.rc.1.2
  by_cases h : gH hs x ∈ k.cs
  · rw [decide_eq_true h, List.any_eq_true]
    obtain ⟨_, _, _, _, r⟩ := R.look (hc _ h).1 (hc _ h).2 (here _ h)
    exact ⟨_, h, decide_eq_true ((r.2 x).mpr ⟨h0, h1, rfl⟩)⟩
  · rw [decide_eq_false h, List.any_eq_false]
    intro c hm e
    obtain ⟨_, _, _, _, r⟩ := R.look (hc c hm).1 (hc c hm).2 (here c hm)
    have := ((r.2 x).mp (of_decide_eq_true e)).2.2
    exact h (this ▸ hm)
end
section
variable {X : Cx} {σ : L2.St} {G : Hp} {a b : Expr} {pos : Pos} {kds : List (Key × Dt)}
theorem put_dnotin (k : Key) (ha : Pu X a σ G (keyD k)) (hb : Pu X b σ G (dctD kds)) (hu : X.A.units + 1 < cLine) (hm : behindInMarks .NotIn b = false := by rfl) : PuT X (.Compare a [.NotIn] [b] pos) σ G (!(lookD kds k).isSome) := fun G1 H g s Q q => by
  refine ⟨_, pt_cmp (pc_dnotin hu pe_e pe_e) hm, ?_⟩
  refine ha G1 H g s _ fun v G2 H2 s2 hd => hb G2 H2 (g.trans s2.g) s2.s _ fun w G3 H3 s3 hd3 => ?_
  obtain ⟨l, kvs, rfl, h1, h2⟩ := hd3.dct_inv
  rw [keyV k hd]
  refine ⟨l, valV kvs k, rfl, .inl ⟨kvs, k, Rd.mono' s3.s h1, rfl, rfl⟩, (!(valV kvs k).isSome), rfl, ?_⟩
  have e : (valV kvs k).isSome = (lookD kds k).isSome := by
    rcases h2.get k with ⟨v, d', e1, e2, _⟩ | ⟨e1, e2⟩
    · rw [e1, show lookD kds k = _ from e2]
      rfl
    · rw [e1, show lookD kds k = _ from e2]
      rfl
  rw [e]
  exact q G3 H3 (s2.trans s3)
end
section
variable {P : Program} {w : World} {K : PySem.W.Frag} {mg : Str → Option Value} {base : Heap}
abbrev nRefd : List Str := ["own", "here", "kind", "name", "comers", "begins", "ends", "gives", "hand", "comer"]
theorem scRefd : FnScope nRefd ["own", "here", "kind"] (defScope t_law_refused) := ⟨rfl, rfl, rfl, by decide +kernel, rfl, by decide +kernel, by decide +kernel⟩
/-- where the law stands: an own hall, who holds whom, the rights of each who is here -/
structure Std (o : Own) (hs : List Int) (fr : Fr) : Prop where
  ho : OwnOk o
  H : HsOk o.names.length hs
  R : RelF o.names.length hs fr
theorem Std.row {o : Own} {hs : List Int} {fr : Fr} (S : Std o hs fr) {j : Int} (h0 : 0 ≤ j) (h1 : j < o.kinds.length) : RowOk o.names.length (kAt o j).cs (kAt o j).b (kAt o j).e (kAt o j).g := (S.ho.kk _ (List.mem_of_getElem? (kAt_some h0 h1))).2
def rRefd : List Dt → Dt → Prop := fun ds d => ∃ o hs fr j, ds = [ownD o, frDct fr, .int j] ∧ Std o hs fr ∧ 0 ≤ j ∧ j < o.kinds.length ∧ d = refD (refK hs (kAt o j))
theorem own_kind {o : Own} {j : Int} (h0 : 0 ≤ j) (h1 : j < o.kinds.length) : (o.kinds.map kdD)[j.toNat]? = some (kdD (kAt o j)) := by
  rw [List.getElem?_map, kAt_some h0 h1]
  rfl
theorem has_refd (T : Top1 K mg "_law_refused" t_law_refused ["own", "here", "kind"]) (B : Blt mg) : Has P w K mg base "_law_refused" 1 3 (spPure K 3 rRefd) := by
  refine mkHas (k := 0) T scRefd spPure_len fun f cdv A outer s H vs Q E hr h => ?_
  obtain ⟨G, ds, d, hm, g, hds, ⟨o, hs, fr, j, rfl, S, j0, j1, rfl⟩, k⟩ := h
  have hu := hu1 (hu64 hr)
  have row := S.row j0 j1
  have hcm := row.rc.1.2
  have hc3 := row.rc.2
  generalize hkk : kAt o j = kk at row hcm hc3
  cases hds with
  | cons d0 hn =>
  cases hn with
  | cons d1 hn =>
  cases hn with
  | cons d2 hn =>
    cases hn
    rename_i vo vr vj
    refine b_cons (s_asg (w_pu (d := kdD kk) (pu_ixL (pu_dget (.inr "kinds") (pu_var 0 rfl d0) pu_str (own_kinds o) hu) (pu_var 2 rfl d2) j0 (by rw [← hkk]; exact own_kind j0 j1)) g fun v1 G1 H1 s1 hv1 => ?_))
    obtain ⟨t, ts, rfl, ht, hts⟩ := hv1.tup_inv
    cases hts with
    | cons e0 hts =>
    cases hts with
    | cons e1 hts =>
    cases hts with
    | cons e2 hts =>
    cases hts with
    | cons e3 hts =>
    cases hts with
    | cons e4 hts =>
    cases hts
    rename_i c0 c1 c2 c3 c4
    refine g_tup (SqT.same s1.s ht) rfl (gs_cons (g_name 3 scRefd.nd (gs_cons (g_name 4 scRefd.nd (gs_cons (g_name 5 scRefd.nd (gs_cons (g_name 6 scRefd.nd (gs_cons (g_name 7 scRefd.nd (gs_nil ?_)))))))))))
    refine b_cons (s_forD (src_tup (ds := ofI kk.cs) (pu_var 4 rfl e1)) s1.s fun G2 H2 s2 => ⟨fun i σ H' => ∃ (G3 : Hp) (u8 u9 : Option V), σ = [some vo, some vr, some vj, some c0, some c1, some c2, some c3, some c4, u8, u9] ∧ Same G2 G3 ∧ Step [] G H G3 H' ∧
      ∀ (n : Nat) (c : Int), n < i → kk.cs[n]? = some c → (!decide (gH hs c = -1)) = false, ?_, ?_, ?_, ?_⟩)
    · exact ⟨G2, _, _, rfl, Same.refl _, s1.trans s2, fun n c h => by omega⟩
    · rintro i σ H' ⟨G3, u8, u9, rfl, sg, st, _⟩
      exact sg.trans st.s
    · rintro i d y σ H' H9 hi ⟨G3, u8, u9, rfl, sg, st, p1⟩ hw
      unfold ofI at hi
      rw [List.getElem?_map] at hi
      obtain ⟨c, hc, rfl⟩ := Option.map_eq_some_iff.mp hi
      have hcc := hcm c (List.mem_of_getElem? hc)
      obtain ⟨G4, s4, hy⟩ := hw G3 sg st.s
      obtain rfl := hy.int_inv
      have g4 := s1.g.trans (s2.g.trans (sg.trans s4.g))
      have st4 := st.trans s4
      refine g_name 8 scRefd.nd (b_one (s_if (t_pu (k := !decide (gH hs c = -1)) (PuT.to (put_dnotin (.inl c) (pu_var 8 rfl (.int c)) (pu_var 1 rfl (d1.mono g4)) hu) (by rw [look_in, S.R.inF hcc.1 hcc.2])) st4.s fun G5 H5 s5 => ite2 (fun hq => ?_) (fun hq => b_nil ⟨G5, _, _, rfl, sg.trans (s4.g.trans s5.g), st4.trans s5, fun n c2 hn h2 => ?_⟩))))
      · refine b_one (s_ret (w_pu (d := .tuple [.str "away", .int c]) (pu_tup (pua_cons pu_str (pua_cons (pu_var 8 rfl (.int c)) pua_nil))) s5.s fun v6 G6 H6 s6 hv6 => k v6 G6 H6 (st4.trans (s5.trans s6)) ?_))
        have : refK hs kk = some (("away" : Str), c) := by
          unfold refK
          rw [find_at (p := fun c => !decide (gH hs c = -1)) (fun j d hj hd => p1 j d hj hd) hc hq]
        rw [hkk, this]
        exact hv6
      · rcases Nat.lt_or_ge n i with h | h
        · exact p1 n c2 h h2
        · obtain rfl : n = i := by omega
          rw [hc] at h2
          cases h2
          simpa using hq
    rintro σ H5 ⟨G5, u8, u9, rfl, sg, st, p1⟩
    have g5 := s1.g.trans (s2.g.trans sg)
    have here : ∀ c ∈ kk.cs, gH hs c = -1 := fun c hc => by
      obtain ⟨n, hn⟩ := List.getElem?_of_mem hc
      have := p1 n c (by
        have := (List.getElem?_eq_some_iff.mp hn).1
        unfold ofI
        rw [List.length_map]
        exact this) hn
      simpa using this
    have er : refK hs kk = (outR hs kk).map fun x => (("right" : Str), x) := by
      unfold refK
      rw [find_nil fun n c hc => by rw [here c (List.mem_of_getElem? hc)]; rfl]
    rw [hkk, er] at k
    have e14 := (e1.mono (s2.g.trans sg))
    refine b_cons (s_forD (src_tup (ds := [optD kk.b, optD kk.g]) (pu_tup (pua_cons (pu_var 5 rfl (e2.mono (s2.g.trans sg))) (pua_cons (pu_var 7 rfl (e4.mono (s2.g.trans sg))) pua_nil)))) st.s fun G6 H6 s6 => ⟨fun i σ H' => ∃ (G7 : Hp) (u8 u9 : Option V), σ = [some vo, some vr, some vj, some c0, some c1, some c2, some c3, some c4, u8, u9] ∧ Same G6 G7 ∧ Step [] G H G7 H' ∧
      (1 ≤ i → (kk.b.any fun x => !decide (gH hs x ∈ kk.cs)) = false) ∧ (2 ≤ i → (kk.g.any fun x => !decide (gH hs x ∈ kk.cs)) = false), ?_, ?_, ?_, ?_⟩)
    · exact ⟨G6, _, _, rfl, Same.refl _, st.trans s6, fun h => by omega, fun h => by omega⟩
    · rintro i σ H' ⟨G7, u8, u9, rfl, sg7, st7, _⟩
      exact sg7.trans st7.s
    · rintro i d y σ H' H9 hi ⟨G7, u8, u9, rfl, sg7, st7, q1, q2⟩ hw
      obtain ⟨G8, s8, hy⟩ := hw G7 sg7 st7.s
      have g68 := s6.g.trans (sg7.trans s8.g)
      have d18 := d1.mono (g5.trans g68)
      have e18 := e14.mono g68
      have st8 := st7.trans s8
      obtain ⟨oo, rfl, rng, yes, no⟩ : ∃ oo : Option Int, d = optD oo ∧ (∀ z, oo = some z → 0 ≤ z ∧ z < o.names.length) ∧ ((oo.any fun x => !decide (gH hs x ∈ kk.cs)) = true → outR hs kk = oo) ∧
          ((oo.any fun x => !decide (gH hs x ∈ kk.cs)) = false → (1 ≤ i + 1 → (kk.b.any fun x => !decide (gH hs x ∈ kk.cs)) = false) ∧ (2 ≤ i + 1 → (kk.g.any fun x => !decide (gH hs x ∈ kk.cs)) = false)) := by
        match i, hi with
        | 0, hi =>
          refine ⟨kk.b, (Option.some.inj hi).symm, fun z hz => ⟨(row.rb z hz).1, (row.rb z hz).2.1⟩, fun h => ?_, fun h => ⟨fun _ => h, fun h => by omega⟩⟩
          unfold outR
          rw [if_pos h]
        | 1, hi =>
          refine ⟨kk.g, (Option.some.inj hi).symm, fun z hz => ⟨(row.rg z hz).1, (row.rg z hz).2.1⟩, fun h => ?_, fun h => ⟨fun _ => q1 (by omega), fun _ => h⟩⟩
          unfold outR
          rw [if_neg (by rw [q1 (by omega)]; exact Bool.false_ne_true), if_pos h]
        | i + 2, hi => cases hi
      refine g_name 8 scRefd.nd (b_one (s_if (t_pu (k := oo.any fun x => !decide (gH hs x ∈ kk.cs)) (PuT.to (k := !oo.isNone && oo.any fun x => !decide (gH hs x ∈ kk.cs)) (put_w (puw_and (put_c (c_notN oo.isNone (pu_var 8 rfl hy) fun G' v' _ hv' => optN hv')) fun h => puw_and1 ?test)) (by cases oo <;> rfl)) st8.s fun G9 H9 s9 => ite2 (fun hc => ?_) (fun hc => b_nil ⟨G9, _, _, rfl, sg7.trans (s8.g.trans s9.g), st8.trans s9, no (by simpa using hc)⟩))))
      case test =>
        cases oo with
        | none => cases h
        | some z =>
          have hz := rng z rfl
          obtain rfl := Da.int_inv hy
          refine PuT.to (put_not (put_val (pu_any (bs := kk.cs.map fun c => decide (z ∈ lookF fr c)) (Pu.to (pu_lc1 9 (cd := PyData.int) (ns := kk.cs) (src_tup (pu_var 4 rfl e18)) (fun c => .bool (decide (z ∈ lookF fr c))) (fun _ => true) scRefd.nd (fun _ _ _ _ _ _ _ _ _ _ _ => puts_nil)
            (fun c hc _ v G10 g10 hv _ _ _ _ _ => pu_c (c_inI (pu_var 8 rfl (.int z)) (pu_dget (.inl c) (pu_var 1 rfl (d18.mono g10)) (pu_var 9 rfl hv) (S.R.get (hcm c hc).1 (hcm c hc).2 (here c hc)) hu))) (by omega)) (by rw [filter_tt, List.map_map]; rfl)) B.any))) ?_
          rw [List.any_map]
          have := S.R.owns row here hz.1 hz.2
          show (!(kk.cs.any fun c => decide (z ∈ lookF fr c))) = _
          rw [this]
          rfl
      · refine b_one (s_ret (w_pu (d := .tuple [.str "right", optD oo]) (pu_tup (pua_cons pu_str (pua_cons (pu_var 8 rfl (hy.mono s9.g)) pua_nil))) s9.s fun v10 G10 H10 s10 hv10 => k v10 G10 H10 (st8.trans (s9.trans s10)) ?_))
        rw [yes hc]
        cases oo with
        | none => cases hc
        | some z => exact hv10
    · rintro σ H' ⟨G7, u8, u9, rfl, sg7, st7, q1, q2⟩
      refine b_one (s_ret (w_non (k .non G7 H' st7 ?_)))
      have : outR hs kk = none := by
        unfold outR
        rw [if_neg (by rw [q1 (by show 1 ≤ 2; decide)]; exact Bool.false_ne_true), if_neg (by rw [q2 (by show 2 ≤ 2; decide)]; exact Bool.false_ne_true)]
      rw [this]
      exact .non
end
end Mb

set_option Elab.async false
set_option linter.all false
set_option maxRecDepth 100000
set_option maxHeartbeats 4000000
namespace Mb
open PySem PySem.Spec PyProof.Rows L2 TL
/-! ### dicts that are walked, dicts that change -/
section
variable {K : PySem.W.Frag} {G G' : Hp}
mutual
theorem Da.sw (h1 : ∀ b xs, G b = some (.lst xs) → G' b = some (.lst xs)) (h2 : ∀ b xs, SqT K G b xs → SqT K G' b xs) (h3 : ∀ b kvs, Rd G b (.dK kvs) → Rd G' b (.dK kvs)) : ∀ {d : Dt} {v : V}, Da K G v d → Da K G' v d
  | _, _, .non => .non
  | _, _, .bl b => .bl b
  | _, _, .int i => .int i
  | _, _, .str x => .str x
  | _, _, .lst h hs => .lst (h1 _ _ h) (Das.sw h1 h2 h3 hs)
  | _, _, .tup h hs => .tup (h2 _ _ h) (Das.sw h1 h2 h3 hs)
  | _, _, .dct h hs => .dct (h3 _ _ h) (Dks.sw h1 h2 h3 hs)
theorem Das.sw (h1 : ∀ b xs, G b = some (.lst xs) → G' b = some (.lst xs)) (h2 : ∀ b xs, SqT K G b xs → SqT K G' b xs) (h3 : ∀ b kvs, Rd G b (.dK kvs) → Rd G' b (.dK kvs)) : ∀ {ds : List Dt} {vs : List V}, Das K G vs ds → Das K G' vs ds
  | _, _, .nil => .nil
  | _, _, .cons h hs => .cons (Da.sw h1 h2 h3 h) (Das.sw h1 h2 h3 hs)
theorem Dks.sw (h1 : ∀ b xs, G b = some (.lst xs) → G' b = some (.lst xs)) (h2 : ∀ b xs, SqT K G b xs → SqT K G' b xs) (h3 : ∀ b kvs, Rd G b (.dK kvs) → Rd G' b (.dK kvs)) : ∀ {ds : List (Key × Dt)} {vs : List (Key × V)}, Dks K G vs ds → Dks K G' vs ds
  | _, _, .nil => .nil
  | _, _, .cons h hs => .cons (Da.sw h1 h2 h3 h) (Dks.sw h1 h2 h3 hs)
end
theorem Rd.updNe {a b : Addr} {u o : HO} (h : b ≠ a) (r : Rd G b u) : Rd (upd G a o) b u := r.elim (fun e => .inl (by rw [upd_ne h]; exact e)) fun ⟨w, e⟩ => .inr ⟨w, by rw [upd_ne h]; exact e⟩
/-- a dict's lock laid on or taken off -/
theorem Da.swK {a : Addr} {kvs : List (Key × V)} {o : HO} (h : Rd G a (.dK kvs)) (ho : Rd (upd G a o) a (.dK kvs)) {d : Dt} {v : V} (hd : Da K G v d) : Da K (upd G a o) v d := by
  have key : ∀ b xs, Rd G b (.tup xs) → Rd (upd G a o) b (.tup xs) := fun b xs e => by
    refine Rd.updNe (fun z => ?_) e
    subst z
    rcases h with h | ⟨w, h⟩ <;> rcases e with e | ⟨w', e⟩ <;> rw [h] at e <;> cases e
  refine Da.sw (fun b xs e => ?_) (fun b xs e => e.elim (fun e => .inl (key b xs e)) .inr) (fun b kvs' e => ?_) hd
  · rw [upd_ne fun z => ?_]
    · exact e
    · subst z
      rcases h with h | ⟨w, h⟩ <;> rw [h] at e <;> cases e
  · by_cases z : b = a
    · subst z
      have : kvs' = kvs := by
        rcases h with h | ⟨w, h⟩ <;> rcases e with e | ⟨w', e⟩ <;> rw [h] at e <;> cases e <;> rfl
      subst this
      exact ho
    · exact Rd.updNe z e
end
section
variable {X : Cx} {σ : L2.St} {G H : Hp} {e tg : Expr} {pos : Pos} {d : Dt} {a : Addr} {kvs : List (Key × V)} {o : Obj}
theorem Same.upd2 {G H : Hp} {l : Addr} {u : HO} (h : Same G H) : Same (upd G l u) (upd H l u) := fun b w e => by
  by_cases z : b = l
  · subst z
    rw [upd_same] at e ⊢
    exact e
  · rw [upd_ne z] at e ⊢
    exact h b w e
/-- an expression that walks the dict at a, which is locked meanwhile -/
theorem pu_lock (ha : Rd G a (.dK kvs)) (hp : ∀ G' o, (∀ v d, Da X.K G v d → Da X.K G' v d) → G' a = some (.frz o (.dK kvs)) → Pu X e σ G' d) : Pu X e σ G d := fun G1 H g s Q q => by
  rcases ha with ha | ⟨o, ha⟩
  · have h1 := g _ _ ha
    have hH := s _ _ h1
    refine eE.mk (pe_lock pe_e) ⟨a, _, hH, trivial, fun od => ?_⟩
    refine hp (upd G a (.frz od (.dK kvs))) od (fun v d hd => Da.swK (.inl ha) (.inr ⟨od, upd_same⟩) hd) upd_same (upd G1 a (.frz od (.dK kvs))) (upd H a (.frz od (.dK kvs))) (Same.upd2 g) (Same.upd2 s) _ fun v G2 H2 st hv => ?_
    have e2 : G2 a = some (.frz od (.dK kvs)) := st.g _ _ upd_same
    refine ⟨st.s _ _ e2, q v (upd G2 a (.dK kvs)) _ ⟨fun b w e => ?_, Same.upd2 st.s, fun b w e => ?_, fun b w e => ?_⟩ (Da.swK (.inr ⟨od, e2⟩) (.inl upd_same) hv)⟩
    · by_cases z : b = a
      · subst z
        rw [h1] at e
        rw [upd_same]
        exact e
      · rw [upd_ne z]
        exact st.g b w (by rw [upd_ne z]; exact e)
    · by_cases z : b = a
      · subst z
        rw [hH] at e
        cases e
        exact ⟨_, upd_same, fun _ => rfl⟩
      · obtain ⟨w', e', h'⟩ := st.fr b w (by rw [upd_ne z]; exact e)
        exact ⟨w', by rw [upd_ne z]; exact e', h'⟩
    · by_cases z : b = a
      · subst z
        rw [upd_same] at e
        cases e
        exact .inl h1
      · rw [upd_ne z] at e
        rcases st.new b w e with h | h
        · rw [upd_ne z] at h
          exact .inl h
        · rw [upd_ne z] at h
          exact .inr h
  · exact hp G o (fun v d h => h) ha G1 H g s Q q
theorem walks_keys {K : PySem.W.Frag} (h : G a = some (.frz o (.dK kvs))) : Walks K (Itk a o kvs) G (kvs.map fun p => keyD p.1) := fun i G1 H g s => by
  have hH := s _ _ (g _ _ h)
  refine ⟨fun d hd => ?_, fun hi => ⟨hH, by rw [List.length_map] at hi; exact hi⟩⟩
  rw [List.getElem?_map] at hd
  obtain ⟨p, hp, rfl⟩ := Option.map_eq_some_iff.mp hd
  refine ⟨⟨hH, (List.getElem?_eq_some_iff.mp hp).1⟩, fun x H' hy => ?_⟩
  obtain ⟨rfl, k, v, hk, rfl⟩ := hy
  rw [hp] at hk
  cases hk
  refine ⟨G1, Step.refl s, ?_⟩
  cases k with
  | inl i => exact .int i
  | inr x => exact .str x
theorem src_keys (i : Nat) {x : Str} {px : Pos} (hi : σ[i]? = some (some (.ref a))) (h : G a = some (.frz o (.dK kvs)))
    (hN : X.N[i]? = some x := by rfl) (hv : Vis X.env.scope x := by first | exact Or.inl rfl | exact Or.inr (Or.inl rfl) | exact Or.inr (Or.inr rfl)) (h1 : (x == ("__debug__" : Str)) = false := by decide) (h2 : (x == ("__classdict__" : Str)) = false := by decide) :
    Src X tg (.Name x px) σ G (kvs.map fun p => keyD p.1) := fun G1 H g s R q =>
  ⟨_, pi_keys pe_e, w_var i hi ⟨a, o, rfl, .inl ⟨kvs, s _ _ (g _ _ h), q _ G1 H (Step.refl s) (walks_keys (g _ _ h))⟩⟩ hN hv h1 h2⟩
end
/-- a dict under construction -/
structure DAt (K : PySem.W.Frag) (G H : Hp) (l : Addr) (kds : List (Key × Dt)) (G3 : Hp) (kvs : List (Key × V)) (H3 : Hp) : Prop where
  st : Step [] G H G3 H3
  hl : H3 l = some (.dK kvs)
  gl : G3 l = none
  h0 : H l = none
  ds : Dks K G3 kvs kds
section
variable {K : PySem.W.Frag} {G H : Hp} {l : Addr} {kds : List (Key × Dt)} {G3 G5 : Hp} {kvs : List (Key × V)} {H3 H5 : Hp} {k : Key} {v : V} {d : Dt}
theorem Dks.any (h : Dks K G kvs kds) (k : Key) : (kvs.any fun kv => decide (kv.1 = k)) = kds.any fun kv => decide (kv.1 = k) := by
  have := congrArg (fun l => l.any fun x => decide (x = k)) h.keys
  rw [List.any_map, List.any_map] at this
  exact this
theorem Dks.put (h : Dks K G kvs kds) (hv : Da K G v d) : Dks K G (putK kvs k v) (putA kds k d) := by
  unfold putK putA
  rw [h.any k]
  split
  · rename_i hq
    clear hq
    induction kvs generalizing kds with
    | nil => cases h; exact .nil
    | cons p ps ih =>
      cases h with
      | cons h1 h2 =>
        rename_i k' v' d' ds'
        rw [List.map_cons, List.map_cons]
        by_cases e : k' = k
        · simp only [e, if_true]
          exact .cons hv (ih h2)
        · simp only [e, if_false]
          exact .cons h1 (ih h2)
  · rename_i hq
    clear hq
    induction kvs generalizing kds with
    | nil => cases h; exact .cons hv .nil
    | cons p ps ih =>
      cases h with
      | cons h1 h2 => exact .cons h1 (ih h2)
theorem Dks.drop (h : Dks K G kvs kds) : Dks K G (dropK kvs k) (dropA kds k) := by
  unfold dropK dropA
  induction kvs generalizing kds with
  | nil => cases h; exact .nil
  | cons p ps ih =>
    cases h with
    | cons h1 h2 =>
      rename_i k' v' d' ds'
      rw [List.filter_cons, List.filter_cons]
      by_cases e : k' = k
      · simp only [e, ne_eq, not_true, decide_false, decide_true, Bool.not_true, if_false, Bool.false_eq_true]
        exact ih h2
      · simp only [e, ne_eq, not_false_eq_true, decide_true, decide_false, Bool.not_false, if_true]
        exact .cons h1 (ih h2)
theorem DAt.pure (f : DAt K G H l kds G3 kvs H3) (s : Step [] G3 H3 G5 H5) : DAt K G H l kds G5 kvs H5 :=
  ⟨f.st.trans s, s.keep f.hl (by simp), s.out f.gl f.hl, f.h0, f.ds.mono s.g⟩
theorem DAt.put (f : DAt K G H l kds G3 kvs H3) (hv : Da K G3 v d) : DAt K G H l (putA kds k d) G3 (putK kvs k v) (upd H3 l (.dK (putK kvs k v))) :=
  ⟨f.st.mutF f.h0 f.gl f.hl, upd_same, f.gl, f.h0, f.ds.put hv⟩
theorem DAt.drop (f : DAt K G H l kds G3 kvs H3) : DAt K G H l (dropA kds k) G3 (dropK kvs k) (upd H3 l (.dK (dropK kvs k))) :=
  ⟨f.st.mutF f.h0 f.gl f.hl, upd_same, f.gl, f.h0, f.ds.drop⟩
theorem DAt.fin (f : DAt K G H l kds G3 kvs H3) : Step [] G H (upd G3 l (.dK kvs)) H3 := f.st.freeze f.h0 f.hl f.gl
theorem DAt.da (f : DAt K G H l kds G3 kvs H3) : Da K (upd G3 l (.dK kvs)) (.ref l) (dctD kds) := .dct (.inl upd_same) (f.ds.mono (Same.toUpd f.gl))
theorem DAt.new (s : Step [] G H G3 H3) (hd : Dks K G3 kvs kds) (hl : H3 l = none) : DAt K G H l kds G3 kvs (upd H3 l (.dK kvs)) :=
  ⟨s.allocF hl, upd_same, s.s.free hl, s.free hl, hd⟩
end
section
variable {X : Cx} {σ : L2.St} {G H : Hp} {a b o e : Expr} {p pos px : Pos} {kds : List (Key × Dt)} {d : Dt} {l : Addr} {kvs : List (Key × V)} {Q : VK} {ns : List Int}
/-- what is told of a dict that changes, while it stands -/
theorem w_frz (gl : G l = none) (hl : H l = some (.dK kvs)) (g : Same G H) (hd : Dks X.K G kvs kds) (hp : ∀ G1, Same G G1 → Da X.K G1 (.ref l) (dctD kds) → Pu X e σ G1 (.list (ofI ns))) (q : ∀ v G' H', Step [] G H G' H' → Da X.K G' v (.list (ofI ns)) → Q v H') : eE X e σ H Q := by
  refine hp (upd G l (.dK kvs)) (Same.toUpd gl) (.dct (.inl upd_same) (hd.mono (Same.toUpd gl))) (upd G l (.dK kvs)) H (Same.refl _) (fun b w e => ?_) _ fun v G2 H2 st hv => ?_
  · by_cases z : b = l
    · subst z
      rw [upd_same] at e
      rw [hl]
      exact e
    · rw [upd_ne z] at e
      exact g b w e
  · refine q v (del G2 l) H2 (st.thaw gl) ?_
    obtain ⟨m, xs, rfl, h1, h2⟩ := hv.lst_inv
    have hm : G2 l = some (.dK kvs) := st.g _ _ upd_same
    obtain rfl := h2.ints
    exact .lst (by rw [del_ne fun z => by rw [z, hm] at h1; cases h1]; exact h1) (Das.ofInts _)
theorem rDictM_q {K : PySem.W.Frag} {G H : Hp} {v : V} {Q : VK} (hv : Da K G v (.list (kds.map fun p => .tuple [keyD p.1, p.2]))) (s : Same G H) (hn : (kds.map (·.1)).Nodup) (q : ∀ p kvs, H p = none → Dks K G kvs kds → Q (.ref p) (upd H p (.dK kvs))) :
    ∃ (a : Addr) (ps : List Addr) (kvs : List (Key × V)), [v] = [V.ref a] ∧ SqL K H a (ps.map V.ref) ∧ Paired (fun p kv => SqT K H p [kV kv.1, kv.2]) ps kvs ∧ ∀ p, H p = none → Q (.ref p) (upd H p (.dK (mergeK [] kvs))) := by
  obtain ⟨l, vs, rfl, h1, h2⟩ := hv.lst_inv
  have key : ∀ (kds : List (Key × Dt)) (vs : List V), Das K G vs (kds.map fun p => .tuple [keyD p.1, p.2]) → ∃ (ps : List Addr) (kvs : List (Key × V)), vs = ps.map V.ref ∧ Paired (fun p kv => SqT K G p [kV kv.1, kv.2]) ps kvs ∧ Dks K G kvs kds := by
    intro kds
    induction kds with
    | nil => intro vs h; cases h; exact ⟨[], [], rfl, .nil, .nil⟩
    | cons kd kds ih =>
      intro vs h
      cases h with
      | cons h1 h2 =>
        obtain ⟨ps, kvs, rfl, h3, h4⟩ := ih _ h2
        obtain ⟨t, ts, rfl, h5, h6⟩ := h1.tup_inv
        obtain ⟨k, dd⟩ := kd
        cases h6 with
        | cons h7 h8 =>
          cases h8 with
          | cons h9 h10 =>
            cases h10
            rename_i v1 v2
            rw [keyV k h7] at h5
            exact ⟨t :: ps, (k, v2) :: kvs, rfl, .cons h5 h3, .cons h9 h4⟩
  obtain ⟨ps, kvs, rfl, h3, h4⟩ := key kds vs h2
  refine ⟨l, ps, kvs, rfl, SqL.of (s _ _ h1), L2.Paired.mapP h3 fun _ _ z => SqT.same s z, fun p hp => ?_⟩
  rw [mergeK_nodup kvs [] (by rw [List.nil_append, h4.keys]; exact hn), List.nil_append]
  exact q p kvs hp h4
/-- dict(pairs) that may change -/
theorem w_dictM (ha : Pu X a σ G (.list (kds.map fun p => .tuple [keyD p.1, p.2]))) (g : Same G H) (hn : (kds.map (·.1)).Nodup) (q : ∀ p kvs G' H', Step [] G H G' H' → H' p = none → Dks X.K G' kvs kds → Q (.ref p) (upd H' p (.dK kvs))) (hm : X.mg "dict" = none) (hc : X.calm = true := by rfl) (hg : Gl X "dict" := by rfl) (he : starEach [a] X.env = [(false, eval a X.env)] := by rfl) :
    eE X (.Call (.Name "dict" p) [a] [] pos) σ H Q :=
  w_callTy (call_dictP hc) hm (by decide +kernel) (a_cons (w_pu ha g fun v G1 H1 s1 hv => a_nil (rDictM_q hv s1.s hn fun p kvs hp hd => q p kvs G1 H1 s1 hp hd)) he) hg (by decide) (by decide) he rfl
theorem g_subD {Q : L2.St → Hp → Prop} {i : Expr} {v : V} (hu : X.A.units + 1 < cLine) (q : eE X o σ H fun x H1 => eE X i σ H1 fun y H2 => rSetD x y v H2 fun H3 => Q σ H3)
    (ha : ∀ v, assign (.Subscript o i pos) X.env v = (do
      let ov ← holding [v] (eval o X.env)
      let iv ← holding [v, ov] (eval i X.env)
      standAt pos
      holding [v, ov, iv] (setItem ov iv v)
      release [v, ov, iv] []) := by intro _; rfl) : eG X (.Subscript o i pos) v σ H Q := ⟨_, pg_sub pe_e pe_e (set_dict hu) ha, q⟩
theorem w_dpop {apos cpos : Pos} {x : Str} (i : Nat) (hi : σ[i]? = some (some (.ref l))) (k : Key) (h0 : H l = some (.dK kvs)) (q : eE X e σ H fun y H2 => H2 l = some (.dK kvs) ∧ y = kV k ∧ ∃ v, valV kvs k = some v ∧ Q v (upd H2 l (.dK (dropK kvs k)))) (m : M1 X (.Name x px) "pop" apos e cpos)
    (hN : X.N[i]? = some x := by rfl) (hv : Vis X.env.scope x := by first | exact Or.inl rfl | exact Or.inr (Or.inl rfl) | exact Or.inr (Or.inr rfl)) (h1 : (x == ("__debug__" : Str)) = false := by decide) (h2 : (x == ("__classdict__" : Str)) = false := by decide) :
    eE X (.Call (.Attribute (.Name x px) "pop" apos) [e] [] cpos) σ H Q :=
  eE.mk (pe_dpop1 pe_e pe_e m) (w_var i hi ⟨l, rfl, .inl ⟨kvs, .inl h0⟩, q.mono fun y H2 h => by
    obtain ⟨h3, rfl, v, h4, h5⟩ := h
    exact ⟨kvs, k, v, h3, rfl, h4, h5⟩⟩ hN hv h1 h2)
end
theorem frKd_put {fr : Fr} {x : Int} {l : List Int} : frKd (putA fr x l) = putA (frKd fr) (.inl x) (.list (ofI l)) := by
  have e : ((frKd fr).any fun p => decide (p.1 = .inl x)) = fr.any fun p => decide (p.1 = x) := by
    unfold frKd
    rw [List.any_map]
    refine congrArg fr.any (funext fun p => ?_)
    show decide ((Sum.inl p.1 : Key) = .inl x) = decide (p.1 = x)
    simp
  unfold putA
  rw [e]
  split
  · unfold frKd
    rw [List.map_map, List.map_map]
    refine List.map_congr_left fun p _ => ?_
    show (fun p : Int × List Int => ((.inl p.1 : Key), PyData.list (ofI p.2))) (if p.1 = x then (p.1, l) else p) = if (Sum.inl p.1 : Key) = .inl x then _ else _
    by_cases e : p.1 = x
    · simp [e]
    · simp [e]
  · unfold frKd
    rw [List.map_append]
    rfl
theorem frKd_drop {fr : Fr} {x : Int} : frKd (dropA fr x) = dropA (frKd fr) (.inl x) := by
  unfold frKd dropA
  rw [List.filter_map]
  congr 1
  refine List.filter_congr fun p _ => ?_
  show (!decide (p.1 = x)) = !decide ((Sum.inl p.1 : Key) = .inl x)
  simp
end Mb

set_option Elab.async false
set_option linter.all false
set_option maxRecDepth 100000
set_option maxHeartbeats 4000000
namespace Mb
open PySem PySem.Spec PyProof.Rows L2 TL
/-! ### the law's own step -/
section
variable {n : Nat} {hs : List Int} {fr : Fr} {k : Kd} {x y : Int}
theorem frKd_nd (nd : (fr.map (·.1)).Nodup) : ((frKd fr).map (·.1)).Nodup := by
  have e : (frKd fr).map (·.1) = (fr.map (·.1)).map Sum.inl := by
    unfold frKd
    rw [List.map_map, List.map_map]
    rfl
  rw [e, List.nodup_iff_pairwise_ne, List.pairwise_map]
  exact (List.nodup_iff_pairwise_ne.mp nd).imp fun h e => h (Sum.inl.inj e)
theorem nd1 (nd : (fr.map (·.1)).Nodup) : ((behF1 fr k).map (·.1)).Nodup := by
  have e : (behF1 fr k).map (·.1) = fr.map (·.1) := by
    unfold behF1
    rw [List.map_map]
    rfl
  rw [e]
  exact nd
theorem look_of (h : inF fr x = true) : lookD (frKd fr) (.inl x) = some (.list (ofI (lookF fr x))) := by
  unfold frKd
  rw [look_fr]
  unfold inF at h
  unfold lookF
  cases q : fr.find? fun p => decide (p.1 = x) with
  | some p => rfl
  | none =>
    obtain ⟨p, hp, e⟩ := List.any_eq_true.mp h
    have := List.find?_eq_none.mp q p hp
    exact (this e).elim
theorem inF_mem : inF fr x = true ↔ x ∈ fr.map (·.1) := by
  unfold inF
  rw [List.any_eq_true, List.mem_map]
  constructor
  · rintro ⟨p, hp, e⟩
    exact ⟨p, hp, of_decide_eq_true e⟩
  · rintro ⟨p, hp, e⟩
    exact ⟨p, hp, decide_eq_true e⟩
theorem inF_put {l : List Int} (h : inF fr x = true) : inF (putA fr y l) x = true := by
  rw [inF_mem, List.mem_map] at h ⊢
  obtain ⟨p, hp, rfl⟩ := h
  by_cases e : p.1 = y
  · exact ⟨_, mem_putA.mpr (.inr rfl), e.symm⟩
  · exact ⟨p, mem_putA.mpr (.inl ⟨hp, e⟩), rfl⟩
theorem inF_1 (h : inF fr x = true) : inF (behF1 fr k) x = true := by
  rw [inF_mem] at h ⊢
  unfold behF1
  rw [List.map_map]
  exact h
theorem inF_2 (h : inF fr x = true) : inF (behF2 fr k) x = true := by
  unfold behF2
  split
  · exact inF_put (inF_1 h)
  · exact inF_1 h
theorem inF_3 (h : inF fr x = true) : inF (behF3 fr k) x = true := by
  unfold behF3
  split
  · exact inF_put (inF_2 h)
  · exact inF_2 h
/-- few, and short -/
structure Few (fr : Fr) (a b : Nat) : Prop where
  n : fr.length ≤ a
  v : ∀ p ∈ fr, p.2.length ≤ b
theorem Few.look {a b : Nat} (F : Few fr a b) : (lookF fr x).length ≤ b := by
  unfold lookF
  cases q : fr.find? fun p => decide (p.1 = x) with
  | none => exact Nat.zero_le _
  | some p => exact F.v p (List.mem_of_find?_eq_some q)
theorem Few.put {a b c : Nat} (F : Few fr a b) {l : List Int} (h1 : b ≤ c) (h2 : l.length ≤ c) : Few (putA fr x l) (a + 1) c := by
  refine ⟨?_, fun p hp => ?_⟩
  · unfold putA
    split
    · rw [List.length_map]
      exact Nat.le_succ_of_le F.n
    · rw [List.length_append]
      exact Nat.succ_le_succ F.n
  · rcases mem_putA.mp hp with ⟨hp, _⟩ | rfl
    · exact Nat.le_trans (F.v p hp) h1
    · exact h2
theorem Few.weak {a b c e : Nat} (F : Few fr a b) (h1 : a ≤ c) (h2 : b ≤ e) : Few fr c e := ⟨Nat.le_trans F.n h1, fun p hp => Nat.le_trans (F.v p hp) h2⟩
theorem rts_len {l : List Int} {i : Int} (h : Rts n hs i l) : l.length ≤ n := by
  have := pigI l (rng n) (List.nodup_iff_pairwise_ne.mpr (h.1.imp fun {a b} h => by omega)) fun x hx => by
    have := (h.2 x).mp hx
    exact mem_rng.mpr ⟨this.1, this.2.1⟩
  rw [rng_len] at this
  exact this
theorem RelF.few (R : RelF n hs fr) : Few fr n n := by
  refine ⟨?_, fun p hp => rts_len (R.val p hp)⟩
  have := pigI (fr.map (·.1)) (rng n) R.nd fun x hx => by
    have := (R.mem x).mp hx
    exact mem_rng.mpr ⟨this.1, this.2.1⟩
  rw [rng_len, List.length_map] at this
  exact this
theorem sortI_len {l : List Int} : (PySem.W.sortI l).length = l.length := (PySem.W.sortI_perm l).length_eq
theorem few1 {a b : Nat} (F : Few fr a b) : Few (behF1 fr k) a b := by
  refine ⟨by unfold behF1; rw [List.length_map]; exact F.n, fun p hp => ?_⟩
  unfold behF1 at hp
  obtain ⟨q, hq, rfl⟩ := List.mem_map.mp hp
  exact Nat.le_trans (List.length_filter_le ..) (F.v q hq)
theorem few2 {a b : Nat} (F : Few fr a b) : Few (behF2 fr k) (a + 1) b := by
  unfold behF2
  split
  · exact (few1 F).put (Nat.le_refl _) (Nat.zero_le _)
  · exact (few1 F).weak (Nat.le_succ _) (Nat.le_refl _)
theorem few3 {a b : Nat} (F : Few fr a b) : Few (behF3 fr k) (a + 2) (b + 1) := by
  unfold behF3
  split
  · refine (few2 F).put (Nat.le_succ _) ?_
    rw [sortI_len, List.length_append]
    exact Nat.succ_le_succ (few2 F).look
  · exact (few2 F).weak (Nat.le_succ _) (Nat.le_succ _)
end
section
variable {P : Program} {w : World} {K : PySem.W.Frag} {mg : Str → Option Value} {base : Heap}
abbrev nBeh : List Str := ["own", "here", "kind", "name", "comers", "begins", "ends", "gives", "moved", "found", "heir", "hand", "one"]
theorem scBeh : FnScope nBeh ["own", "here", "kind"] (defScope t_law_behind) := ⟨rfl, rfl, rfl, by decide +kernel, rfl, by decide +kernel, by decide +kernel⟩
def rBeh : List Dt → Dt → Prop := fun ds d => ∃ o hs fr j, ds = [ownD o, frDct fr, .int j] ∧ Std o hs fr ∧ 0 ≤ j ∧ j < o.kinds.length ∧ refK hs (kAt o j) = none ∧ d = frDct (behF fr (kAt o j))
theorem has_beh (T : Top1 K mg "_law_behind" t_law_behind ["own", "here", "kind"]) (B : Blt mg) : Has P w K mg base "_law_behind" 1 3 (spPure K 3 rBeh) := by
  refine mkHas (k := 0) T scBeh spPure_len fun f cdv A outer s H vs Q E hr h => ?_
  obtain ⟨G, ds, d, hm, g, hds, ⟨o, hs, fr, j, rfl, S, j0, j1, hno, rfl⟩, k⟩ := h
  have hu := hu1 (hu64 hr)
  have row := S.row j0 j1
  have hcm := row.rc.1.2
  have hc1 := row.rc.2
  have h5 := S.ho.m5
  have C := can_of (n := o.names.length) hno
  have few := S.R.few
  have isin : ∀ c ∈ (kAt o j).cs, inF fr c = true := fun c hc => by rw [S.R.inF (hcm c hc).1 (hcm c hc).2, C.here c hc]; rfl
  generalize hkk : kAt o j = kk at row hcm hc1 C isin
  rw [hkk] at k
  cases hds with
  | cons d0 hn =>
  cases hn with
  | cons d1 hn =>
  cases hn with
  | cons d2 hn =>
    cases hn
    rename_i vo vr vj
    refine b_cons (s_asg (w_pu (d := kdD kk) (pu_ixL (pu_dget (.inr "kinds") (pu_var 0 rfl d0) pu_str (own_kinds o) hu) (pu_var 2 rfl d2) j0 (by rw [← hkk]; exact own_kind j0 j1)) g fun v1 G1 H1 s1 hv1 => ?_))
    obtain ⟨t, ts, rfl, ht, hts⟩ := hv1.tup_inv
    cases hts with
    | cons e0 hts =>
    cases hts with
    | cons e1 hts =>
    cases hts with
    | cons e2 hts =>
    cases hts with
    | cons e3 hts =>
    cases hts with
    | cons e4 hts =>
    cases hts
    rename_i c0 c1 c2 c3 c4
    refine g_tup (SqT.same s1.s ht) rfl (gs_cons (g_name 3 scBeh.nd (gs_cons (g_name 4 scBeh.nd (gs_cons (g_name 5 scBeh.nd (gs_cons (g_name 6 scBeh.nd (gs_cons (g_name 7 scBeh.nd (gs_nil ?_)))))))))))
    -- moved
    refine b_cons (s_set 8 scBeh.nd (w_pu (d := .list (ofI (movedK kk))) (Pu.to (pu_lc1 11 (cd := optD) (ns := [kk.b, kk.g]) (src_tup (pu_tup (pua_cons (pu_var 5 rfl e2) (pua_cons (pu_var 7 rfl e4) pua_nil)))) optD (fun o => !o.isNone) scBeh.nd
      (fun oo _ v G' g' hv _ _ _ _ _ => puts_one (put_c (c_notN oo.isNone (pu_var 11 rfl hv) fun G'' v' _ hv' => optN hv'))) (fun oo _ _ v G' g' hv _ _ _ _ _ => pu_var 11 rfl hv) (by show 2 < 100000; decide))
        (by unfold movedK; cases kk.b <;> cases kk.g <;> rfl)) s1.s fun v2 G2 H2 s2 hv2 => ?_))
    -- found
    have d12 := d1.mono (s1.g.trans s2.g)
    obtain ⟨dl, dkv, rfl, dl1, dl2⟩ := d12.dct_inv
    have ekeys : (dkv.map fun p => keyD p.1) = fr.map fun p => PyData.int p.1 := by
      have := congrArg (List.map keyD) dl2.keys
      rw [List.map_map, List.map_map] at this
      refine this.trans ?_
      unfold frKd
      rw [List.map_map]
      rfl
    refine b_cons (s_set 9 scBeh.nd (w_dictM (kds := frKd (behF1 fr kk)) (pu_lock dl1 fun G' od sw hlk => Pu.to (pu_lc1 11 (cd := fun p : Int × List Int => PyData.int p.1) (ns := fr) (by rw [← ekeys]; exact src_keys 1 rfl hlk) (fun p => .tuple [.int p.1, .list (ofI (p.2.filter fun y => !decide (y ∈ movedK kk)))]) (fun _ => true) scBeh.nd (fun _ _ _ _ _ _ _ _ _ _ _ => puts_nil)
      ?elBeh (by have := few.n; omega))
      (by rw [filter_tt]; unfold frKd behF1; rw [List.map_map, List.map_map]; rfl)) s2.s (frKd_nd (nd1 S.R.nd)) (fun l kvs3 G3 H3 s3 hl3 hd3 => ?_) B.dict))
    case elBeh =>
      intro p hp _ v G3 g3 hv s0 H0 A0 cl fp
      refine pu_tup (pua_cons (pu_var 11 rfl hv) (pua_cons (Pu.to (pu_lc1 12 (cd := PyData.int) (ns := p.2) ?src (fun y => .int y) (fun y => !decide (y ∈ movedK kk)) scBeh.nd ?tst ?elt (by have := few.v p hp; omega)) rfl) pua_nil))
      case src =>
        refine src_list (pu_dget (.inl p.1) (pu_var 1 rfl ((sw _ _ d12).mono g3)) (pu_var 11 rfl hv) ?_ hu)
        rw [look_of (inF_mem.mpr (List.mem_map_of_mem hp)), lookF_of S.R.nd hp]
        rfl
      case tst =>
        intro y _ v' G4 g4 hv' _ _ _ _ _
        exact puts_one (put_c (c_ninI (pu_var 12 rfl hv') (pu_var 8 rfl ((sw _ _ hv2).mono (g3.trans g4)))))
      case elt =>
        intro y _ _ v' G4 g4 hv' _ _ _ _ _
        exact pu_var 12 rfl hv'
    have F3 : DAt K G H l (frKd (behF1 fr kk)) G3 kvs3 (upd H3 l (.dK kvs3)) := DAt.new (s1.trans (s2.trans s3)) hd3 hl3
    have g3 := s2.g.trans s3.g
    have size : ∀ {fr' : Fr} {kvs : List (Key × V)} {a b : Nat} {G' : Hp}, Dks K G' kvs (frKd fr') → Few fr' a b → a ≤ 100 → kvs.length < sizeLine := fun h F ha => by
      have e := congrArg List.length h.keys
      unfold frKd at e
      rw [List.length_map, List.length_map, List.length_map] at e
      have := F.n
      refine Nat.lt_of_le_of_lt (m := 100) (by omega) (by decide)
    -- begins
    refine b_cons (s_ifJ (fun σ H' => ∃ (G4 : Hp) (kvs4 : List (Key × V)), σ = [some vo, some (.ref dl), some vj, some c0, some c1, some c2, some c3, some c4, some v2, some (.ref l), none, none, none] ∧ Same G3 G4 ∧ DAt K G H l (frKd (behF2 fr kk)) G4 kvs4 H') (put_c (c_notN kk.b.isNone (pu_var 5 rfl (e2.mono g3)) fun G' v' _ hv' => optN hv')) F3.st.s ?_ ?_ ?_)
    · intro hb G4 H4 s4 D' hD
      have F4 := F3.pure s4
      obtain ⟨z, hz⟩ : ∃ z, kk.b = some z := by
        cases e : kk.b with
        | none => rw [e] at hb; cases hb
        | some z => exact ⟨z, rfl⟩
      rw [hz] at e2
      obtain rfl := Da.int_inv e2
      refine b_one (s_asg (w_pu (d := .list (ofI [])) (pu_lst pua_nil) F4.st.s fun v5 G5 H5 s5 hv5 => ?_))
      have F5 := F4.pure s5
      refine g_subD hu (w_var 9 rfl (w_var 5 rfl ⟨l, _, rfl, DPut.k (k := .inl z) F5.hl (size F5.ds (few1 few) (by omega)), ?_⟩))
      refine hD _ _ ⟨G5, putK kvs3 (.inl z) v5, rfl, s4.g.trans s5.g, ?_⟩
      have e : behF2 fr kk = putA (behF1 fr kk) z [] := by
        unfold behF2
        rw [hz]
      rw [e, frKd_put]
      exact F5.put hv5
    · intro hb G4 H4 s4
      have hz : kk.b = none := by
        cases e : kk.b with
        | none => rfl
        | some z => rw [e] at hb; cases hb
      refine ⟨G4, kvs3, rfl, s4.g, ?_⟩
      have e : behF2 fr kk = behF1 fr kk := by
        unfold behF2
        rw [hz]
      rw [e]
      exact F3.pure s4
    rintro σ H4 ⟨G4, kvs4, rfl, g34, F4⟩
    -- gives
    refine b_cons (s_ifJ (fun σ H' => ∃ (G5 : Hp) (kvs5 : List (Key × V)), σ = [some vo, some (.ref dl), some vj, some c0, some c1, some c2, some c3, some c4, some v2, some (.ref l), none, none, none] ∧ Same G3 G5 ∧ DAt K G H l (frKd (behF3 fr kk)) G5 kvs5 H') (put_c (c_notN kk.g.isNone (pu_var 7 rfl (e4.mono (g3.trans g34))) fun G' v' _ hv' => optN hv')) F4.st.s ?_ ?_ ?_)
    · intro hb G5 H5 s5 D' hD
      have F5 := F4.pure s5
      obtain ⟨z, hz⟩ : ∃ z, kk.g = some z := by
        cases e : kk.g with
        | none => rw [e] at hb; cases hb
        | some z => exact ⟨z, rfl⟩
      rw [hz] at e4
      obtain rfl := Da.int_inv e4
      have hlast : (ofI kk.cs)[(ofI kk.cs).length - 1]? = some (.int (lastC kk)) := by
        unfold ofI lastC
        rw [List.length_map, List.getElem?_map]
        have : kk.cs[kk.cs.length - 1]? = some (kk.cs.getLastD 0) := by
          rw [← List.getLast?_eq_getElem?, List.getLastD_eq_getLast?]
          cases q : kk.cs with
          | nil => rw [q] at hc1; simp at hc1
          | cons a r => rw [List.getLast?_cons]; rfl
        rw [this]
        rfl
      have g15 := g3.trans (g34.trans s5.g)
      have look := (few2 (k := kk) few).look (x := lastC kk)
      refine b_one (s_asg (w_frz (ns := PySem.W.sortI (lookF (behF2 fr kk) (lastC kk) ++ [z])) F5.gl F5.hl F5.st.s F5.ds (fun G6 g6 hl6 => pu_sorted (Pu.to (pu_cat (pu_dget (.inl (lastC kk)) (pu_var 9 rfl hl6) (pu_ixLastT (pu_var 4 rfl (e1.mono (g15.trans g6))) (pu_neg pu_int) hlast) (look_of (inF_2 (isin _ (last_mem row)))) hu) (pu_lst (pua_cons (pu_var 7 rfl (.int z)) pua_nil)) ?szG) ?eqG) ?smG B.sorted) fun v6 G6 H6 s6 hv6 => ?_))
      case szG =>
        refine Nat.le_trans (m := 100) ?_ (by decide)
        simp only [ofI, List.length_map, List.length_cons, List.length_nil]
        omega
      case eqG => simp [ofI]
      case smG => rw [List.length_append]; simp only [List.length_cons, List.length_nil]; omega
      have F6 := F5.pure s6
      refine g_subD hu (w_var 9 rfl (w_pu (pu_ixLastT (pu_var 4 rfl (e1.mono (g15.trans s6.g))) (pu_neg pu_int) hlast) F6.st.s fun v7 G7 H7 s7 hv7 => ?_))
      obtain rfl := hv7.int_inv
      have F7 := F6.pure s7
      refine ⟨l, _, rfl, DPut.k (k := .inl (lastC kk)) F7.hl (size F7.ds (few2 few) (by omega)), ?_⟩
      refine hD _ _ ⟨G7, putK kvs4 (.inl (lastC kk)) v6, rfl, g34.trans (s5.g.trans (s6.g.trans s7.g)), ?_⟩
      have e : behF3 fr kk = putA (behF2 fr kk) (lastC kk) (PySem.W.sortI (lookF (behF2 fr kk) (lastC kk) ++ [z])) := by
        unfold behF3
        rw [hz]
      rw [e, frKd_put]
      exact F7.put (hv6.mono s7.g)
    · intro hb G5 H5 s5
      have hz : kk.g = none := by
        cases e : kk.g with
        | none => rfl
        | some z => rw [e] at hb; cases hb
      refine ⟨G5, kvs4, rfl, g34.trans s5.g, ?_⟩
      have e : behF3 fr kk = behF2 fr kk := by
        unfold behF3
        rw [hz]
      rw [e]
      exact F4.pure s5
    rintro σ H6 ⟨G6, kvs6, rfl, g36, F6⟩
    -- ends
    refine b_cons (s_ifJ (fun σ H' => ∃ (G7 : Hp) (kvs7 : List (Key × V)) (u10 : Option V), σ = [some vo, some (.ref dl), some vj, some c0, some c1, some c2, some c3, some c4, some v2, some (.ref l), u10, none, none] ∧ DAt K G H l (frKd (behF fr kk)) G7 kvs7 H') (put_c (c_notN kk.e.isNone (pu_var 6 rfl (e3.mono (g3.trans g36))) fun G' v' _ hv' => optN hv')) F6.st.s ?_ ?_ ?_)
    · intro hb G7 H7 s7 D' hD
      have F7 := F6.pure s7
      obtain ⟨z, hz⟩ : ∃ z, kk.e = some z := by
        cases e : kk.e with
        | none => rw [e] at hb; cases hb
        | some z => exact ⟨z, rfl⟩
      have hzr := row.re z hz
      rw [hz] at e3
      obtain rfl := Da.int_inv e3
      have g17 := g3.trans (g36.trans s7.g)
      have hh := heir_mem row hz
      have hheir : (((kk.cs.filter fun c => !decide (c = z)).map PyData.int))[(0 : Int).toNat]? = some (.int (heirC kk z)) := by
        unfold heirC
        cases q : kk.cs.filter fun c => !decide (c = z) with
        | nil =>
          have h3 : heirC kk z ∈ kk.cs.filter fun c => !decide (c = z) := List.mem_filter.mpr ⟨hh.1, by simp [hh.2]⟩
          rw [q] at h3
          cases h3
        | cons a r => rfl
      refine b_cons (s_set 10 scBeh.nd (w_pu (pu_ixL (pu_lc1 11 (cd := PyData.int) (ns := kk.cs) (src_tup (pu_var 4 rfl (e1.mono g17))) (fun c => .int c) (fun c => !decide (c = z)) scBeh.nd
        (fun n hn v G8 g8 hv _ _ _ _ _ => puts_one (put_c (c_neI (pu_var 11 rfl hv) (pu_var 6 rfl (.int z))))) (fun n hn _ v G8 g8 hv _ _ _ _ _ => pu_var 11 rfl hv) (by omega)) pu_int (by decide) hheir) F7.st.s fun v8 G8 H8 s8 hv8 => ?_))
      obtain rfl := hv8.int_inv
      have F8 := F7.pure s8
      have l1 := (few3 (k := kk) few).look (x := heirC kk z)
      have l2 := (few3 (k := kk) few).look (x := z)
      have i1 := inF_3 (k := kk) (isin _ hh.1)
      have i2 := inF_3 (k := kk) (isin _ hzr.1)
      have esort : behF fr kk = dropA (putA (behF3 fr kk) (heirC kk z) (PySem.W.sortI (lookF (behF3 fr kk) (heirC kk z) ++ lookF (behF3 fr kk) z ++ [z]))) z := by
        unfold behF
        rw [hz]
      generalize hL : PySem.W.sortI (lookF (behF3 fr kk) (heirC kk z) ++ lookF (behF3 fr kk) z ++ [z]) = L at esort
      refine b_cons (s_asg (w_frz (ns := L) F8.gl F8.hl F8.st.s F8.ds (fun G9 g9 hl9 => Pu.to (pu_sorted (ns := lookF (behF3 fr kk) (heirC kk z) ++ lookF (behF3 fr kk) z ++ [z]) (Pu.to (pu_cat (pu_cat (pu_dget (.inl (heirC kk z)) (pu_var 9 rfl hl9) (pu_var 10 rfl (.int _)) (look_of i1) hu) (pu_dget (.inl z) (pu_var 9 rfl hl9) (pu_var 6 rfl (.int _)) (look_of i2) hu) ?szE1) (pu_lst (pua_cons (pu_var 6 rfl (.int z)) pua_nil)) ?szE2) ?eqE) ?smE B.sorted) (by rw [hL])) fun v9 G9 H9 s9 hv9 => ?_))
      case szE1 =>
        refine Nat.le_trans (m := 100) ?_ (by decide)
        simp only [ofI, List.length_map, List.length_cons, List.length_nil]
        omega
      case szE2 =>
        refine Nat.le_trans (m := 100) ?_ (by decide)
        simp only [ofI, List.length_map, List.length_cons, List.length_nil, List.length_append]
        omega
      case eqE => simp [ofI]
      case smE => rw [List.length_append, List.length_append]; simp only [List.length_cons, List.length_nil]; omega
      have F9 := F8.pure s9
      refine g_subD hu (w_var 9 rfl (w_var 10 rfl ⟨l, _, rfl, DPut.k (k := .inl (heirC kk z)) F9.hl (size F9.ds (few3 few) (by omega)), ?_⟩))
      have F10 := F9.put (k := .inl (heirC kk z)) hv9
      rw [← frKd_put] at F10
      refine b_one (s_expr (w_dpop 9 rfl (.inl z) F10.hl (w_var 6 rfl ⟨F10.hl, rfl, ?_⟩) ⟨rfl, by rfl, rfl, rfl⟩))
      rcases F10.ds.get (.inl z) with ⟨v, d', q1, q2, _⟩ | ⟨_, q2⟩
      · refine ⟨v, q1, hD _ _ ⟨G9, dropK (putK kvs6 (.inl (heirC kk z)) v9) (.inl z), _, rfl, ?_⟩⟩
        rw [esort, frKd_drop]
        exact F10.drop
      · have := look_of (inF_put (y := heirC kk z) (l := L) i2)
        unfold lookD at this
        rw [q2] at this
        cases this
    · intro hb G7 H7 s7
      have hz : kk.e = none := by
        cases e : kk.e with
        | none => rfl
        | some z => rw [e] at hb; cases hb
      refine ⟨G7, kvs6, _, rfl, ?_⟩
      have e : behF fr kk = behF3 fr kk := by
        unfold behF
        rw [hz]
      rw [e]
      exact F6.pure s7
    rintro σ H8 ⟨G8, kvs8, u10, rfl, F8⟩
    refine b_one (s_ret (w_pu (pu_var 9 rfl F8.da) F8.fin.s fun v9 G9 H9 s9 hv9 => k v9 G9 H9 (F8.fin.trans s9) hv9))
end
end Mb

set_option Elab.async false
set_option linter.all false
set_option maxRecDepth 100000
set_option maxHeartbeats 4000000
namespace Mb
open PySem PySem.Spec PyProof.Rows L2 TL
/-! ### what the law asks and draws on its way -/
section
variable {X : Cx} {σ : L2.St} {G H : Hp} {a b c e : Expr} {p pos : Pos} {D : Ends} {s1 : List Stmt} {d : Dt} {ds : List Dt}
theorem pu_shl1 {j : Nat} (ha : Pu X a σ G (.int 1)) (hb : Pu X b σ G (.int j)) (hj : j ≤ 100000) : Pu X (.BinOp a .LShift b pos) σ G (.int (1 * 2 ^ (j : Int).toNat)) := pu_bin op_shlW ha hb (rv_I (shl_ok (n := 1) (by decide) (by omega)) (.int _))
theorem eT.mono {Q Q' : Bool → Hp → Prop} (h : eT X e σ H Q') (q : ∀ k H', Q' k H' → Q k H') : eT X e σ H Q := by
  obtain ⟨t, h1, h2⟩ := h
  refine ⟨fun σ H R => ∃ R' : Bool → Hp → Prop, t σ H R' ∧ ∀ k H', R' k H' → R k H', ⟨fun pins s σ H R I ⟨R', h3, h4⟩ => ?_⟩, Q', h2, q⟩
  exact thn (h1.run pins s σ H R' I h3) fun v s1 ⟨H', I', q'⟩ => ⟨H', I', h4 _ _ q'⟩
/-- an if that leaves when it holds -/
theorem s_ifR (J : L2.St → Hp → Prop) (q : eT X c σ H fun k H1 => if k = true then eB X s1 D σ H1 else J σ H1) (rest : ∀ σ' H', J σ' H' → D.nx σ' H') : eS X (.If c s1 [] pos) D σ H :=
  s_if (eT.mono q fun k H' h => by
    cases k with
    | true => exact h
    | false => exact b_nil (rest _ _ h))
end
section
variable {P : Program} {w : World} {K : PySem.W.Frag} {mg : Str → Option Value} {base : Heap}
abbrev HRefd (P w K mg base) := Has P w K mg base "_law_refused" 1 3 (spPure K 3 rRefd)
theorem scNext : FnScope ["own", "here", "kind"] ["own", "here"] (defScope t_law_next) := ⟨rfl, rfl, rfl, by decide +kernel, rfl, by decide +kernel, by decide +kernel⟩
def rNext : List Dt → Dt → Prop := fun ds d => ∃ o hs fr, ds = [ownD o, frDct fr] ∧ Std o hs fr ∧ d = .list (ofI (nextK o hs))
theorem has_next (T : Top1 K mg "_law_next" t_law_next ["own", "here"]) (B : Blt mg) (hF : HRefd P w K mg base) : Has P w K mg base "_law_next" 2 2 (spPure K 2 rNext) := by
  refine mkHas (k := 1) T scNext spPure_len fun f cdv A outer s H vs Q E hr h => ?_
  obtain ⟨G, ds, d, hm, g, hds, ⟨o, hs, fr, rfl, S, rfl⟩, k⟩ := h
  have hu := hu1 (hu64 hr)
  have h8 := S.ho.k8
  cases hds with
  | cons d0 hn =>
  cases hn with
  | cons d1 hn =>
    cases hn
    refine b_one (s_ret (w_pu (pu_lc1 2 (cd := PyData.int) (ns := rng o.kinds.length) ?src PyData.int (fun j => (refK hs (kAt o j)).isNone) scNext.nd ?tst (fun j _ _ v G2 g2 hv _ _ _ _ _ => pu_var 2 rfl hv) (by rw [rng_len]; omega)) g fun v G1 H1 s1 hv => k v G1 H1 s1 hv))
    case src =>
      rw [← rangeD_rng]
      exact src_range (n := o.kinds.length) (Pu.to (pu_lenL (pu_dget (.inr "kinds") (pu_var 0 rfl d0) pu_str (own_kinds o) hu) B.len) (by rw [List.length_map])) (by omega) (by omega) B.range
    case tst =>
      intro j hj v G2 g2 hv s0 H0 C cl fp
      obtain ⟨j0, j1⟩ := mem_rng.mp hj
      refine puts_one (put_c (c_isN (refK hs (kAt o j)).isNone (pu_call hF (j := 1) ?rm (by decide) (pua_cons (pu_var 0 rfl (d0.mono g2)) (pua_cons (pu_var 1 rfl (d1.mono g2)) (pua_cons (pu_var 2 rfl hv) pua_nil))) ⟨o, hs, fr, j, rfl, S, j0, j1, rfl⟩ rfl) fun G' v' _ hv' => refN hv'))
      case rm => exact hr
theorem scLot : FnScope ["own", "kind", "name", "comers", "begins", "ends", "gives"] ["own", "kind"] (defScope t_law_lot) := ⟨rfl, rfl, rfl, by decide +kernel, rfl, by decide +kernel, by decide +kernel⟩
def rLot : List Dt → Dt → Prop := fun ds d => ∃ o j, ds = [ownD o, .int j] ∧ OwnOk o ∧ 0 ≤ j ∧ j < o.kinds.length ∧ d = .list (ofI (lotK (kAt o j)))
theorem has_lot (T : Top1 K mg "_law_lot" t_law_lot ["own", "kind"]) (B : Blt mg) : Has P w K mg base "_law_lot" 1 2 (spPure K 2 rLot) := by
  refine mkHas (k := 0) T scLot spPure_len fun f cdv A outer s H vs Q E hr h => ?_
  obtain ⟨G, ds, d, hm, g, hds, ⟨o, j, rfl, ho, j0, j1, rfl⟩, k⟩ := h
  have hu := hu1 (hu64 hr)
  have row := (ho.kk _ (List.mem_of_getElem? (kAt_some j0 j1))).2
  have hc1 := row.rc.2
  generalize hkk : kAt o j = kk at row hc1 k
  cases hds with
  | cons d0 hn =>
  cases hn with
  | cons d1 hn =>
    cases hn
    refine b_cons (s_asg (w_pu (d := kdD kk) (pu_ixL (pu_dget (.inr "kinds") (pu_var 0 rfl d0) pu_str (own_kinds o) hu) (pu_var 1 rfl d1) j0 (by rw [← hkk]; exact own_kind j0 j1)) g fun v1 G1 H1 s1 hv1 => ?_))
    obtain ⟨t, ts, rfl, ht, hts⟩ := hv1.tup_inv
    cases hts with
    | cons e0 hts =>
    cases hts with
    | cons e1 hts =>
    cases hts with
    | cons e2 hts =>
    cases hts with
    | cons e3 hts =>
    cases hts with
    | cons e4 hts =>
    cases hts
    rename_i c0 c1 c2 c3 c4
    refine g_tup (SqT.same s1.s ht) rfl (gs_cons (g_name 2 scLot.nd (gs_cons (g_name 3 scLot.nd (gs_cons (g_name 4 scLot.nd (gs_cons (g_name 5 scLot.nd (gs_cons (g_name 6 scLot.nd (gs_nil ?_)))))))))))
    have bl : kk.b.toList.length ≤ 1 := by cases kk.b <;> simp
    refine b_one (s_ret (w_pu (pu_sorted (ns := kk.cs ++ kk.b.toList) (Pu.to (pu_cat (xs := ofI kk.cs) (ys := ofI kk.b.toList) (pu_listT (pu_var 3 rfl e1) B.list) (pu_if (k := !kk.b.isNone) (put_c (c_notN kk.b.isNone (pu_var 4 rfl e2) fun G' v' _ hv' => optN hv')) (fun h => ?yes) (fun h => ?no)) ?sz) ?eq) ?sm B.sorted) s1.s fun v G2 H2 s2 hv => k v G2 H2 (s1.trans s2) hv))
    case yes =>
      cases hb : kk.b with
      | none => rw [hb] at h; cases h
      | some z =>
        rw [hb] at e2
        exact Pu.to (pu_lst (ds := [optD (some z)]) (pua_cons (pu_var 4 rfl e2) pua_nil)) rfl
    case no =>
      cases hb : kk.b with
      | none => exact Pu.to (pu_lst (ds := []) pua_nil) rfl
      | some z => rw [hb] at h; cases h
    case sz =>
      refine Nat.le_trans (m := 100) ?_ (by decide)
      simp only [ofI, List.length_map]
      omega
    case eq => simp [ofI]
    case sm => rw [List.length_append]; omega
/-! draws -/
def preLoad : List Dt → Prop := fun ds => ∃ (way : Int) (n : Nat), ds = [.int way, .int n] ∧ n ≤ 900
def postLoad : List Dt → Dt → Prop := fun _ d => ∃ z : Int, d = .int z ∧ z.natAbs < 2 ^ 1000
theorem scLoad : FnScope ["pot", "way", "number"] ["pot", "way", "number"] (defScope t_law_load) := ⟨rfl, rfl, rfl, by decide +kernel, rfl, by decide +kernel, by decide +kernel⟩
theorem has_load (T : Top1 K mg "_law_load" t_law_load ["pot", "way", "number"]) (B : Blt mg) (hT : HTake P w K mg base) (hO : HOf P w K mg base) : Has P w K mg base "_law_load" 3 3 (spDraw K 2 2 preLoad postLoad) := by
  refine mkHas (k := 2) T scLoad spDraw_len fun f cdv A outer s H vs Q E hr h => ?_
  obtain ⟨a, ws, G, ds, c, rfl, hl, g, ga, hP, hc, hds, ⟨way, n, rfl, hn⟩, k⟩ := h
  cases hds with
  | cons d0 hds =>
  cases hds with
  | cons d1 hds =>
    cases hds
    obtain rfl := d0.int_inv
    obtain rfl := d1.int_inv
    have fin : ∀ (z : Int) G' H', z.natAbs < 2 ^ 1000 → Step [a] G H G' H' → PotAt H' a (c + 2) → Q (.int z) H' := fun z G' H' hz st hP' => k (.int z) _ G' H' ⟨z, rfl, hz⟩ st hP' (.int z)
    have small : ∀ z : Int, -(2 ^ 200) ≤ z → z ≤ 2 ^ 200 → z.natAbs < 2 ^ 1000 := fun z h1 h2 => Nat.lt_of_le_of_lt (m := 2 ^ 200) (by omega) (by decide +kernel)
    refine b_cons (s_ifR (fun σ' H' => ∃ G', σ' = [some (.ref a), some (.int way), some (.int n)] ∧ Step [] G H G' H') (t_pu (put_c (c_eqI (pu_var 1 rfl (.int way)) pu_int)) g fun G1 H1 s1 => ite2 (fun _ => b_one (s_ret (w_int (fin _ _ _ (by decide) s1.pure ((hP.step s1 (by simp)).up (by omega)))))) (fun _ => ⟨G1, rfl, s1⟩)) ?_)
    rintro σ H1 ⟨G1, rfl, s1⟩
    refine b_cons (s_ifR (fun σ' H' => ∃ G', σ' = [some (.ref a), some (.int way), some (.int n)] ∧ Step [] G H G' H') (t_pu (put_c (c_eqI (pu_var 1 rfl (.int way)) pu_int)) s1.s fun G2 H2 s2 => ite2 (fun _ => ?w1) (fun _ => ⟨G2, rfl, s1.trans s2⟩)) ?_)
    case w1 =>
      have st := s1.trans s2
      have hP2 := hP.step st (by simp)
      refine b_one (s_ret (w_bin op_sub (w_take hT hr (by decide) 0 rfl (u := 7) pu_int st.s (st.out ga hP.some.choose_spec) st.s (st.out ga hP.some.choose_spec) hP2 (by omega) (by decide) (by decide) fun r H3 r0 r1 s3 hP3 => w_int ⟨r, 3, rfl, rfl, fin _ _ _ (small _ (by omega) (by omega)) (st.pure.trans s3) (hP3.up (by omega))⟩)))
    rintro σ H2 ⟨G2, rfl, s2⟩
    refine b_cons (s_ifR (fun σ' H' => ∃ G', σ' = [some (.ref a), some (.int way), some (.int n)] ∧ Step [] G H G' H') (t_pu (put_c (c_eqI (pu_var 1 rfl (.int way)) pu_int)) s2.s fun G3 H3 s3 => ite2 (fun _ => ?w2) (fun _ => ⟨G3, rfl, s2.trans s3⟩)) ?_)
    case w2 =>
      have st := s2.trans s3
      refine b_one (s_ret (w_pu (pu_shl1 (j := n) pu_int (pu_var 2 rfl (.int n)) (by omega)) st.s fun v G4 H4 s4 hv => ?_))
      rw [hv.int_inv]
      refine fin _ _ _ ?_ (st.trans s4).pure ((hP.step (st.trans s4) (by simp)).up (by omega))
      rw [Int.one_mul, Int.toNat_natCast, Int.natAbs_pow]
      exact Nat.pow_lt_pow_right (by decide) (by omega)
    rintro σ H3 ⟨G3, rfl, s3⟩
    refine b_cons (s_ifR (fun σ' H' => ∃ G', σ' = [some (.ref a), some (.int way), some (.int n)] ∧ Step [] G H G' H') (t_pu (put_c (c_eqI (pu_var 1 rfl (.int way)) pu_int)) s3.s fun G4 H4 s4 => ite2 (fun _ => ?w3) (fun _ => ⟨G4, rfl, s3.trans s4⟩)) ?_)
    case w3 =>
      have st := s3.trans s4
      have hP4 := hP.step st (by simp)
      have g4 := st.out ga hP.some.choose_spec
      have p9 : (10 : Int) ^ ((9 : Int).toNat) = 1000000000 := by decide
      have p8 : (10 : Int) ^ ((8 : Int).toNat) = 100000000 := by decide
      refine b_one (s_ret (w_bin op_add (w_bin op_mulW (w_bin op_sub (w_take hT hr (by decide) 0 rfl (u := (10 : Int) ^ ((9 : Int).toNat)) (pu_powW pu_int pu_int (by unfold CPowW; decide +kernel)) st.s g4 st.s g4 hP4 (by omega) (by decide) (by decide) fun r H5 r0 r1 s5 hP5 => ?_)))))
      refine w_pu (pu_mul pu_int (pu_powW pu_int pu_int (by unfold CPowW; decide +kernel)) (by unfold CMulW; decide +kernel)) s5.s fun v6 G6 H6 s6 hv6 => ?_
      obtain rfl := hv6.int_inv
      refine ⟨r, _, rfl, rfl, w_pu (pu_powW pu_int pu_int (by unfold CPowW; decide +kernel)) s6.s fun v7 G7 H7 s7 hv7 => ?_⟩
      obtain rfl := hv7.int_inv
      rw [p9] at r1
      refine ⟨_, _, rfl, rfl, wide_mul (a := 62) (b := 100) (by rw [p8]; omega) (by decide) (by decide) (by decide) (by decide), ?_⟩
      have st7 : Step [a] G H G7 H7 := st.pure.trans (s5.trans (s6.trans s7).pure)
      have hP7 := hP5.step (s6.trans s7) (by simp)
      have g7 := st7.out ga hP.some.choose_spec
      refine w_take hT hr (by decide) 0 rfl (u := (10 : Int) ^ ((9 : Int).toNat)) (pu_powW pu_int pu_int (by unfold CPowW; decide +kernel)) st7.s g7 st7.s g7 hP7 (by omega) (by decide) (by decide) fun r8 H8 r80 r81 s8 hP8 => ?_
      have p21 : (10 : Int) ^ ((21 : Int).toNat) = 1000000000000000000000 := by decide
      rw [p9] at r81
      exact ⟨_, _, rfl, rfl, fin _ _ _ (small _ (by rw [p8, p21]; omega) (by rw [p8, p21]; omega)) (st7.trans s8) (hP8.up (by omega))⟩
    rintro σ H4 ⟨G4, rfl, s4⟩
    refine b_one (s_ret (w_draw hO hr (by decide) 0 rfl (pua_cons (pu_lst (ds := ofI [0, 0, 1, -1, 2, 5, (10 : Int) ^ ((9 : Int).toNat), -((10 : Int) ^ ((30 : Int).toNat))]) (pua_cons pu_int (pua_cons pu_int (pua_cons pu_int (pua_cons (pu_neg pu_int) (pua_cons pu_int (pua_cons pu_int (pua_cons (pu_powW pu_int pu_int (by unfold CPowW; decide +kernel)) (pua_cons (pu_neg (pu_powW pu_int pu_int (by unfold CPowW; decide +kernel))) pua_nil)))))))) (by decide)) pua_nil)
      s4.s (s4.out ga hP.some.choose_spec) (hP.step s4 (by simp)) (by omega) (.inl ⟨_, rfl, by decide, by decide⟩) fun d v G5 H5 hp s5 hP5 hv => ?_))
    obtain ⟨y, hy, rfl⟩ := of_invI hp
    rw [hv.int_inv]
    refine fin y G5 H5 ?_ (s4.pure.trans s5) (hP5.up (by omega))
    simp only [List.mem_cons, List.not_mem_nil, or_false] at hy
    rcases hy with rfl | rfl | rfl | rfl | rfl | rfl | rfl | rfl <;> decide +kernel
end
end Mb

set_option Elab.async false
set_option linter.all false
set_option maxRecDepth 100000
set_option maxHeartbeats 4000000
namespace Mb
open PySem PySem.Spec PyProof.Rows L2 TL
/-! ### the law's weavings -/
section
variable {X : Cx} {σ : L2.St} {G H : Hp} {a b c e : Expr} {p pos : Pos} {D : Ends} {st : Stmt}
theorem s_par3 (i j l : Nat) {x y z : Str} {px py pz pt : Pos} {kt k2 : Nat} {pt2 : Pos} (hN : X.N.Nodup) (q : eA X [a, b, c] σ H fun vs H1 => ∃ u v w, vs = [u, v, w] ∧ D.nx (((σ.set i (some u)).set j (some v)).set l (some w)) H1) (hc : X.calm = true := by rfl)
    (hi : X.N[i]? = some x := by rfl) (hj : X.N[j]? = some y := by rfl) (hl : X.N[l]? = some z := by rfl) (hij : i ≠ j := by decide) (hil : i ≠ l := by decide) (hjl : j ≠ l := by decide) (hx : X.env.scope.names.lookup x = some .local := by rfl) (hy : X.env.scope.names.lookup y = some .local := by rfl) (hz : X.env.scope.names.lookup z = some .local := by rfl)
    (hw : swappedStores [.Tuple [.Name x px, .Name y py, .Name z pz] kt pt] (.Tuple [a, b, c] k2 pt2) X.env = pure (some [x, y, z]) := by rfl)
    (hs : swapsWithSole [.Tuple [.Name x px, .Name y py, .Name z pz] kt pt] (.Tuple [a, b, c] k2 pt2) pos.line X.env = pure false := by rfl) : eS X (.Assign [.Tuple [.Name x px, .Name y py, .Name z pz] kt pt] (.Tuple [a, b, c] k2 pt2) pos) D σ H :=
  ⟨_, ps_par3 hc hN hi hj hl hij hil hjl hx hy hz pa_e hw hs, q⟩
theorem s_J (J : L2.St → Hp → Prop) (st' : (∀ σ' H', J σ' H' → D.nx σ' H') → eS X st D σ H) (rest : ∀ σ' H', J σ' H' → D.nx σ' H') : eS X st D σ H := st' rest
end
theorem wv_nil {o : Own} {hs : List Int} : WvOk o hs [] := ⟨Nat.zero_le _, fun i p h => by simp at h⟩
theorem wv_snoc {o : Own} {hs : List Int} {ws : Wv} {p : Int × Int} (h : WvOk o hs ws) (h0 : 0 ≤ p.1) (h1 : p.1 < o.kinds.length) (hr : refK (runW o hs ws) (kAt o p.1) = none) (hl : ws.length < 1000) : WvOk o hs (ws ++ [p]) := by
  refine ⟨by rw [List.length_append, List.length_singleton]; omega, fun i q hq => ?_⟩
  rcases Nat.lt_or_ge i ws.length with hi | hi
  · rw [List.getElem?_append_left hi] at hq
    rw [List.take_append_of_le_length (by omega)]
    exact h.ok i q hq
  · rw [List.getElem?_append_right hi] at hq
    have hi0 : i = ws.length := by
      have := (List.getElem?_eq_some_iff.mp hq).1
      rw [List.length_singleton] at this
      omega
    subst hi0
    rw [Nat.sub_self] at hq
    obtain rfl := Option.some.inj hq
    rw [List.take_left]
    exact ⟨h0, h1, hr⟩
theorem mem_nextK {o : Own} {hs : List Int} {j : Int} (h : j ∈ nextK o hs) : 0 ≤ j ∧ j < o.kinds.length ∧ refK hs (kAt o j) = none := by
  unfold nextK at h
  obtain ⟨h1, h2⟩ := List.mem_filter.mp h
  obtain ⟨h3, h4⟩ := mem_rng.mp h1
  exact ⟨h3, h4, by simpa using h2⟩
theorem std_step {o : Own} {hs : List Int} {fr : Fr} (S : Std o hs fr) {j : Int} (h0 : 0 ≤ j) (h1 : j < o.kinds.length) (hr : refK hs (kAt o j) = none) : Std o (behK hs (kAt o j)) (behF fr (kAt o j)) :=
  let ⟨a, b⟩ := behind_rel S.H S.R (S.row h0 h1) hr
  ⟨S.ho, a, b⟩
theorem std_own {o : Own} (ho : OwnOk o) : Std o (holdI o) (frO o) := ⟨ho, hs_own ho, rel_own ho⟩
theorem eqv_nil (ks : List Int) : PyData.eqv (.list (ofI ks)) (.list []) = ks.isEmpty := by cases ks <;> rfl
section
variable {P : Program} {w : World} {K : PySem.W.Frag} {mg : Str → Option Value} {base : Heap}
abbrev HNext (P w K mg base) := Has P w K mg base "_law_next" 2 2 (spPure K 2 rNext)
abbrev HLLot (P w K mg base) := Has P w K mg base "_law_lot" 1 2 (spPure K 2 rLot)
abbrev HLoad (P w K mg base) := Has P w K mg base "_law_load" 3 3 (spDraw K 2 2 preLoad postLoad)
abbrev HBeh (P w K mg base) := Has P w K mg base "_law_behind" 1 3 (spPure K 3 rBeh)
abbrev HFirst (P w K mg base) := Has P w K mg base "_law_first" 1 1 (spPure K 1 rFirst)
def prePicked : List Dt → Prop := fun ds => ∃ (ks : List Int) (LS : List (List Int)) (m n s : Int), ds = [.list (ofI ks), .list (LS.map fun l => .list (ofI l)), .int m, .int n, .int s] ∧ 1 ≤ ks.length ∧ ks.length ≤ 8 ∧ ∀ j ∈ ks, 0 ≤ j ∧ j < LS.length
def postPicked : List Dt → Dt → Prop := fun ds d => ∃ (xs : List Dt) (r : List Dt), ds = .list xs :: r ∧ d ∈ xs
abbrev HPicked (P w K mg base) := Has P w K mg base "_law_picked" 3 6 (spDraw K 4 5 prePicked postPicked)
theorem scPicked : FnScope ["pot", "some", "lots", "manner", "number", "silent", "quiet", "kind"] ["pot", "some", "lots", "manner", "number", "silent"] (defScope t_law_picked) := ⟨rfl, rfl, rfl, by decide +kernel, rfl, by decide +kernel, by decide +kernel⟩
theorem has_picked (T : Top1 K mg "_law_picked" t_law_picked ["pot", "some", "lots", "manner", "number", "silent"]) (B : Blt mg) (hT : HTake P w K mg base) (hO : HOf P w K mg base) : HPicked P w K mg base := by
  refine mkHas (k := 2) T scPicked spDraw_len fun f cdv A outer s H vs Q E hr h => ?_
  obtain ⟨a, ws, G, ds, c, rfl, hl, g, ga, hP, hc, hds, ⟨ks, LS, m, n, si, rfl, k1, k8, kl⟩, k⟩ := h
  have hu := hu64 hr
  have hoa := hP.some.choose_spec
  cases hds with
  | cons d0 hds =>
  cases hds with
  | cons d1 hds =>
  cases hds with
  | cons d2 hds =>
  cases hds with
  | cons d3 hds =>
  cases hds with
  | cons d4 hds =>
    cases hds
    obtain rfl := d2.int_inv
    obtain rfl := d3.int_inv
    obtain rfl := d4.int_inv
    rename_i vk vl
    have fin : ∀ (z : Int) G' H', z ∈ ks → Step [a] G H G' H' → PotAt H' a (c + 4) → Q (.int z) H' := fun z G' H' hz st hP' => k (.int z) _ G' H' ⟨ofI ks, _, rfl, List.mem_map_of_mem hz⟩ st hP' (.int z)
    let qt : Int → Bool := fun j => !decide (si ∈ (LS[j.toNat]?).getD [])
    refine b_cons (s_setP 6 7 (lc1 7 (cd := PyData.int) (ns := ks) (src_list (pu_var 1 rfl d0)) PyData.int qt scPicked.nd ?tst (fun j _ _ v G2 g2 hv _ _ _ _ _ => pu_var 7 rfl hv) (by omega)) g scPicked.nd fun v6 G1 H1 s1 hv6 => ?_)
    case tst =>
      intro j hj v G2 g2 hv s0 H0 C cl fp
      refine puts_one (put_c (c_ninI (pu_var 5 rfl (.int si)) (pu_ixL (pu_var 2 rfl (d1.mono g2)) (pu_var 7 rfl hv) (kl j hj).1 ?_)))
      have := kl j hj
      rw [List.getElem?_map, List.getElem?_eq_getElem (by omega)]
      rfl
    have ev : (ks.filter qt).map PyData.int = ofI (ks.filter qt) := rfl
    rw [ev] at hv6
    have st1 : Step [a] G H G1 H1 := s1.pure
    have hP1 := hP.step s1 (by simp)
    -- quiet ones
    refine b_cons (s_ifR (fun σ' H' => ∃ G', σ' = [some (.ref a), some vk, some vl, some (.int m), some (.int n), some (.int si), some v6, none] ∧ Same G1 G' ∧ Step [a] G H G' H' ∧ PotAt H' a (c + 1)) (t_w (t_and (t_pu (put_c (c_eqI (pu_var 3 rfl (.int m)) pu_int)) s1.s fun G2 H2 s2 => ite2 (fun _ => ?a1) (fun _ => iteF ⟨G2, rfl, s2.g, st1.trans s2.pure, (hP1.step s2 (by simp)).up (by omega)⟩)))) ?_)
    case a1 =>
      refine t_and (t_pu (put_c (PuC.to (c_neD (pu_var 6 rfl (hv6.mono s2.g)) (pu_lst pua_nil) (nod_ints _) rfl (shaped_ints _) (by decide +kernel) hu) (by rw [eqv_nil]))) s2.s fun G3 H3 s3 => ite2 (fun hq => ?_) (fun _ => iteF ⟨G3, rfl, s2.g.trans s3.g, (st1.trans s2.pure).trans s3.pure, ((hP1.step s2 (by simp)).step s3 (by simp)).up (by omega)⟩))
      have st3 := (st1.trans s2.pure).trans s3.pure
      have hP3 := (hP1.step s2 (by simp)).step s3 (by simp)
      have ga3 := st3.out ga hoa
      refine t_and1 (t_cmp op_gt (w_take hT hr (by decide) 0 rfl (u := 24) pu_int st3.s ga3 st3.s ga3 hP3 (by omega) (by decide) (by decide) fun r H4 r0 r1 s4 hP4 => w_int ⟨r, 0, rfl, rfl, _, rfl, ite2 (fun _ => ?_) (fun _ => ⟨G3, rfl, s2.g.trans s3.g, st3.trans s4, hP4⟩)⟩))
      have st4 := st3.trans s4
      have hlen : (ks.filter qt).length ≤ 8 := Nat.le_trans (List.length_filter_le _ _) k8
      have hpos : 0 < (ks.filter qt).length := by
        cases e : ks.filter qt with
        | nil => rw [e] at hq; cases hq
        | cons x r => simp
      refine b_one (s_ret (w_draw hO hr (by decide) 0 rfl (pua_cons (pu_var 6 rfl (hv6.mono (s2.g.trans s3.g))) pua_nil) st4.s (st4.out ga hoa) hP4 (by omega) (.inl ⟨_, rfl, by simpa [ofI] using hpos, by simp [ofI]; omega⟩) fun d v G5 H5 hp s5 hP5 hv => ?_))
      obtain ⟨y, hy, rfl⟩ := of_invI hp
      rw [hv.int_inv]
      exact fin y G5 H5 (List.mem_filter.mp hy).1 (st4.trans s5) (hP5.up (by omega))
    rintro σ H2 ⟨G2, rfl, g12, st2, hP2⟩
    -- one after another
    refine b_cons (s_ifR (fun σ' H' => ∃ G', σ' = [some (.ref a), some vk, some vl, some (.int m), some (.int n), some (.int si), some v6, none] ∧ Same G1 G' ∧ Step [a] G H G' H' ∧ PotAt H' a (c + 2)) (t_w (t_and (t_pu (put_c (c_eqI (pu_var 3 rfl (.int m)) pu_int)) st2.s fun G3 H3 s3 => ite2 (fun _ => ?a2) (fun _ => iteF ⟨G3, rfl, g12.trans s3.g, st2.trans s3.pure, (hP2.step s3 (by simp)).up (by omega)⟩)))) ?_)
    case a2 =>
      have st3 := st2.trans s3.pure
      have hP3 := hP2.step s3 (by simp)
      have ga3 := st3.out ga hoa
      refine t_and1 (t_cmp op_gt (w_take hT hr (by decide) 0 rfl (u := 8) pu_int st3.s ga3 st3.s ga3 hP3 (by omega) (by decide) (by decide) fun r H4 r0 r1 s4 hP4 => w_int ⟨r, 0, rfl, rfl, _, rfl, ite2 (fun _ => ?_) (fun _ => ⟨G3, rfl, g12.trans s3.g, st3.trans s4, hP4⟩)⟩))
      have st4 := st3.trans s4
      have hpos : (0 : Int) < (ofI ks).length := by simp [ofI]; omega
      have h0 := Int.emod_nonneg n (Int.ne_of_gt hpos)
      have h1 := Int.emod_lt_of_pos n hpos
      have hlk : (ofI ks).length = ks.length := by simp [ofI]
      have hlt : (n % ((ofI ks).length : Int)).toNat < ks.length := by omega
      have d04 := d0.mono (s1.g.trans (g12.trans s3.g))
      refine b_one (s_ret (w_pu (pu_ixL (d := .int ks[(n % ((ofI ks).length : Int)).toNat]) (pu_var 1 rfl d04) (pu_mod (pu_intI (pu_var 4 rfl (.int n)) B.int) (pu_lenL (pu_var 1 rfl d04) B.len) hpos) h0 (by unfold ofI; rw [List.getElem?_map]; rw [List.getElem?_eq_getElem (by simpa [ofI] using hlt)]; rfl)) st4.s fun v G5 H5 s5 hv => ?_))
      rw [hv.int_inv]
      exact fin _ G5 H5 (List.getElem_mem _) (st4.trans s5.pure) ((hP4.step s5 (by simp)).up (by omega))
    rintro σ H3 ⟨G3, rfl, g13, st3, hP3⟩
    -- the last one
    refine b_cons (s_ifR (fun σ' H' => ∃ G', σ' = [some (.ref a), some vk, some vl, some (.int m), some (.int n), some (.int si), some v6, none] ∧ Same G1 G' ∧ Step [a] G H G' H' ∧ PotAt H' a (c + 3)) (t_w (t_and (t_pu (put_c (c_eqI (pu_var 3 rfl (.int m)) pu_int)) st3.s fun G4 H4 s4 => ite2 (fun _ => ?a3) (fun _ => iteF ⟨G4, rfl, g13.trans s4.g, st3.trans s4.pure, (hP3.step s4 (by simp)).up (by omega)⟩)))) ?_)
    case a3 =>
      have st4 := st3.trans s4.pure
      have hP4 := hP3.step s4 (by simp)
      have ga4 := st4.out ga hoa
      refine t_and1 (t_cmp op_gt (w_take hT hr (by decide) 0 rfl (u := 3) pu_int st4.s ga4 st4.s ga4 hP4 (by omega) (by decide) (by decide) fun r H5 r0 r1 s5 hP5 => w_int ⟨r, 0, rfl, rfl, _, rfl, ite2 (fun _ => ?_) (fun _ => ⟨G4, rfl, g13.trans s4.g, st4.trans s5, hP5⟩)⟩))
      have st5 := st4.trans s5
      have hlt : ks.length - 1 < ks.length := by omega
      refine b_one (s_ret (w_pu (pu_ixLast (d := .int ks[ks.length - 1]) (pu_var 1 rfl (d0.mono (s1.g.trans (g13.trans s4.g)))) (pu_neg pu_int) (by unfold ofI; rw [List.length_map, List.getElem?_map, List.getElem?_eq_getElem hlt]; rfl)) st5.s fun v G6 H6 s6 hv => ?_))
      rw [hv.int_inv]
      exact fin _ G6 H6 (List.getElem_mem _) (st5.trans s6.pure) ((hP5.step s6 (by simp)).up (by omega))
    rintro σ H4 ⟨G4, rfl, g14, st4, hP4⟩
    refine b_one (s_ret (w_draw hO hr (by decide) 0 rfl (pua_cons (pu_var 1 rfl (d0.mono (s1.g.trans g14))) pua_nil) st4.s (st4.out ga hoa) hP4 (by omega) (.inl ⟨_, rfl, by simp [ofI]; omega, by simp [ofI]; omega⟩) fun d v G5 H5 hp s5 hP5 hv => ?_))
    obtain ⟨y, hy, rfl⟩ := of_invI hp
    rw [hv.int_inv]
    exact fin y G5 H5 hy (st4.trans s5) (hP5.up (by omega))
end
end Mb

set_option Elab.async false
set_option linter.all false
set_option maxRecDepth 100000
set_option maxHeartbeats 4000000
set_option exponentiation.threshold 2000
namespace Mb
open PySem PySem.Spec PyProof.Rows L2 TL
section
variable {P : Program} {w : World} {K : PySem.W.Frag} {mg : Str → Option Value} {base : Heap}
def spWv (K : PySem.W.Frag) : Sp := fun vs H Q _ => ∃ (a : Addr) (v1 : V) (G : Hp) (o : Own) (c many : Nat), vs = [.ref a, v1, .int many] ∧ Same G H ∧ G a = none ∧ PotAt H a c ∧ c + 5000 ≤ 1000000 ∧ Da K G v1 (ownD o) ∧ OwnOk o ∧ many ≤ 400 ∧
  ∀ ws v G' H', WvOk o (holdI o) ws → ws.length ≤ 400 → (∀ p ∈ ws, p.2.natAbs < 2 ^ 1000) → Step [a] G H G' H' → PotAt H' a (c + 5000) → Da K G' v (.tuple (ws.map meD)) → Q v H'
theorem spWv_len : ∀ vs H Q E, spWv K vs H Q E → vs.length = 3 := fun vs H Q E ⟨_, _, _, _, _, _, h, _⟩ => by rw [h]; rfl
abbrev HWv (P w K mg base) := Has P w K mg base "_law_weaving" 4 3 (spWv K)
theorem scWv : FnScope ["pot", "own", "many", "here", "weaving", "way", "kind", "lots", "manner", "silent", "number", "some"] ["pot", "own", "many"] (defScope t_law_weaving) := ⟨rfl, rfl, rfl, by decide +kernel, rfl, by decide +kernel, by decide +kernel⟩
theorem has_wv (T : Top1 K mg "_law_weaving" t_law_weaving ["pot", "own", "many"]) (B : Blt mg) (hT : HTake P w K mg base) (hPk : HPicked P w K mg base) (hLd : HLoad P w K mg base) (hLt : HLLot P w K mg base) (hN : HNext P w K mg base) (hBh : HBeh P w K mg base) (hF : Has P w K mg base "_law_first" 1 1 (spPure K 1 rFirst)) : HWv P w K mg base := by
  refine mkHas (k := 3) T scWv spWv_len fun f cdv A outer s H vs Q E hr h => ?_
  obtain ⟨a, v1, G, o, c, many, rfl, g, ga, hP, hc, d1, ho, hmany, k⟩ := h
  have hu := hu64 hr
  have hu1' := hu1 hu
  obtain ⟨oa, hoa⟩ := hP.some
  have h5 := ho.m5
  have h8 := ho.k8
  have n1 := ho.m2
  refine b_cons (s_par3 3 4 5 scWv.nd (a_cons (w_pu (pu_call hF hr (by decide) (pua_cons (pu_var 1 rfl d1) pua_nil) ⟨o, rfl, ho, rfl⟩ rfl) g fun v3 G1 H1 s1 hv3 => a_cons (w_emptyM fun l hl => a_cons ?tk))))
  case tk =>
    have F1 : LAt K G H a c l [] G1 [] (upd H1 l (.lst [])) := LAt.new (oa := .lst []) s1.pure (hP.step s1 (by simp)) hl
    refine w_take hT hr (by decide) 0 rfl (u := 5) pu_int F1.st.s (F1.st.out ga hoa) F1.st.s (F1.st.out ga hoa) F1.pot (by omega) (by decide) (by decide) fun way H2 w0 w1 s2 hP2 => a_nil ⟨_, _, _, rfl, ?_⟩
    have F2 := F1.step s2 hP2 _ hoa
    have dd1 := d1.mono s1.g
    -- lots
    refine b_cons (s_setP 7 6 (lc1 6 (cd := PyData.int) (ns := rng o.kinds.length) ?src (fun j => .list (ofI (lotK (kAt o j)))) (fun _ => true) scWv.nd (fun _ _ _ _ _ _ _ _ _ _ _ => puts_nil) ?elt (by rw [rng_len]; omega)) F2.st.s scWv.nd fun v7 G3 H3 s3 hv7 => ?_)
    case src =>
      rw [← rangeD_rng]
      exact src_range (n := o.kinds.length) (Pu.to (pu_lenL (pu_dget (.inr "kinds") (pu_var 1 rfl dd1) pu_str (own_kinds o) hu1') B.len) (by rw [List.length_map])) (by omega) (by omega) B.range
    case elt =>
      intro j hj _ v G2 g2 hv s0 H0 C cl fp
      obtain ⟨j0, j1⟩ := mem_rng.mp hj
      refine pu_call hLt (j := 3) hr (by decide) (pua_cons (pu_var 1 rfl (dd1.mono g2)) (pua_cons (pu_var 6 rfl hv) pua_nil)) ⟨o, j, rfl, ho, j0, j1, rfl⟩ rfl
    have F3 := F2.pure s3 _ hoa
    generalize hLS : (rng o.kinds.length).map (fun j => lotK (kAt o j)) = LS
    have eLS : ((rng o.kinds.length).filter fun _ => true).map (fun j => (PyData.list (ofI (lotK (kAt o j))))) = LS.map fun l => .list (ofI l) := by
      rw [filter_tt, ← hLS, List.map_map]
      rfl
    rw [eLS] at hv7
    have lLS : LS.length = o.kinds.length := by rw [← hLS, List.length_map, rng_len]
    have dd3 := dd1.mono s3.g
    -- manner, silent
    refine b_cons (s_par 8 9 scWv.nd (a_cons (w_take hT hr (by decide) 0 rfl (u := 4) pu_int F3.st.s (F3.st.out ga hoa) F3.st.s (F3.st.out ga hoa) F3.pot (by omega) (by decide) (by decide) fun mn H4 m0 m1 s4 hP4 => a_cons (w_take hT hr (by decide) 0 rfl (u := o.names.length) (Pu.to (pu_lenL (pu_dget (.inr "names") (pu_var 1 rfl dd3) pu_str (own_names o) hu1') B.len) (by simp [ofS])) s4.s ((F3.step s4 hP4 _ hoa).st.out ga hoa) s4.s ((F3.step s4 hP4 _ hoa).st.out ga hoa) hP4 (by omega) (by omega) (by omega) fun si H5 i0 i1 s5 hP5 => a_nil ⟨_, _, rfl, ?_⟩))))
    have F5 := (F3.step s4 hP4 _ hoa).step s5 hP5 _ hoa
    let J : Hp → Nat → L2.St → Hp → Prop := fun Gx i σ H' => ∃ (G9 : Hp) (ws : Wv) (fr : Fr) (vs : List V) (vh : V) (u6 u10 u11 : Option V) (mn si : Int), σ = [some (.ref a), some v1, some (.int many), some vh, some (.ref l), some (.int way), u6, some v7, some (.int mn), some (.int si), u10, u11] ∧ Same Gx G9 ∧ LAt K G H a (c + 10 + i * 8) l (ws.map meD) G9 vs H' ∧
      Da K G9 vh (frDct fr) ∧ Std o (runW o (holdI o) ws) fr ∧ WvOk o (holdI o) ws ∧ ws.length ≤ i ∧ i ≤ 400 ∧ ∀ p ∈ ws, p.2.natAbs < 2 ^ 1000
    refine b_cons (s_J (fun σ H' => ∃ Gx i, J Gx i σ H') (fun hJ => ?loop) ?_)
    case loop =>
      refine s_forD (ds := rangeD 0 many) (src_range (n := many) (pu_var 2 rfl (.int _)) (by omega) (by omega) B.range) F5.st.s fun G6 H6 s6 => ⟨fun i σ H' => J G6 i σ H', ?_, ?_, ?_, ?_⟩
      · have F6 := F5.pure s6 _ hoa
        exact ⟨G6, [], frO o, [], v3, _, _, _, mn, si, rfl, Same.refl _, F6.up (by omega), hv3.mono (s3.g.trans s6.g), std_own ho, wv_nil, Nat.le_refl _, Nat.zero_le _, by simp⟩
      · rintro i σ H' ⟨G9, ws, fr, vs, vh, u6, u10, u11, mn, si, rfl, sg, F9, _⟩
        exact sg.trans F9.st.s
      · rintro i d x σ H' H9 hi ⟨G9, ws, fr, vs, vh, u6, u10, u11, mn, si, rfl, sg, F9, dh, S, hws, hl9, hi9, hld⟩ hw
        obtain ⟨him, rfl⟩ := rangeD_get hi
        obtain ⟨G10, s10, hx10⟩ := hw G9 sg F9.st.s
        rw [Int.zero_add] at hx10
        obtain rfl := hx10.int_inv
        have F10 := F9.pure s10 _ hoa
        have g610 := sg.trans s10.g
        have g10 := s6.g.trans g610
        refine g_name 10 scWv.nd ?_
        -- what can be next
        refine b_cons (s_set 11 scWv.nd (w_pu (pu_call hN hr (by decide) (pua_cons (pu_var 1 rfl (dd3.mono g10)) (pua_cons (pu_var 3 rfl (dh.mono s10.g)) pua_nil)) ⟨o, _, fr, rfl, S, rfl⟩ rfl) F10.st.s fun v11 G11 H11 s11 hv11 => ?_))
        have F11 := F10.pure s11 _ hoa
        refine b_cons (s_if (t_pu (put_c (PuC.to (c_eqD (pu_var 11 rfl hv11) (pu_lst pua_nil) (nod_ints _) rfl (shaped_ints _) (by decide +kernel) hu) (eqv_nil _))) F11.st.s fun G12 H12 s12 => ite2 (fun _ => b_one (s_break (hJ _ _ ⟨G6, i, G12, ws, fr, vs, vh, _, _, _, mn, si, rfl, g610.trans (s11.g.trans s12.g), F11.pure s12 _ hoa, dh.mono (s10.g.trans (s11.g.trans s12.g)), S, hws, hl9, hi9, hld⟩))) (fun hne => b_nil ?_)))
        have F12 := F11.pure s12 _ hoa
        have g612 := g610.trans (s11.g.trans s12.g)
        -- every sixteenth
        refine b_cons (s_J (fun σ H' => ∃ (G13 : Hp) (mn si : Int), σ = [some (.ref a), some v1, some (.int many), some vh, some (.ref l), some (.int way), u6, some v7, some (.int mn), some (.int si), some (.int i), some v11] ∧ Same G12 G13 ∧ LAt K G H a (c + 10 + i * 8 + 2) l (ws.map meD) G13 vs H') (fun hJ2 => ?six) ?_)
        case six =>
          refine s_if (t_pu (put_c (c_eqI (pu_mod (pu_intI (pu_var 10 rfl (.int _)) B.int) pu_int (by decide)) pu_int)) F12.st.s fun G13 H13 s13 => ite2 (fun _ => b_one ?yes) (fun _ => b_nil (hJ2 _ _ ⟨G13, mn, si, rfl, s13.g, (F12.pure s13 _ hoa).up (by omega)⟩)))
          have F13 := F12.pure s13 _ hoa
          have g13 := s6.g.trans (g612.trans s13.g)
          refine s_par 8 9 scWv.nd (a_cons (w_take hT hr (by decide) 0 rfl (u := 4) pu_int F13.st.s (F13.st.out ga hoa) F13.st.s (F13.st.out ga hoa) F13.pot (by omega) (by decide) (by decide) fun mn2 H14 _ _ s14 hP14 => a_cons (w_take hT hr (by decide) 0 rfl (u := o.names.length) (Pu.to (pu_lenL (pu_dget (.inr "names") (pu_var 1 rfl (dd3.mono g13)) pu_str (own_names o) hu1') B.len) (by simp [ofS])) s14.s ((F13.step s14 hP14 _ hoa).st.out ga hoa) s14.s ((F13.step s14 hP14 _ hoa).st.out ga hoa) hP14 (by omega) (by omega) (by omega) fun si2 H15 _ _ s15 hP15 => a_nil ⟨_, _, rfl, hJ2 _ _ ⟨G13, mn2, si2, rfl, s13.g, (F13.step s14 hP14 _ hoa).step s15 hP15 _ hoa⟩⟩)))
        rintro σ H13 ⟨G13, mn3, si3, rfl, g1213, F13⟩
        have g613 := g612.trans g1213
        have g13 := s6.g.trans g613
        have nl := nextK_len o (runW o (holdI o) ws)
        -- kind
        refine b_cons (s_set 6 scWv.nd (w_draw hPk hr (by decide) 0 rfl (pua_cons (pu_var 11 rfl (hv11.mono (s12.g.trans g1213))) (pua_cons (pu_var 7 rfl (hv7.mono g13)) (pua_cons (pu_var 8 rfl (.int _)) (pua_cons (pu_var 10 rfl (.int _)) (pua_cons (pu_var 9 rfl (.int _)) pua_nil))))) F13.st.s (F13.st.out ga hoa) F13.pot (by omega) ⟨_, LS, mn3, i, si3, rfl, ?k1, by omega, ?kl⟩ fun d v14 G14 H14 hp s14 hP14 hv14 => ?_))
        case k1 =>
          cases e : nextK o (runW o (holdI o) ws) with
          | nil => exact absurd (by rw [e]; rfl) hne
          | cons x r => simp
        case kl =>
          intro j hj
          obtain ⟨j0, j1, _⟩ := mem_nextK hj
          rw [lLS]
          exact ⟨j0, j1⟩
        obtain ⟨xs, r, e, hd⟩ := hp
        injection e with e1 _
        injection e1 with e1
        subst e1
        obtain ⟨j, hj, rfl⟩ := List.mem_map.mp hd
        obtain rfl := hv14.int_inv
        obtain ⟨j0, j1, jr⟩ := mem_nextK hj
        have F14 := F13.step s14 hP14 _ hoa
        -- the meeting
        refine b_cons (s_expr (w_append 4 rfl F14.hl (w_tup (a_cons (w_var 6 rfl (a_cons (w_draw hLd hr (by decide) 0 rfl (pua_cons (pu_var 5 rfl (.int _)) (pua_cons (pu_var 10 rfl (.int _)) pua_nil)) F14.st.s (F14.st.out ga hoa) F14.pot (by omega) ⟨way, i, rfl, by omega⟩ fun d v15 G15 H15 hp15 s15 hP15 hv15 => a_nil ⟨by show 2 ≤ sizeLine; decide, fun t' ht' => a_nil ?_⟩)))))))
        obtain ⟨z, rfl, hz⟩ := hp15
        have F15 := F14.step s15 hP15 _ hoa
        obtain ⟨G16, g16, F16⟩ := F15.app _ hoa ht' (.cons (.int j) (.one hv15))
        have hlen := F9.ds.length
        refine rAppend_q (xs := vs) (by rw [upd_ne (ne_of_none F15.hl ht')]; exact F15.hl) (by
          rw [hlen, List.length_map]
          omega) ?_
        have g616 := g613.trans (s14.g.trans (s15.g.trans g16))
        have g916 := s10.g.trans (s11.g.trans (s12.g.trans (g1213.trans (s14.g.trans (s15.g.trans g16)))))
        refine b_one (s_set 3 scWv.nd (w_pu (pu_call hBh hr (by decide) (pua_cons (pu_var 1 rfl (dd3.mono (s6.g.trans g616))) (pua_cons (pu_var 3 rfl (dh.mono g916)) (pua_cons (pu_var 6 rfl (.int j)) pua_nil))) ⟨o, _, fr, j, rfl, S, j0, j1, jr, rfl⟩ rfl) F16.st.s fun v17 G17 H17 s17 hv17 => ?_))
        have F17 := F16.pure s17 _ hoa
        have em : (ws ++ [(j, z)]).map meD = ws.map meD ++ [.tuple [.int j, .int z]] := by rw [List.map_append]; rfl
        refine ⟨G17, ws ++ [(j, z)], behF fr (kAt o j), vs ++ [.ref t'], v17, _, _, _, mn3, si3, rfl, g616.trans s17.g, ?_, hv17, ?_, wv_snoc hws j0 j1 jr (by omega), by rw [List.length_append, List.length_singleton]; omega, by omega, fun p hp => ?_⟩
        · rw [em]
          exact F17.up (by omega)
        · rw [runW_snoc]
          exact std_step S j0 j1 jr
        · rcases List.mem_append.mp hp with h | h
          · exact hld p h
          · rw [List.mem_singleton] at h
            subst h
            exact hz
      · rintro σ H' h
        exact hJ _ _ ⟨_, _, h⟩
    rintro σ H9 ⟨Gx, i, G9, ws, fr, vs9, vh, u6, u10, u11, mn', si', rfl, sg, F9, dh, S, hws, hl9, hi9, hld⟩
    have fz := F9.st.freeze F9.h0 F9.hl F9.gl
    refine b_one (s_ret (w_pu (pu_tupleL (pu_var 4 rfl (.lst upd_same (F9.ds.mono (Same.toUpd F9.gl)))) B.tuple) fz.s fun v10 G10 H10 s10 hv10 => k ws v10 G10 H10 hws (by omega) hld (fz.trans s10.pure) ((F9.pot.step s10 (by simp)).up (by omega)) hv10))
end
end Mb

set_option Elab.async false
set_option linter.all false
set_option maxRecDepth 100000
set_option maxHeartbeats 4000000
namespace Mb
open PySem PySem.Spec PyProof.Rows L2 TL
/-! ### strangers -/
def lotL (k : Kd) : List Int := k.cs ++ k.b.toList
def Apart (k1 k2 : Kd) : Prop := ∀ x ∈ lotL k1, x ∉ lotL k2
theorem Apart.symm {k1 k2 : Kd} (h : Apart k1 k2) : Apart k2 k1 := fun x h2 h1 => h x h1 h2
def appE (k : Kd) (y v : Int) : Int := match k.e with
  | some z => if y = z then heirC k z else if v = z then heirC k z else v
  | none => v
section
variable {n : Nat} {hs : List Int} {k k1 k2 : Kd} {y v : Int}
theorem gK (hl : hs.length = n) (hk : RowOk n k.cs k.b k.e k.g) (h0 : 0 ≤ y) (h1 : y < n) : gH (behK hs k) y = appE k y (if k.g = some y then lastC k else if k.b = some y then -1 else gH hs y) := by
  unfold behK appE
  cases he : k.e with
  | none => exact gBG hl hk h0
  | some z =>
    have hz := hk.rc.1.2 z (hk.re z he).1
    show gH (behE (behBG hs k) z (heirC k z)) y = _
    rw [gE (lenBG hl) hz.1 hz.2 h0 h1, gBG hl hk h0]
theorem appE_same (hk : RowOk n k.cs k.b k.e k.g) (hy : y ∉ k.cs) (hv : v ∉ k.cs) : appE k y v = v := by
  unfold appE
  cases he : k.e with
  | none => rfl
  | some z =>
    have hz := (hk.re z he).1
    show (if y = z then heirC k z else if v = z then heirC k z else v) = v
    rw [if_neg (fun e : y = z => hy (by rw [e]; exact hz)), if_neg (fun e : v = z => hv (by rw [e]; exact hz))]
theorem appE_or (hk : RowOk n k.cs k.b k.e k.g) : appE k y v = v ∨ appE k y v ∈ k.cs := by
  unfold appE
  cases he : k.e with
  | none => exact .inl rfl
  | some z =>
    have hh := (heir_mem hk he).1
    show (if y = z then heirC k z else if v = z then heirC k z else v) = v ∨ (if y = z then heirC k z else if v = z then heirC k z else v) ∈ k.cs
    by_cases e1 : y = z
    · rw [if_pos e1]
      exact .inr hh
    · rw [if_neg e1]
      by_cases e2 : v = z
      · rw [if_pos e2]
        exact .inr hh
      · rw [if_neg e2]
        exact .inl rfl
theorem appE_in (hk : RowOk n k.cs k.b k.e k.g) (hv : v ∈ k.cs) : appE k y v ∈ k.cs := by
  rcases appE_or (y := y) (v := v) hk with e | e
  · rw [e]
    exact hv
  · exact e
/-- a comer of the one kind is no comer of the other one, nor begun there -/
theorem Apart.cc (h : Apart k1 k2) {x : Int} (h1 : x ∈ k1.cs) : x ∉ k2.cs := fun h2 => h x (List.mem_append_left _ h1) (List.mem_append_left _ h2)
theorem Apart.cb (h : Apart k1 k2) {x : Int} (h1 : x ∈ k1.cs) : k2.b ≠ some x := fun h2 => h x (List.mem_append_left _ h1) (List.mem_append_right _ (by rw [h2]; exact List.mem_singleton_self x))
theorem Apart.bb (h : Apart k1 k2) {x : Int} (h1 : k1.b = some x) : k2.b ≠ some x := fun h2 => h x (List.mem_append_right _ (by rw [h1]; exact List.mem_singleton_self x)) (List.mem_append_right _ (by rw [h2]; exact List.mem_singleton_self x))
theorem neg_nc (hk : RowOk n k.cs k.b k.e k.g) : (-1 : Int) ∉ k.cs := fun h => by have := (hk.rc.1.2 _ h).1; omega
/-- where a meeting was, nobody else's rights change -/
theorem apart_in (hl : hs.length = n) (r1 : RowOk n k1.cs k1.b k1.e k1.g) (r2 : RowOk n k2.cs k2.b k2.e k2.g) (C : Can n hs k1) (ap : Apart k1 k2) (h0 : 0 ≤ y) (h1 : y < n) : gH (behK hs k1) y ∈ k2.cs ↔ gH hs y ∈ k2.cs := by
  rw [gK hl r1 h0 h1]
  by_cases hg : k1.g = some y
  · rw [if_pos hg]
    exact ⟨fun h => (ap.cc (appE_in r1 (last_mem r1)) h).elim, fun h => (ap.cc (C.g y hg) h).elim⟩
  · rw [if_neg hg]
    by_cases hb : k1.b = some y
    · rw [if_pos hb]
      refine ⟨fun h => ?_, fun h => (ap.cc (C.b y hb) h).elim⟩
      rcases appE_or (y := y) (v := -1) r1 with e | e
      · rw [e] at h
        exact (neg_nc r2 h).elim
      · exact (ap.cc e h).elim
    · rw [if_neg hb]
      by_cases hy : y ∈ k1.cs
      · have hv := C.here y hy
        rw [hv]
        refine ⟨fun h => ?_, fun h => (neg_nc r2 h).elim⟩
        rcases appE_or (y := y) (v := -1) r1 with e | e
        · rw [e] at h
          exact h
        · exact (ap.cc e h).elim
      · by_cases hv : gH hs y ∈ k1.cs
        · exact ⟨fun h => (ap.cc (appE_in r1 hv) h).elim, fun h => (ap.cc hv h).elim⟩
        · rw [appE_same r1 hy hv]
theorem apart_here (hl : hs.length = n) (r1 : RowOk n k1.cs k1.b k1.e k1.g) (r2 : RowOk n k2.cs k2.b k2.e k2.g) (C : Can n hs k1) (ap : Apart k1 k2) (hc : y ∈ k2.cs) : gH (behK hs k1) y = -1 ↔ gH hs y = -1 := by
  obtain ⟨h0, h1⟩ := r2.rc.1.2 y hc
  have hy : y ∉ k1.cs := ap.symm.cc hc
  rw [gK hl r1 h0 h1]
  by_cases hg : k1.g = some y
  · rw [if_pos hg]
    refine ⟨fun h => ?_, fun h => ?_⟩
    · have := appE_in (y := y) r1 (last_mem r1)
      rw [h] at this
      exact (neg_nc r1 this).elim
    · have := C.g y hg
      rw [h] at this
      exact (neg_nc r1 this).elim
  · rw [if_neg hg, if_neg (ap.symm.cb hc)]
    by_cases hv : gH hs y ∈ k1.cs
    · refine ⟨fun h => ?_, fun h => ?_⟩
      · have := appE_in (y := y) r1 hv
        rw [h] at this
        exact (neg_nc r1 this).elim
      · rw [h] at hv
        exact (neg_nc r1 hv).elim
    · rw [appE_same r1 hy hv]
theorem any_congr' {o : Option Int} {p q : Int → Bool} (h : ∀ x, o = some x → p x = q x) : o.any p = o.any q := by
  cases o with
  | none => rfl
  | some x => exact h x rfl
/-- a stranger's meeting changes nothing for the other kind -/
theorem apart_ref (hl : hs.length = n) (r1 : RowOk n k1.cs k1.b k1.e k1.g) (r2 : RowOk n k2.cs k2.b k2.e k2.g) (h : refK hs k1 = none) (ap : Apart k1 k2) : refK (behK hs k1) k2 = refK hs k2 := by
  have C := can_of (n := n) h
  have hf : (k2.cs.find? fun c => !decide (gH (behK hs k1) c = -1)) = k2.cs.find? fun c => !decide (gH hs c = -1) := by
    have : ∀ l : List Int, (∀ c ∈ l, c ∈ k2.cs) → (l.find? fun c => !decide (gH (behK hs k1) c = -1)) = l.find? fun c => !decide (gH hs c = -1) := by
      intro l
      induction l with
      | nil => intro _; rfl
      | cons c l ih =>
        intro hm
        rw [List.find?_cons, List.find?_cons, ih fun x hx => hm x (List.mem_cons_of_mem _ hx), decide_eq_decide.mpr (apart_here hl r1 r2 C ap (hm c List.mem_cons_self))]
    exact this _ fun c hc => hc
  have hi : ∀ x : Int, 0 ≤ x → x < n → decide (gH (behK hs k1) x ∈ k2.cs) = decide (gH hs x ∈ k2.cs) := fun x x0 x1 => decide_eq_decide.mpr (apart_in hl r1 r2 C ap x0 x1)
  have ho : outR (behK hs k1) k2 = outR hs k2 := by
    unfold outR
    rw [any_congr' (o := k2.b) (q := fun x => !decide (gH hs x ∈ k2.cs)) fun x hx => by rw [hi x (r2.rb x hx).1 (r2.rb x hx).2.1],
      any_congr' (o := k2.g) (q := fun x => !decide (gH hs x ∈ k2.cs)) fun x hx => by rw [hi x (r2.rg x hx).1 (r2.rg x hx).2.1]]
  unfold refK
  rw [hf, ho]
theorem gH_ext {a b : List Int} (ha : a.length = n) (hb : b.length = n) (h : ∀ y : Int, 0 ≤ y → y < n → gH a y = gH b y) : a = b := by
  apply List.ext_getElem?
  intro i
  by_cases hi : i < n
  · have e1 := gH_eq (hs := a) (x := (i : Int)) (by omega)
    have e2 := gH_eq (hs := b) (x := (i : Int)) (by omega)
    have e3 := h i (by omega) (by omega)
    rw [Int.toNat_natCast] at e1 e2
    rw [e1, e2, e3]
  · rw [List.getElem?_eq_none (by omega), List.getElem?_eq_none (by omega)]
/-- what two strangers leave, hand by hand: one half of it -/
theorem apart_half (r1 : RowOk n k1.cs k1.b k1.e k1.g) (r2 : RowOk n k2.cs k2.b k2.e k2.g) (C1 : Can n hs k1) (C2 : Can n hs k2) (ap : Apart k1 k2) (hh : k1.g = some y ∨ k1.b = some y) :
    k2.g ≠ some y ∧ k2.b ≠ some y ∧ y ∉ k2.cs ∧ ∀ w, w = -1 ∨ w ∈ k1.cs → appE k2 y w = w := by
  have hv : gH hs y ∈ k1.cs := hh.elim (C1.g y) (C1.b y)
  have nc : y ∉ k2.cs := fun hc => by
    have := C2.here y hc
    rw [this] at hv
    exact neg_nc r1 hv
  refine ⟨fun e => ap.cc hv (C2.g y e), fun e => ap.cc hv (C2.b y e), nc, fun w hw => appE_same r2 nc ?_⟩
  rcases hw with rfl | hw
  · exact neg_nc r2
  · exact ap.cc hw
theorem apart_beh (hl : hs.length = n) (r1 : RowOk n k1.cs k1.b k1.e k1.g) (r2 : RowOk n k2.cs k2.b k2.e k2.g) (h1 : refK hs k1 = none) (h2 : refK hs k2 = none) (ap : Apart k1 k2) : behK (behK hs k1) k2 = behK (behK hs k2) k1 := by
  have C1 := can_of (n := n) h1
  have C2 := can_of (n := n) h2
  refine gH_ext (n := n) (behK_len (behK_len hl)) (behK_len (behK_len hl)) fun y y0 y1 => ?_
  rw [gK (behK_len hl) r2 y0 y1, gK (behK_len hl) r1 y0 y1, gK hl r1 y0 y1, gK hl r2 y0 y1]
  by_cases a1 : k1.g = some y ∨ k1.b = some y
  · obtain ⟨ng, nb, nc, same⟩ := apart_half r1 r2 C1 C2 ap a1
    have hw : appE k1 y (if k1.g = some y then lastC k1 else if k1.b = some y then -1 else appE k2 y (if k2.g = some y then lastC k2 else if k2.b = some y then -1 else gH hs y)) = appE k1 y (if k1.g = some y then lastC k1 else if k1.b = some y then -1 else gH hs y) := by
      rcases a1 with a1 | a1
      · rw [if_pos a1, if_pos a1]
      · rw [if_pos a1, if_pos a1]
    rw [hw, if_neg ng, if_neg nb]
    refine same _ ?_
    by_cases g1 : k1.g = some y
    · rw [if_pos g1]
      exact .inr (appE_in r1 (last_mem r1))
    · rw [if_neg g1, if_pos (a1.resolve_left g1)]
      rcases appE_or (y := y) (v := -1) r1 with e | e
      · exact .inl e
      · exact .inr e
  · have g1 : k1.g ≠ some y := fun e => a1 (.inl e)
    have b1 : k1.b ≠ some y := fun e => a1 (.inr e)
    rw [if_neg g1, if_neg b1, if_neg g1, if_neg b1]
    by_cases a2 : k2.g = some y ∨ k2.b = some y
    · obtain ⟨_, _, nc, same⟩ := apart_half r2 r1 C2 C1 ap.symm a2
      have hw : appE k2 y (if k2.g = some y then lastC k2 else if k2.b = some y then -1 else appE k1 y (gH hs y)) = appE k2 y (if k2.g = some y then lastC k2 else if k2.b = some y then -1 else gH hs y) := by
        rcases a2 with a2 | a2
        · rw [if_pos a2, if_pos a2]
        · rw [if_pos a2, if_pos a2]
      rw [hw]
      refine (same _ ?_).symm
      by_cases g2 : k2.g = some y
      · rw [if_pos g2]
        exact .inr (appE_in r2 (last_mem r2))
      · rw [if_neg g2, if_pos (a2.resolve_left g2)]
        rcases appE_or (y := y) (v := -1) r2 with e | e
        · exact .inl e
        · exact .inr e
    · have g2 : k2.g ≠ some y := fun e => a2 (.inl e)
      have b2 : k2.b ≠ some y := fun e => a2 (.inr e)
      rw [if_neg g2, if_neg b2, if_neg g2, if_neg b2]
      by_cases c1 : y ∈ k1.cs ∨ gH hs y ∈ k1.cs
      · have nc : y ∉ k2.cs := fun hc => by
          rcases c1 with c1 | c1
          · exact ap.cc c1 hc
          · rw [C2.here y hc] at c1
            exact neg_nc r1 c1
        have nv : gH hs y ∉ k2.cs := fun hv => by
          rcases c1 with c1 | c1
          · rw [C1.here y c1] at hv
            exact neg_nc r2 hv
          · exact ap.cc c1 hv
        have nw : appE k1 y (gH hs y) ∉ k2.cs := by
          rcases appE_or (y := y) (v := gH hs y) r1 with e | e
          · rw [e]
            exact nv
          · exact ap.cc e
        rw [appE_same r2 nc nw, appE_same r2 nc nv]
      · have nc : y ∉ k1.cs := fun h => c1 (.inl h)
        have nv : gH hs y ∉ k1.cs := fun h => c1 (.inr h)
        have nw : appE k2 y (gH hs y) ∉ k1.cs := by
          rcases appE_or (y := y) (v := gH hs y) r2 with e | e
          · rw [e]
            exact nv
          · exact ap.symm.cc e
        rw [appE_same r1 nc nv, appE_same r1 nc nw]
end
end Mb

set_option Elab.async false
set_option linter.all false
set_option maxRecDepth 100000
set_option maxHeartbeats 4000000
namespace Mb
open PySem PySem.Spec PyProof.Rows L2 TL
/-! ### told both ways -/
section
variable {X : Cx} {σ : L2.St} {G : Hp} {a : Expr} {p pos px : Pos} {ds : List Dt} {b k : Nat}
theorem call_reprN : CallR X (.builtin "repr") (fun xs H Q => xs = [.non] ∧ Q (.str "None") H) := by
  intro pins s σ H xs us Q I r h
  obtain ⟨rfl, q⟩ := h
  obtain ⟨u, rfl, rx⟩ := vals1 r
  obtain rfl : u = Value.none := rx
  exact PySem.P.repr_of_none ⟨.str _, H, I.tok _, ⟨_, rfl⟩, q⟩
theorem pu_reprT (quiet : X.A.guards = some []) (hu : X.A.units + 64 < cLine) (ha : Pu X a σ G (.tuple ds)) (hn : nods ds = true) (ok : ReprOk (.tuple ds) b k) (hb : 15 * b + 13 ≤ sizeLine) (hk : k ≤ 60) (hm : X.mg "repr" = none) (hg : Gl X "repr" := by rfl) (he : starEach [a] X.env = [(false, eval a X.env)] := by rfl) :
    Pu X (.Call (.Name "repr" p) [a] [] pos) σ G (.str (PyData.tuple ds).shown) :=
  pu_one (call_reprD quiet hu) ha (fun G1 H v g s hv Q q => by
    have hd := (Da.mono s hv).dp (by simpa only [nod] using hn)
    obtain ⟨l, vs, rfl, h1, h2⟩ := hv.tup_inv
    exact ⟨l, .tuple ds, rfl, hd, ok.sh, ok.nd, Nat.le_trans ok.dp hk, Nat.le_trans ok.size hb, q _ _ _ (Step.refl s) (.str _)⟩) hm (by decide +kernel) hg (by decide) (by decide) he
theorem pu_reprN (ha : Pu X a σ G .none) (hm : X.mg "repr" = none) (hg : Gl X "repr" := by rfl) (he : starEach [a] X.env = [(false, eval a X.env)] := by rfl) : Pu X (.Call (.Name "repr" p) [a] [] pos) σ G (.str "None") :=
  pu_one call_reprN ha (fun G1 H v g s hv Q q => by
    obtain rfl := hv.non_inv
    exact ⟨rfl, q _ _ _ (Step.refl s) (.str _)⟩) hm (by decide +kernel) hg (by decide) (by decide) he
def shownR : Option (Str × Int) → Str
  | none => "None"
  | some (w, i) => (PyData.tuple [.str w, .int i]).shown
structure RefOk (r : Option (Str × Int)) : Prop where
  ok : ∀ w i, r = some (w, i) → (w = "away" ∨ w = "right") ∧ 0 ≤ i ∧ i < 1000
theorem pu_reprR (quiet : X.A.guards = some []) (hu : X.A.units + 64 < cLine) {r : Option (Str × Int)} (hr : RefOk r) (ha : Pu X a σ G (refD r)) (hm : X.mg "repr" = none) (hg : Gl X "repr" := by rfl) (he : starEach [a] X.env = [(false, eval a X.env)] := by rfl) :
    Pu X (.Call (.Name "repr" p) [a] [] pos) σ G (.str (shownR r)) := by
  cases r with
  | none => exact pu_reprN ha hm hg he
  | some q =>
    obtain ⟨w, i⟩ := q
    obtain ⟨hw, h0, h1⟩ := hr.ok w i rfl
    refine pu_reprT quiet hu ha rfl (b := 12) (k := 1) ((ReprOk.tup (b := 5) (k := 0) fun d hd => ?_).up (by show 2 * (5 + 1) ≤ 12; decide) (by decide)) (by decide) (by decide) hm hg he
    simp only [List.mem_cons, List.not_mem_nil, or_false] at hd
    rcases hd with rfl | rfl
    · rcases hw with rfl | rfl
      · exact (ReprOk.str (b := 5) (by decide +kernel) (by decide)).up (Nat.le_refl _) (by decide)
      · exact (ReprOk.str (b := 5) (by decide +kernel) (by decide)).up (Nat.le_refl _) (by decide)
    · exact (ReprOk.int h0 (by omega)).up (by decide) (by decide)
end
section
variable {n : Nat} {hs : List Int} {fr : Fr} {k : Kd} {o : Own}
theorem refK_ok (hk : RowOk n k.cs k.b k.e k.g) (hn : n ≤ 5) : RefOk (refK hs k) := ⟨fun w i h => by
  unfold refK at h
  cases hf : k.cs.find? fun c => !decide (gH hs c = -1) with
  | some c =>
    rw [hf] at h
    injection h with h
    injection h with h1 h2
    subst h1
    subst h2
    have := hk.rc.1.2 c (List.mem_of_find?_eq_some hf)
    exact ⟨.inl rfl, this.1, by omega⟩
  | none =>
    rw [hf] at h
    cases ho : outR hs k with
    | none => rw [ho] at h; cases h
    | some x =>
      rw [ho] at h
      injection h with h
      injection h with h1 h2
      subst h1
      subst h2
      refine ⟨.inr rfl, ?_⟩
      unfold outR at ho
      split at ho
      · have := hk.rb x ho
        omega
      · split at ho
        · have := hk.rg x ho
          omega
        · cases ho⟩
theorem told_same (hl : hs.length = n) (R : RelF n hs fr) : (rng n).map (toldAt fr) = stD hs := by
  unfold stD
  apply List.ext_getElem?
  intro i
  rw [List.getElem?_map, List.getElem?_mapIdx]
  by_cases hi : i < n
  · have e1 : (rng n)[i]? = some (i : Int) := by
      unfold rng
      rw [List.getElem?_map, List.getElem?_range hi]
      rfl
    have e2 : hs[i]? = some (gH hs i) := gH_eq (x := (i : Int)) (by omega)
    rw [e1, e2]
    show some (toldAt fr i) = some (if gH hs i = -1 then PyData.tuple [.str "here", .tuple (ofI (rightsOf hs i))] else .tuple [.str "away"])
    congr 1
    by_cases h : gH hs i = -1
    · obtain ⟨p, hp, hpe, hf, r⟩ := R.look (x := (i : Int)) (by omega) (by omega) h
      have q := rightsOf_rts hl i
      have el : lookF fr i = p.2 := by
        unfold lookF
        rw [hf]
        rfl
      rw [el] at r
      have e3 : p.2 = rightsOf hs i := asc_ext r.1 q.1 fun y => by rw [r.2, q.2]
      unfold toldAt
      rw [hf, if_pos h]
      show PyData.tuple [.str "here", .tuple (ofI p.2)] = _
      rw [e3]
    · have hf : (fr.find? fun p => decide (p.1 = (i : Int))) = none := by
        rw [List.find?_eq_none]
        intro p hp e
        have e := of_decide_eq_true e
        have := (R.mem p.1).mp (List.mem_map_of_mem hp)
        rw [e] at this
        exact h this.2.2
      unfold toldAt
      rw [hf, if_neg h]
  · have e1 : (rng n)[i]? = none := List.getElem?_eq_none (by rw [rng_len]; omega)
    have e2 : hs[i]? = none := List.getElem?_eq_none (by omega)
    rw [e1, e2]
    rfl
theorem std_nods (hs : List Int) : nods (stD hs) = true := nods_all fun d hd => by
  rcases stD_mem hd with rfl | ⟨i, rfl⟩
  · rfl
  · have := nod_ints (rightsOf hs i)
    simp only [nod, nods, Bool.and_true, Bool.true_and] at this ⊢
    exact this
theorem std_ok (hl : hs.length ≤ 5) : ReprOk (.tuple (stD hs)) 100 3 := by
  refine (ReprOk.tup (b := 12) (k := 2) fun d hd => ?_).up ?_ (by decide)
  · rcases stD_mem hd with rfl | ⟨i, rfl⟩
    · refine (ReprOk.tup (b := 4) (k := 0) fun d hd => ?_).up (by decide) (by decide)
      simp only [List.mem_cons, List.not_mem_nil, or_false] at hd
      subst hd
      exact .str (by decide +kernel) (by decide)
    · refine (ReprOk.tup (b := 5) (k := 1) fun d hd => ?_).up (by show 2 * (5 + 1) ≤ 12; decide) (by decide)
      simp only [List.mem_cons, List.not_mem_nil, or_false] at hd
      rcases hd with rfl | rfl
      · exact (ReprOk.str (b := 5) (by decide +kernel) (by decide)).up (Nat.le_refl _) (by decide)
      · have := rights_len hs i
        exact ints_ok (fun x hx => by have := rights_mem hx; omega) (by omega)
  · unfold stD
    rw [List.length_mapIdx]
    omega
theorem next_ok (ho : OwnOk o) : ReprOk (.tuple (ofI (nextK o hs))) 8 1 := by
  have h8 := ho.k8
  have := nextK_len o hs
  exact ints_ok (fun x hx => by have := mem_nextK hx; omega) (by omega)
/-! the law's standing behind a weaving -/
def runF (o : Own) (fr : Fr) : Wv → Fr
  | [] => fr
  | p :: r => runF o (behF fr (kAt o p.1)) r
theorem runF_snoc (o : Own) (p : Int × Int) : ∀ (ws : Wv) (fr : Fr), runF o fr (ws ++ [p]) = behF (runF o fr ws) (kAt o p.1)
  | [], _ => rfl
  | _ :: ws, fr => runF_snoc o p ws _
theorem std_run (S : Std o hs fr) {ws : Wv} (h : WvOk o hs ws) : ∀ i, i ≤ ws.length → Std o (runW o hs (ws.take i)) (runF o fr (ws.take i))
  | 0, _ => by rw [List.take_zero]; exact S
  | i + 1, hi => by
    have ih := std_run S h i (by omega)
    have hg : ws[i]? = some ws[i] := List.getElem?_eq_getElem (by omega)
    obtain ⟨h0, h1, h2⟩ := h.ok i _ hg
    have e : ws.take (i + 1) = ws.take i ++ [ws[i]] := by
      rw [List.take_add_one, hg]
      rfl
    rw [e, runW_snoc, runF_snoc]
    exact std_step ih h0 h1 h2
theorem wv_take {ws : Wv} (h : WvOk o hs ws) (m : Nat) : WvOk o hs (ws.take m) := by
  refine ⟨by rw [List.length_take]; have := h.len; omega, fun i p hp => ?_⟩
  have hi := (List.getElem?_eq_some_iff.mp hp).1
  rw [List.length_take] at hi
  rw [List.getElem?_take, if_pos (by omega)] at hp
  rw [List.take_take, Nat.min_eq_left (by omega)]
  exact h.ok i p hp
end
end Mb

set_option Elab.async false
set_option linter.all false
set_option maxRecDepth 100000
set_option maxHeartbeats 4000000
namespace Mb
open PySem PySem.Spec PyProof.Rows L2 TL
/-! ### rows of meetings that are weavings, or not; strangers exchanged anywhere -/
def ValidK (o : Own) (ws : Wv) : Prop := ∀ p ∈ ws, 0 ≤ p.1 ∧ p.1 < o.kinds.length
structure BadAt (o : Own) (hs : List Int) (ws : Wv) (i : Nat) : Prop where
  ok : WvOk o hs (ws.take i)
  bad : ∃ p, ws[i]? = some p ∧ (refK (runW o hs (ws.take i)) (kAt o p.1)).isNone = false
section
variable {o : Own} {hs : List Int} {ws : Wv}
theorem take_snoc {α : Type} {l : List α} {i : Nat} {x : α} (h : l[i]? = some x) : l.take (i + 1) = l.take i ++ [x] := by
  rw [List.take_add_one, h]
  rfl
theorem wv_bad (hv : ValidK o ws) (hl : ws.length ≤ 1000) : ∀ i, i ≤ ws.length → WvOk o hs (ws.take i) ∨ ∃ j, BadAt o hs ws j
  | 0, _ => .inl (by rw [List.take_zero]; exact wv_nil)
  | i + 1, hi => by
    rcases wv_bad hv hl i (by omega) with h | h
    · have hg : ws[i]? = some ws[i] := List.getElem?_eq_getElem (by omega)
      obtain ⟨h0, h1⟩ := hv _ (List.mem_of_getElem? hg)
      cases hr : refK (runW o hs (ws.take i)) (kAt o ws[i].1) with
      | none =>
        left
        rw [take_snoc hg]
        exact wv_snoc h h0 h1 hr (by rw [List.length_take]; omega)
      | some r => exact .inr ⟨i, h, _, hg, by rw [hr]; rfl⟩
    · exact .inr h
theorem wv_or_bad (hv : ValidK o ws) (hl : ws.length ≤ 1000) : WvOk o hs ws ∨ ∃ j, BadAt o hs ws j := by
  have := wv_bad (hs := hs) hv hl ws.length (Nat.le_refl _)
  rw [List.take_length] at this
  exact this
theorem WvOk.valid (h : WvOk o hs ws) : ValidK o ws := fun p hp => by
  obtain ⟨i, hi⟩ := List.getElem?_of_mem hp
  obtain ⟨a, b, _⟩ := h.ok i p hi
  exact ⟨a, b⟩
theorem wv_cons {p : Int × Int} : WvOk o hs (p :: ws) ↔ (0 ≤ p.1 ∧ p.1 < o.kinds.length ∧ refK hs (kAt o p.1) = none) ∧ WvOk o (behK hs (kAt o p.1)) ws ∧ ws.length < 1000 := by
  constructor
  · intro h
    have hl := h.len
    rw [List.length_cons] at hl
    refine ⟨h.ok 0 p rfl, ⟨by omega, fun i q hq => h.ok (i + 1) q hq⟩, by omega⟩
  · rintro ⟨h1, h2, h3⟩
    refine ⟨by rw [List.length_cons]; omega, fun i q hq => ?_⟩
    cases i with
    | zero =>
      obtain rfl := Option.some.inj hq
      exact h1
    | succ i => exact h2.ok i q hq
theorem row_at (ho : OwnOk o) {j : Int} (h0 : 0 ≤ j) (h1 : j < o.kinds.length) : RowOk o.names.length (kAt o j).cs (kAt o j).b (kAt o j).e (kAt o j).g := (ho.kk _ (List.mem_of_getElem? (kAt_some h0 h1))).2
theorem exch (ho : OwnOk o) {p q : Int × Int} {b : Wv} (ap : Apart (kAt o p.1) (kAt o q.1)) : ∀ {a : Wv} {hs : List Int}, hs.length = o.names.length → WvOk o hs (a ++ p :: q :: b) → WvOk o hs (a ++ q :: p :: b) ∧ ∀ m, runW o hs (a ++ p :: q :: b.take m) = runW o hs (a ++ q :: p :: b.take m)
  | [], hs, hl, h => by
    obtain ⟨⟨p0, p1, pr⟩, h2, l2⟩ := wv_cons.mp h
    obtain ⟨⟨q0, q1, qr⟩, h3, l3⟩ := wv_cons.mp h2
    have r1 := row_at ho p0 p1
    have r2 := row_at ho q0 q1
    rw [apart_ref hl r1 r2 pr ap] at qr
    have e := apart_beh hl r1 r2 pr qr ap
    rw [List.length_cons] at l2
    refine ⟨wv_cons.mpr ⟨⟨q0, q1, qr⟩, wv_cons.mpr ⟨⟨p0, p1, ?_⟩, ?_, l3⟩, by rw [List.length_cons]; omega⟩, fun m => ?_⟩
    · rw [apart_ref hl r2 r1 qr ap.symm]
      exact pr
    · rw [← e]
      exact h3
    · show runW o (behK (behK hs _) _) _ = runW o (behK (behK hs _) _) _
      rw [e]
  | x :: a, hs, hl, h => by
    obtain ⟨hx, h2, l2⟩ := wv_cons.mp h
    obtain ⟨i1, i2⟩ := exch ho ap (a := a) (behK_len hl) h2
    exact ⟨wv_cons.mpr ⟨hx, i1, by simpa using l2⟩, i2⟩
end
end Mb

set_option Elab.async false
set_option linter.all false
set_option maxRecDepth 100000
set_option maxHeartbeats 4000000
namespace Mb
open PySem PySem.Spec PyProof.Rows L2 TL
/-! ### one story: rows of hands, exchanges of strangers -/
theorem lotK_mem {k : Kd} {x : Int} : x ∈ lotK k ↔ x ∈ lotL k := (PySem.W.sortI_perm _).mem_iff
def lotAt (o : Own) (p : Int × Int) : List Int := lotL (kAt o p.1)
def rowH (o : Own) (h : Int) (ws : Wv) : Wv := ws.filter fun p => decide (h ∈ lotAt o p)
/-- led over by exchanges of neighbouring strangers -/
inductive Conn (o : Own) : Wv → Wv → Prop
  | refl (u : Wv) : Conn o u u
  | swap (a : Wv) (p q : Int × Int) (b : Wv) : Apart (kAt o p.1) (kAt o q.1) → Conn o (a ++ p :: q :: b) (a ++ q :: p :: b)
  | trans {u v x : Wv} : Conn o u v → Conn o v x → Conn o u x
section
variable {o : Own} {u v : Wv}
theorem Conn.symm (h : Conn o u v) : Conn o v u := by
  induction h with
  | refl u => exact .refl u
  | swap a p q b ap => exact .swap a q p b ap.symm
  | trans _ _ i1 i2 => exact i2.trans i1
theorem Conn.cons (p : Int × Int) (h : Conn o u v) : Conn o (p :: u) (p :: v) := by
  induction h with
  | refl u => exact .refl _
  | swap a q r b ap => exact .swap (p :: a) q r b ap
  | trans _ _ i1 i2 => exact i1.trans i2
theorem Conn.len (h : Conn o u v) : u.length = v.length := by
  induction h with
  | refl u => rfl
  | swap a p q b ap => simp
  | trans _ _ i1 i2 => exact i1.trans i2
theorem Conn.perm (h : Conn o u v) : u.Perm v := by
  induction h with
  | refl u => exact .refl u
  | swap a p q b ap => exact List.Perm.append_left a (List.Perm.swap q p b)
  | trans _ _ i1 i2 => exact i1.trans i2
/-- all weavings of a story: one standing behind -/
theorem Conn.wv (ho : OwnOk o) {hs : List Int} (hl : hs.length = o.names.length) (h : Conn o u v) : WvOk o hs u → WvOk o hs v ∧ runW o hs u = runW o hs v := by
  induction h with
  | refl u => exact fun h => ⟨h, rfl⟩
  | swap a p q b ap =>
    intro h
    obtain ⟨h1, h2⟩ := exch ho ap hl h
    have := h2 b.length
    rw [List.take_length] at this
    exact ⟨h1, this⟩
  | trans _ _ i1 i2 =>
    intro h
    obtain ⟨a, b⟩ := i1 h
    obtain ⟨c, d⟩ := i2 a
    exact ⟨c, b.trans d⟩
theorem rowH_cons (h : Int) (p : Int × Int) (ws : Wv) : rowH o h (p :: ws) = if h ∈ lotAt o p then p :: rowH o h ws else rowH o h ws := by
  unfold rowH
  rw [List.filter_cons]
  by_cases e : h ∈ lotAt o p
  · rw [if_pos (decide_eq_true e), if_pos e]
  · rw [if_neg (by rw [decide_eq_true_eq]; exact e), if_neg e]
theorem rowH_app (h : Int) (a b : Wv) : rowH o h (a ++ b) = rowH o h a ++ rowH o h b := List.filter_append ..
theorem Conn.rows (c : Conn o u v) (h : Int) : rowH o h u = rowH o h v := by
  induction c with
  | refl u => rfl
  | swap a p q b ap =>
    rw [rowH_app, rowH_app, rowH_cons, rowH_cons, rowH_cons, rowH_cons]
    by_cases hp : h ∈ lotAt o p
    · have hq : h ∉ lotAt o q := ap h hp
      rw [if_pos hp, if_neg hq, if_neg hq, if_pos hp]
    · rw [if_neg hp, if_neg hp]
  | trans _ _ i1 i2 => exact i1.trans i2
theorem conn_front {p : Int × Int} : ∀ {a : Wv} (b : Wv), (∀ x ∈ a, Apart (kAt o x.1) (kAt o p.1)) → Conn o (a ++ p :: b) (p :: (a ++ b))
  | [], b, _ => .refl _
  | x :: a, b, h => ((conn_front b fun y hy => h y (List.mem_cons_of_mem _ hy)).cons x).trans (.swap [] x p (a ++ b) (h x List.mem_cons_self))
theorem rowH_nil {h : Int} {a : Wv} (e : ∀ x ∈ a, h ∉ lotAt o x) : rowH o h a = [] := List.filter_eq_nil_iff.mpr fun x hx => by
  rw [decide_eq_true_eq]
  exact e x hx
theorem first_of (h : Int) : ∀ {v : Wv} {p : Int × Int} {r : Wv}, rowH o h v = p :: r → ∃ a b, v = a ++ p :: b ∧ (∀ x ∈ a, h ∉ lotAt o x) ∧ h ∈ lotAt o p
  | [], _, _, e => by cases e
  | x :: v, p, r, e => by
    rw [rowH_cons] at e
    by_cases hx : h ∈ lotAt o x
    · rw [if_pos hx] at e
      cases e
      exact ⟨[], v, rfl, by simp, hx⟩
    · rw [if_neg hx] at e
      obtain ⟨a, b, e1, e2, e3⟩ := first_of h e
      refine ⟨x :: a, b, by rw [e1]; rfl, fun y hy => ?_, e3⟩
      rcases List.mem_cons.mp hy with rfl | hy
      · exact hx
      · exact e2 y hy
/-- rows alike: one story -/
theorem rows_conn (ho : OwnOk o) : ∀ {u v : Wv}, ValidK o u → ValidK o v → (∀ h, rowH o h u = rowH o h v) → Conn o u v
  | [], v, _, hv, e => by
    cases v with
    | nil => exact .refl _
    | cons q v =>
      obtain ⟨q0, q1⟩ := hv q List.mem_cons_self
      have r := row_at ho q0 q1
      obtain ⟨c, hc⟩ : ∃ c, c ∈ (kAt o q.1).cs := by
        cases hcs : (kAt o q.1).cs with
        | nil => have := r.rc.2.1; rw [hcs] at this; simp at this
        | cons c _ => exact ⟨c, List.mem_cons_self⟩
      have hl : c ∈ lotAt o q := List.mem_append_left _ hc
      have := e c
      rw [rowH_cons, if_pos hl] at this
      cases this
  | p :: u, v, hu, hv, e => by
    obtain ⟨p0, p1⟩ := hu p List.mem_cons_self
    have r := row_at ho p0 p1
    obtain ⟨c, hc⟩ : ∃ c, c ∈ (kAt o p.1).cs := by
      cases hcs : (kAt o p.1).cs with
      | nil => have := r.rc.2.1; rw [hcs] at this; simp at this
      | cons c _ => exact ⟨c, List.mem_cons_self⟩
    have hl : c ∈ lotAt o p := List.mem_append_left _ hc
    have ec := e c
    rw [rowH_cons, if_pos hl] at ec
    obtain ⟨a, b, rfl, ha, _⟩ := first_of c ec.symm
    have ap : ∀ x ∈ a, Apart (kAt o x.1) (kAt o p.1) := fun x hx h h1 h2 => by
      have eh := e h
      rw [rowH_cons, if_pos (show h ∈ lotAt o p from h2), rowH_app] at eh
      have hm : x ∈ rowH o h a := List.mem_filter.mpr ⟨hx, decide_eq_true h1⟩
      cases hr : rowH o h a with
      | nil => rw [hr] at hm; cases hm
      | cons y r' =>
        rw [hr] at eh
        injection eh with e1 _
        have hy : y ∈ rowH o h a := by rw [hr]; exact List.mem_cons_self
        have hya : y ∈ a := (List.mem_filter.mp hy).1
        rw [← e1] at hya
        exact ha p hya hl
    have cf := conn_front (o := o) (p := p) b ap
    have hv' : ValidK o (a ++ b) := fun x hx => hv x (by
      rcases List.mem_append.mp hx with h | h
      · exact List.mem_append_left _ h
      · exact List.mem_append_right _ (List.mem_cons_of_mem _ h))
    have er : ∀ h, rowH o h u = rowH o h (a ++ b) := fun h => by
      have e1 := (e h).trans (cf.rows h)
      rw [rowH_cons, rowH_cons] at e1
      by_cases hp : h ∈ lotAt o p
      · rw [if_pos hp, if_pos hp] at e1
        exact (List.cons.inj e1).2
      · rw [if_neg hp, if_neg hp] at e1
        exact e1
    exact ((rows_conn ho (fun x hx => hu x (List.mem_cons_of_mem _ hx)) hv' er).cons p).trans cf.symm
end
end Mb

set_option Elab.async false
set_option linter.all false
set_option maxRecDepth 100000
set_option maxHeartbeats 4000000
set_option exponentiation.threshold 4000
namespace Mb
open PySem PySem.Spec PyProof.Rows L2 TL
/-! ### data with great integers: their text -/
structure ReprB (d : Dt) (b k : Nat) : Prop where
  sh : d.showable = true
  nd : d.hasDict = false
  lv : d.leavesShort 1921 = true
  bu : d.bulk ≤ b
  dp : d.depth ≤ k
theorem ReprB.up {d : Dt} {b k b' k' : Nat} (h : ReprB d b k) (hb : b ≤ b') (hk : k ≤ k') : ReprB d b' k' := ⟨h.sh, h.nd, h.lv, Nat.le_trans h.bu hb, Nat.le_trans h.dp hk⟩
theorem ReprB.non : ReprB .none 0 0 := ⟨rfl, rfl, rfl, by show (0 : Nat) ≤ 0; omega, by show (0 : Nat) ≤ 0; omega⟩
theorem ReprB.bl (b : Bool) : ReprB (.bool b) 0 0 := ⟨rfl, rfl, rfl, by show (0 : Nat) ≤ 0; omega, by show (0 : Nat) ≤ 0; omega⟩
theorem ReprB.int {i : Int} (h : i.natAbs < 2 ^ 1900) : ReprB (.int i) 0 0 := by
  have hl : i.natAbs.log2 < 1920 := by
    by_cases e : i.natAbs = 0
    · rw [e]; decide
    · exact (Nat.log2_lt e).mpr (Nat.lt_of_lt_of_le h (Nat.pow_le_pow_right (by decide) (by decide)))
  refine ⟨?_, by simp only [PyData.hasDict], ?_, by show (0 : Nat) ≤ 0; omega, by show (0 : Nat) ≤ 0; omega⟩
  · simp only [PyData.showable]
    exact decide_eq_true hl
  · simp only [PyData.leavesShort]
    exact decide_eq_true (int_text_len_1921 hl)
theorem ReprB.str {x : Str} {b : Nat} (h : PyData.canLay0 (.str x) = true) (hl : x.length ≤ b) : ReprB (.str x) b 0 := by
  have := ReprOk.str h hl
  refine ⟨this.sh, this.nd, ?_, this.bu, this.dp⟩
  have h' := this.lv
  simp only [PyData.leavesShort] at h' ⊢
  exact h'
theorem reprAllB {b k : Nat} : ∀ {ds : List Dt}, (∀ d ∈ ds, ReprB d b k) → PyData.showableAll ds = true ∧ PyData.hasDictAll ds = false ∧ PyData.leavesShortAll 1921 ds = true ∧ PyData.bulkAll ds ≤ ds.length * (b + 1) ∧ PyData.depthAll ds ≤ k
  | [], _ => ⟨rfl, rfl, rfl, by show (0 : Nat) ≤ _; omega, by show (0 : Nat) ≤ k; omega⟩
  | d :: ds, h => by
    obtain ⟨h1, h2, h3, h4, h5⟩ := reprAllB (ds := ds) fun x hx => h x (List.mem_cons_of_mem _ hx)
    have hd := h d List.mem_cons_self
    refine ⟨?_, ?_, ?_, ?_, ?_⟩
    · simp only [PyData.showableAll, hd.sh, h1, Bool.and_self]
    · simp only [PyData.hasDictAll, hd.nd, h2, Bool.or_self]
    · simp only [PyData.leavesShortAll, hd.lv, h3, Bool.and_self]
    · have := hd.bu
      simp only [PyData.bulkAll, List.length_cons, Nat.add_mul, Nat.one_mul]
      omega
    · simp only [PyData.depthAll]
      exact Nat.max_le.mpr ⟨hd.dp, h5⟩
theorem ReprB.tup {ds : List Dt} {b k : Nat} (h : ∀ d ∈ ds, ReprB d b k) : ReprB (.tuple ds) (ds.length * (b + 1)) (k + 1) := by
  obtain ⟨h1, h2, h3, h4, h5⟩ := reprAllB h
  exact ⟨by simpa only [PyData.showable] using h1, by simpa only [PyData.hasDict] using h2, by simpa only [PyData.leavesShort] using h3, by simpa only [PyData.bulk] using h4, by simp only [PyData.depth]; omega⟩
theorem ReprB.lst {ds : List Dt} {b k : Nat} (h : ∀ d ∈ ds, ReprB d b k) : ReprB (.list ds) (ds.length * (b + 1)) (k + 1) := by
  obtain ⟨h1, h2, h3, h4, h5⟩ := reprAllB h
  exact ⟨by simpa only [PyData.showable] using h1, by simpa only [PyData.hasDict] using h2, by simpa only [PyData.leavesShort] using h3, by simpa only [PyData.bulk] using h4, by simp only [PyData.depth]; omega⟩
theorem ReprB.size {d : Dt} {b k : Nat} (h : ReprB d b k) : d.shown.length ≤ 1923 * b + 1921 := Nat.le_trans (PyData.shown_le_bulk 1921 (by decide) d h.lv) (Nat.add_le_add_right (Nat.mul_le_mul_left _ h.bu) _)
theorem ReprB.me {p : Int × Int} (h0 : 0 ≤ p.1) (h1 : p.1 < 1000) (h : p.2.natAbs < 2 ^ 1000) : ReprB (meD p) 2 1 := by
  refine (ReprB.tup (b := 0) (k := 0) fun d hd => ?_).up (by show 2 * (0 + 1) ≤ 2; decide) (Nat.le_refl _)
  simp only [List.mem_cons, List.not_mem_nil, or_false] at hd
  rcases hd with rfl | rfl
  · refine .int (Nat.lt_of_lt_of_le (m := 2 ^ 10) (by omega) (Nat.pow_le_pow_right (by decide) (by decide)))
  · exact .int (Nat.lt_of_lt_of_le h (Nat.pow_le_pow_right (by decide) (by decide)))
section
variable {X : Cx} {σ : L2.St} {G : Hp} {a : Expr} {p pos px : Pos} {ds : List Dt} {b k : Nat}
theorem pu_reprTB (quiet : X.A.guards = some []) (hu : X.A.units + 64 < cLine) (ha : Pu X a σ G (.tuple ds)) (hn : nods ds = true) (ok : ReprB (.tuple ds) b k) (hb : b ≤ 8000) (hk : k ≤ 60) (hm : X.mg "repr" = none) (hg : Gl X "repr" := by rfl) (he : starEach [a] X.env = [(false, eval a X.env)] := by rfl) :
    Pu X (.Call (.Name "repr" p) [a] [] pos) σ G (.str (PyData.tuple ds).shown) :=
  pu_one (call_reprD quiet hu) ha (fun G1 H v g s hv Q q => by
    have hd := (Da.mono s hv).dp (by simpa only [nod] using hn)
    obtain ⟨l, vs, rfl, h1, h2⟩ := hv.tup_inv
    exact ⟨l, .tuple ds, rfl, hd, ok.sh, ok.nd, Nat.le_trans ok.dp hk, Nat.le_trans (Nat.le_trans ok.size (Nat.add_le_add_right (Nat.mul_le_mul_left _ hb) _)) (by decide), q _ _ _ (Step.refl s) (.str _)⟩) hm (by decide +kernel) hg (by decide) (by decide) he
theorem pu_reprLB (quiet : X.A.guards = some []) (hu : X.A.units + 64 < cLine) (ha : Pu X a σ G (.list ds)) (hn : nods ds = true) (ok : ReprB (.list ds) b k) (hb : b ≤ 8000) (hk : k ≤ 60) (hm : X.mg "repr" = none) (hg : Gl X "repr" := by rfl) (he : starEach [a] X.env = [(false, eval a X.env)] := by rfl) :
    Pu X (.Call (.Name "repr" p) [a] [] pos) σ G (.str (PyData.list ds).shown) :=
  pu_one (call_reprD quiet hu) ha (fun G1 H v g s hv Q q => by
    have hd := (Da.mono s hv).dp (by simpa only [nod] using hn)
    obtain ⟨l, vs, rfl, h1, h2⟩ := hv.lst_inv
    exact ⟨l, .list ds, rfl, hd, ok.sh, ok.nd, Nat.le_trans ok.dp hk, Nat.le_trans (Nat.le_trans ok.size (Nat.add_le_add_right (Nat.mul_le_mul_left _ hb) _)) (by decide), q _ _ _ (Step.refl s) (.str _)⟩) hm (by decide +kernel) hg (by decide) (by decide) he
end
end Mb

set_option Elab.async false
set_option linter.all false
set_option maxRecDepth 100000
set_option maxHeartbeats 4000000
namespace Mb
open PySem PySem.Spec PyProof.Rows L2 TL
/-! ### a list that changes, read while it stands -/
section
variable {X : Cx} {σ : L2.St} {G H : Hp} {e tg a : Expr} {p pos : Pos} {l : Addr} {vs : List V} {ds : List Dt} {Q : VK}
theorem Same.frz (g : Same G H) (hl : H l = some (.lst vs)) : Same (upd G l (.lst vs)) H := fun b w e => by
  by_cases z : b = l
  · subst z
    rw [upd_same] at e
    rw [hl]
    exact e
  · rw [upd_ne z] at e
    exact g b w e
theorem w_frzI {n : Int} (gl : G l = none) (hl : H l = some (.lst vs)) (g : Same G H) (hd : Das X.K G vs ds) (hp : ∀ G1, Same G G1 → Da X.K G1 (.ref l) (.list ds) → Pu X e σ G1 (.int n)) (q : ∀ G' H', Step [] G H G' H' → Q (.int n) H') : eE X e σ H Q :=
  hp (upd G l (.lst vs)) (Same.toUpd gl) (.lst upd_same (hd.mono (Same.toUpd gl))) (upd G l (.lst vs)) H (Same.refl _) (Same.frz g hl) _ fun v G2 H2 st hv => by
    rw [hv.int_inv]
    exact q (del G2 l) H2 (st.thaw gl)
theorem t_frz {k : Bool} {Q : Bool → Hp → Prop} (gl : G l = none) (hl : H l = some (.lst vs)) (g : Same G H) (hd : Das X.K G vs ds) (hp : ∀ G1, Same G G1 → Da X.K G1 (.ref l) (.list ds) → PuT X e σ G1 k) (q : ∀ G' H', Step [] G H G' H' → Q k H') : eT X e σ H Q :=
  hp (upd G l (.lst vs)) (Same.toUpd gl) (.lst upd_same (hd.mono (Same.toUpd gl))) (upd G l (.lst vs)) H (Same.refl _) (Same.frz g hl) _ fun G2 H2 st => q (del G2 l) H2 (st.thaw gl)
theorem w_rangeE {R : It → Hp → Prop} (h : eE X a σ H fun v H1 => ∃ n : Int, v = .int n ∧ -(2 ^ 62) ≤ n ∧ n < 2 ^ 62 ∧ R (Itr 0 n.toNat) H1) (hm : X.mg "range" = none) (hg : Gl X "range" := by rfl) (hs : starEach [a] X.env = [(false, eval a X.env)] := by rfl) :
    eI X tg (.Call (.Name "range" p) [a] [] pos) σ H R := ⟨_, pi_range1 hg hm pa_e hs, a_cons (h.mono fun v H1 ⟨n, e, h1, h2, q⟩ => a_nil ⟨n, by rw [e], h1, h2, q⟩) hs⟩
end
section
variable {K : PySem.W.Frag} {G H : Hp} {a : Addr} {n : Nat} {l : Addr} {ds : List Dt} {G3 : Hp} {vs : List V} {H3 : Hp}
theorem LAt.newL {oa : HO} (s : Step [a] G H G3 H3) (hp : PotAt H3 a n) (hl : H3 l = none) (hd : Das K G3 vs ds) : LAt K G H a n l ds G3 vs (upd H3 l (.lst vs)) :=
  ⟨s.allocF hl, upd_same, s.s.free hl, s.free hl, hd, hp.of (upd_ne (ne_of_none hp.some.choose_spec hl))⟩
theorem Das.set {v : V} {d : Dt} : ∀ {vs : List V} {ds : List Dt} (i : Nat), Das K G vs ds → Da K G v d → Das K G (vs.set i v) (ds.set i d)
  | [], _, i, h, _ => by cases h; exact .nil
  | _ :: vs, _, 0, h, hv => by
    cases h with
    | cons h1 h2 => exact .cons hv h2
  | _ :: vs, _, i + 1, h, hv => by
    cases h with
    | cons h1 h2 => exact .cons h1 (Das.set i h2 hv)
theorem LAt.set (f : LAt K G H a n l ds G3 vs H3) (oa : HO) (ha : H a = some oa) (i : Nat) {v : V} {d : Dt} (hv : Da K G3 v d) : LAt K G H a n l (ds.set i d) G3 (vs.set i v) (upd H3 l (.lst (vs.set i v))) :=
  ⟨f.st.mutF f.h0 f.gl f.hl, upd_same, f.gl, f.h0, f.ds.set i hv, f.pot.of (upd_ne (f.nal oa ha))⟩
end
theorem split2 {ws : Wv} {i : Nat} (h : i + 1 < ws.length) : ws = ws.take i ++ ws[i] :: ws[i + 1] :: ws.drop (i + 2) := by
  have e1 : ws.drop i = ws[i] :: ws.drop (i + 1) := List.drop_eq_getElem_cons (by omega)
  have e2 : ws.drop (i + 1) = ws[i + 1] :: ws.drop (i + 2) := List.drop_eq_getElem_cons h
  rw [← e2, ← e1, List.take_append_drop]
theorem swap_list {α : Type} : ∀ (a : List α) (p q : α) (b : List α), ((a ++ p :: q :: b).set a.length q).set (a.length + 1) p = a ++ q :: p :: b
  | [], _, _, _ => rfl
  | x :: a, p, q, b => by
    show x :: ((a ++ p :: q :: b).set a.length q).set (a.length + 1) p = _
    rw [swap_list a p q b]
    rfl
section
variable {P : Program} {w : World} {K : PySem.W.Frag} {mg : Str → Option Value} {base : Heap}
def apB (k1 k2 : Kd) : Bool := !((lotK k1).any fun x => decide (x ∈ lotK k2))
theorem apB_iff {k1 k2 : Kd} : apB k1 k2 = true ↔ Apart k1 k2 := by
  unfold apB Apart
  rw [Bool.not_eq_true', List.any_eq_false]
  constructor
  · intro h x h1 h2
    exact h x (lotK_mem.mpr h1) (decide_eq_true (lotK_mem.mpr h2))
  · intro h x h1 h2
    exact h x (lotK_mem.mp h1) (lotK_mem.mp (of_decide_eq_true h2))
def rApart : List Dt → Dt → Prop := fun ds d => ∃ o i j, ds = [ownD o, .int i, .int j] ∧ OwnOk o ∧ 0 ≤ i ∧ i < o.kinds.length ∧ 0 ≤ j ∧ j < o.kinds.length ∧ d = .bool (apB (kAt o i) (kAt o j))
abbrev HApart (P w K mg base) := Has P w K mg base "_law_are_apart" 2 3 (spPure K 3 rApart)
def spWA (K : PySem.W.Frag) : Sp := fun vs H Q _ => ∃ (a : Addr) (v1 v2 : V) (G : Hp) (o : Own) (ws : Wv) (many c : Nat), vs = [.ref a, v1, v2, .int many] ∧ Same G H ∧ G a = none ∧ PotAt H a c ∧ c + many ≤ 1000000 ∧ Da K G v1 (ownD o) ∧ OwnOk o ∧ Da K G v2 (.tuple (ws.map meD)) ∧ ValidK o ws ∧ ws.length ≤ 1000 ∧
  ∀ ws' v G' H', Conn o ws ws' → Step [a] G H G' H' → PotAt H' a (c + many) → Da K G' v (.tuple (ws'.map meD)) → Q v H'
theorem scWA : FnScope ["pot", "own", "weaving", "many", "found", "lap", "at"] ["pot", "own", "weaving", "many"] (defScope t_law_woven_anew) := ⟨rfl, rfl, rfl, by decide +kernel, rfl, by decide +kernel, by decide +kernel⟩
abbrev HWA (P w K mg base) := Has P w K mg base "_law_woven_anew" 3 4 (spWA K)
theorem has_wa (T : Top1 K mg "_law_woven_anew" t_law_woven_anew ["pot", "own", "weaving", "many"]) (B : Blt mg) (hT : HTake P w K mg base) (hA : HApart P w K mg base) : HWA P w K mg base := by
  refine mkHas (k := 2) T scWA (fun vs H Q E ⟨_, _, _, _, _, _, _, _, h, _⟩ => by rw [h]; rfl) fun f cdv A outer s H vs Q E hr h => ?_
  obtain ⟨a, v1, v2, G, o, ws, many, c, rfl, g, ga, hP, hc, d1, ho, d2, hv, hl, k⟩ := h
  obtain ⟨oa, hoa⟩ := hP.some
  refine b_cons (s_set 4 scWA.nd (w_listT (pu_var 2 rfl d2) g B.list fun l vs1 G1 H1 s1 hl1 hd1 => ?_))
  have F1 : LAt K G H a c l (ws.map meD) G1 vs1 (upd H1 l (.lst vs1)) := LAt.newL (oa := oa) s1.pure (hP.step s1 (by simp)) hl1 hd1
  refine b_cons (s_forI (w_rangeE (w_frzI (n := (many : Int) * (if decide ((1 : Int) < (ws.length : Int)) = true then (1 : Int) else 0)) F1.gl F1.hl F1.st.s F1.ds (fun G2 g2 hl2 => pu_mul (pu_var 3 rfl (.int _)) (pu_intB (pu_c (c_gt (Pu.to (pu_lenL (pu_var 4 rfl hl2) B.len) (by rw [List.length_map])) pu_int)) B.int) ?mulok) fun G2 H2 s2 => ⟨_, rfl, ?lo, ?hi, G2, _, fun i σ H' => i ≤ many ∧ ∃ (G9 : Hp) (wv : Wv) (vs : List V) (u5 u6 : Option V), σ = [some (.ref a), some v1, some v2, some (.int many), some (.ref l), u5, u6] ∧ Same G2 G9 ∧ LAt K G H a (c + i) l (wv.map meD) G9 vs H' ∧ Conn o ws wv, walks_range, ?_, ?_, ?_, ?_⟩) B.range))
  case mulok => exact wide_mul (a := 62) (b := 62) (by omega) (by split <;> decide) (by decide) (by decide) (by decide)
  case lo => split <;> omega
  case hi => split <;> omega
  · exact ⟨Nat.zero_le _, G2, ws, vs1, _, _, rfl, Same.refl _, F1.pure s2 oa hoa, .refl ws⟩
  · rintro i σ H' ⟨_, G9, wv, vs, u5, u6, rfl, sg, F9, _⟩
    exact sg.trans F9.st.s
  · rintro i d y σ H' H9 hi ⟨him', G9, wv, vs, u5, u6, rfl, sg, F9, cn⟩ hw
    obtain ⟨him, rfl⟩ := rangeD_get hi
    have h2 : 2 ≤ ws.length ∧ i < many := by
      by_cases h : (1 : Int) < ws.length
      · rw [if_pos (decide_eq_true h)] at him
        omega
      · rw [if_neg (by rw [decide_eq_true_eq]; exact h)] at him
        simp at him
    have lw : wv.length = ws.length := cn.len.symm
    obtain ⟨G10, s10, hx10⟩ := hw G9 sg F9.st.s
    have F10 := F9.pure s10 oa hoa
    have g110 := s2.g.trans (sg.trans s10.g)
    have hvw : ValidK o wv := fun x hx => hv x (cn.perm.mem_iff.mpr hx)
    have d110 := d1.mono (s1.g.trans g110)
    refine g_name 5 scWA.nd (b_cons (s_set 6 scWA.nd (w_take hT hr (by decide) 0 rfl (u := ((wv.map meD).length : Int) - 1) (G1 := upd G10 l (.lst vs)) (pu_sub (pu_lenL (pu_var 4 rfl (.lst upd_same (F10.ds.mono (Same.toUpd F10.gl)))) B.len) pu_int) (Same.frz F10.st.s F10.hl) (by rw [upd_ne (F10.nal oa hoa)]; exact F10.st.out ga hoa) F10.st.s (F10.st.out ga hoa) F10.pot (by omega) (by rw [List.length_map]; omega) (by rw [List.length_map]; omega) fun r H11 r0 r1 s11 hP11 => ?_)))
    rw [List.length_map] at r1
    obtain ⟨m, rfl⟩ : ∃ m : Nat, r = m := ⟨r.toNat, by omega⟩
    have hm1 : m + 1 < wv.length := by omega
    have F11 := F10.step s11 hP11 oa hoa
    have esp := split2 hm1
    have hpg : wv[m]? = some wv[m] := List.getElem?_eq_getElem (by omega)
    have hqg : wv[m + 1]? = some wv[m + 1] := List.getElem?_eq_getElem hm1
    have la : (wv.take m).length = m := by rw [List.length_take]; omega
    generalize hp' : wv[m] = p at esp hpg
    generalize hq' : wv[m + 1] = q at esp hqg
    obtain ⟨p0, p1⟩ := hvw p (List.mem_of_getElem? hpg)
    obtain ⟨q0, q1⟩ := hvw q (List.mem_of_getElem? hqg)
    have pAt : (wv.map meD)[((m : Nat) : Int).toNat]? = some (meD p) := by
      rw [Int.toNat_natCast, List.getElem?_map, hpg]
      rfl
    have qAt : (wv.map meD)[(((m : Nat) : Int) + 1).toNat]? = some (meD q) := by
      rw [show (((m : Nat) : Int) + 1).toNat = m + 1 by omega, List.getElem?_map, hqg]
      rfl
    refine b_one (s_if (t_frz (k := apB (kAt o p.1) (kAt o q.1)) F11.gl F11.hl F11.st.s F11.ds (fun G12 g12 hl12 => put_val (pu_call hA hr (by decide) (pua_cons (pu_var 1 rfl (d110.mono g12)) (pua_cons (pu_ixT (i := 0) (pu_ixL (pu_var 4 rfl hl12) (pu_var 6 rfl (.int _)) (by omega) pAt) pu_int (by decide) rfl) (pua_cons (pu_ixT (i := 0) (pu_ixL (pu_var 4 rfl hl12) (pu_add (pu_var 6 rfl (.int _)) pu_int) (by omega) qAt) pu_int (by decide) rfl) pua_nil))) ⟨o, p.1, q.1, rfl, ho, p0, p1, q0, q1, rfl⟩ rfl)) fun G12 H12 s12 => ite2 (fun hap => ?_) (fun _ => b_nil ?_)))
    · have F12 := F11.pure s12 oa hoa
      have ap := apB_iff.mp hap
      have lvs : vs.length = wv.length := by have := F12.ds.length; rw [List.length_map] at this; exact this
      obtain ⟨vp, evp, dvp⟩ := F12.ds.get' (i := m) (d := meD p) (by rw [List.getElem?_map, hpg]; rfl)
      obtain ⟨vq, evq, dvq⟩ := F12.ds.get' (i := m + 1) (d := meD q) (by rw [List.getElem?_map, hqg]; rfl)
      have ix1 : ixN vs.length (((m : Nat) : Int) + 1) = some (m + 1) := by
        rw [ixN_nn (by omega) (by omega)]
        congr 1
      have ix0 : ixN vs.length ((m : Nat) : Int) = some m := by
        rw [ixN_nn (by omega) (by omega), Int.toNat_natCast]
      refine b_one (s_asg (w_tup (a_cons (w_ix ix_list (w_var 4 rfl (w_pu (pu_add (pu_var 6 rfl (.int _)) pu_int) F12.st.s fun v13 G13 H13 s13 hv13 => ?_))))))
      obtain rfl := hv13.int_inv
      have F13 := F12.pure s13 oa hoa
      refine ⟨l, vs, _, vq, rfl, rfl, SqL.of F13.hl, by unfold atI; rw [ix1]; exact evq, a_cons (w_ix ix_list (w_var 4 rfl (w_var 6 rfl ⟨l, vs, _, vp, rfl, rfl, SqL.of F13.hl, by unfold atI; rw [ix0]; exact evp, a_nil ⟨by show 2 ≤ sizeLine; decide, fun t ht => ?_⟩⟩)))⟩
      have F14 := F13.pure (Step.allocM (o := .tup [vq, vp]) F13.st.s ht) oa hoa
      refine g_tup (xs := [vq, vp]) (SqT.of upd_same) rfl (gs_cons (g_sub (w_var 4 rfl (w_var 6 rfl ⟨l, vs, _, m, rfl, rfl, F14.hl, ix0, ?_⟩))))
      have F15 := F14.set oa hoa m (dvq.mono s13.g)
      refine gs_cons (g_sub (w_var 4 rfl (w_pu (pu_add (pu_var 6 rfl (.int _)) pu_int) F15.st.s fun v16 G16 H16 s16 hv16 => ?_)))
      obtain rfl := hv16.int_inv
      have F16 := F15.pure s16 oa hoa
      refine ⟨l, vs.set m vq, _, m + 1, rfl, rfl, F16.hl, by rw [List.length_set]; exact ix1, gs_nil ?_⟩
      have F17 := F16.set oa hoa (m + 1) (dvp.mono (s13.g.trans s16.g))
      have eds : ((wv.map meD).set m (meD q)).set (m + 1) (meD p) = (wv.take m ++ q :: p :: wv.drop (m + 2)).map meD := by
        have := swap_list ((wv.take m).map meD) (meD p) (meD q) ((wv.drop (m + 2)).map meD)
        rw [List.length_map, la] at this
        have e2 : (wv.take m).map meD ++ meD p :: meD q :: (wv.drop (m + 2)).map meD = wv.map meD := by
          rw [← List.map_cons, ← List.map_cons, ← List.map_append, ← esp]
        rw [e2] at this
        rw [this, List.map_append, List.map_cons, List.map_cons]
      rw [eds] at F17
      refine ⟨h2.2, G16, wv.take m ++ q :: p :: wv.drop (m + 2), (vs.set m vq).set (m + 1) vp, _, _, rfl, sg.trans (s10.g.trans (s12.g.trans (s13.g.trans s16.g))), F17.up (by omega), cn.trans ?_⟩
      have := Conn.swap (o := o) (wv.take m) p q (wv.drop (m + 2)) ap
      rw [← esp] at this
      exact this
    · exact ⟨h2.2, G12, wv, vs, _, _, rfl, sg.trans (s10.g.trans s12.g), (F11.pure s12 oa hoa).up (by omega), cn⟩
  · rintro σ H' ⟨_, G9, wv, vs, u5, u6, rfl, sg, F9, cn⟩
    have fz := F9.st.freeze F9.h0 F9.hl F9.gl
    have ib : (rangeD 0 ((many : Int) * (if decide ((1 : Int) < (ws.length : Int)) = true then (1 : Int) else 0)).toNat).length ≤ many := by
      rw [rangeD_len]
      split <;> omega
    refine b_one (s_ret (w_pu (pu_tupleL (pu_var 4 rfl (.lst upd_same (F9.ds.mono (Same.toUpd F9.gl)))) B.tuple) fz.s fun v10 G10 H10 s10 hv10 => k wv v10 G10 H10 cn (fz.trans s10.pure) ((F9.pot.step s10 (by simp)).up (by omega)) hv10))
end
end Mb

set_option Elab.async false
set_option linter.all false
set_option maxRecDepth 100000
set_option maxHeartbeats 4000000
namespace Mb
open PySem PySem.Spec PyProof.Rows L2 TL
/-! ### a list of lists that change -/
structure RAt (K : PySem.W.Frag) (G H : Hp) (l : Addr) (ls : List Addr) (L : List (List Dt)) (G3 H3 : Hp) : Prop where
  st : Step [] G H G3 H3
  hl : H3 l = some (.lst (ls.map V.ref))
  gl : G3 l = none
  h0 : H l = none
  nd : (l :: ls).Nodup
  len : ls.length = L.length
  at_ : ∀ (k : Nat) (x : Addr), ls[k]? = some x → G3 x = none ∧ H x = none ∧ ∃ vs ds, H3 x = some (.lst vs) ∧ L[k]? = some ds ∧ Das K G3 vs ds
section
variable {K : PySem.W.Frag} {G H : Hp} {l x : Addr} {ls : List Addr} {L : List (List Dt)} {G3 H3 G5 H5 : Hp}
theorem RAt.new (s : Step [] G H G3 H3) (hl : H3 l = none) : RAt K G H l [] [] G3 (upd H3 l (.lst [])) :=
  ⟨s.allocF hl, upd_same, s.s.free hl, s.free hl, by simp, rfl, fun k x h => by simp at h⟩
theorem RAt.pure (f : RAt K G H l ls L G3 H3) (s : Step [] G3 H3 G5 H5) : RAt K G H l ls L G5 H5 :=
  ⟨f.st.trans s, s.keep f.hl (by simp), s.out f.gl f.hl, f.h0, f.nd, f.len, fun k x h => by
    obtain ⟨a1, a2, vs, ds, a3, a4, a5⟩ := f.at_ k x h
    exact ⟨s.out a1 a3, a2, vs, ds, s.keep a3 (by simp), a4, a5.mono s.g⟩⟩
theorem RAt.ne (f : RAt K G H l ls L G3 H3) {k : Nat} (h : ls[k]? = some x) : x ≠ l := fun e => by
  have := (List.nodup_cons.mp f.nd).1
  exact this (by rw [← e]; exact List.mem_of_getElem? h)
theorem idx_one {ls : List Addr} (nd : ls.Nodup) {j k : Nat} (h1 : ls[j]? = some x) (h2 : ls[k]? = some x) : j = k := by
  obtain ⟨a1, a2⟩ := List.getElem?_eq_some_iff.mp h1
  obtain ⟨b1, b2⟩ := List.getElem?_eq_some_iff.mp h2
  rcases Nat.lt_trichotomy j k with h | h | h
  · exact absurd (a2.trans b2.symm) (List.pairwise_iff_getElem.mp (List.nodup_iff_pairwise_ne.mp nd) _ _ a1 b1 h)
  · exact h
  · exact absurd (b2.trans a2.symm) (List.pairwise_iff_getElem.mp (List.nodup_iff_pairwise_ne.mp nd) _ _ b1 a1 h)
/-- l.append([]) -/
theorem RAt.grow (f : RAt K G H l ls L G3 H3) (hx : H3 x = none) : RAt K G H l (ls ++ [x]) (L ++ [[]]) G3 (upd (upd H3 x (.lst [])) l (.lst ((ls ++ [x]).map V.ref))) := by
  have nlx : l ≠ x := ne_of_none f.hl hx
  have s1 : Step [] G H G3 (upd H3 x (.lst [])) := f.st.allocF hx
  have hl1 : (upd H3 x (.lst [])) l = some (.lst (ls.map V.ref)) := by rw [upd_ne nlx]; exact f.hl
  have nx : ∀ y ∈ ls, y ≠ x := fun y hy => by
    obtain ⟨k, hk⟩ := List.getElem?_of_mem hy
    obtain ⟨_, _, vs, _, a3, _⟩ := f.at_ k y hk
    exact ne_of_none a3 hx
  refine ⟨s1.mutF f.h0 f.gl hl1, upd_same, f.gl, f.h0, ?_, by rw [List.length_append, List.length_append, f.len]; rfl, fun k y h => ?_⟩
  · have h1 := List.nodup_cons.mp f.nd
    rw [List.nodup_cons, List.mem_append, List.mem_singleton, List.nodup_append]
    exact ⟨fun e => e.elim h1.1 nlx, h1.2, by simp, fun a ha b hb e => by
      rw [List.mem_singleton] at hb
      exact nx a ha (e.trans hb)⟩
  · rcases Nat.lt_or_ge k ls.length with hk | hk
    · rw [List.getElem?_append_left hk] at h
      obtain ⟨a1, a2, vs, ds, a3, a4, a5⟩ := f.at_ k y h
      exact ⟨a1, a2, vs, ds, by rw [upd_ne (f.ne h), upd_ne (nx y (List.mem_of_getElem? h))]; exact a3, by rw [List.getElem?_append_left (by rw [← f.len]; exact hk)]; exact a4, a5⟩
    · rw [List.getElem?_append_right hk] at h
      have hk0 : k = ls.length := by
        have := (List.getElem?_eq_some_iff.mp h).1
        rw [List.length_singleton] at this
        omega
      subst hk0
      rw [Nat.sub_self] at h
      obtain rfl := Option.some.inj h
      refine ⟨f.st.s.free hx, f.st.free hx, [], [], by rw [upd_ne (Ne.symm nlx)]; exact upd_same, ?_, .nil⟩
      rw [f.len, List.getElem?_append_right (Nat.le_refl _), Nat.sub_self]
      rfl
/-- l[k].append(v) -/
theorem RAt.app (f : RAt K G H l ls L G3 H3) {k : Nat} (hk : ls[k]? = some x) {vs : List V} (hx : H3 x = some (.lst vs)) {v : V} {d : Dt} (hv : Da K G3 v d) : RAt K G H l ls (L.modify k (· ++ [d])) G3 (upd H3 x (.lst (vs ++ [v]))) := by
  obtain ⟨a1, a2, _⟩ := f.at_ k x hk
  refine ⟨f.st.mutF a2 a1 hx, by rw [upd_ne (Ne.symm (f.ne hk))]; exact f.hl, f.gl, f.h0, f.nd, by rw [List.length_modify]; exact f.len, fun j y h => ?_⟩
  obtain ⟨b1, b2, ws, ds, b3, b4, b5⟩ := f.at_ j y h
  by_cases e : y = x
  · subst e
    have ej := idx_one (List.nodup_cons.mp f.nd).2 h hk
    subst ej
    rw [hx] at b3
    cases b3
    refine ⟨b1, b2, _, ds ++ [d], upd_same, ?_, b5.snoc hv⟩
    rw [List.getElem?_modify, b4]
    simp
  · have ej : k ≠ j := fun ej => by
      subst ej
      exact e (Option.some.inj (h.symm.trans hk))
    refine ⟨b1, b2, ws, ds, by rw [upd_ne e]; exact b3, ?_, b5⟩
    rw [List.getElem?_modify, b4]
    simp [ej]
theorem das_at {G' : Hp} : ∀ {ls : List Addr} {L : List (List Dt)}, ls.length = L.length → (∀ (k : Nat) (x : Addr), ls[k]? = some x → ∃ vs ds, G' x = some (.lst vs) ∧ L[k]? = some ds ∧ Das K G' vs ds) → Das K G' (ls.map V.ref) (L.map PyData.list)
  | [], [], _, _ => .nil
  | [], _ :: _, h, _ => by cases h
  | _ :: _, [], h, _ => by cases h
  | x :: ls, D :: L, h, at_ => by
    obtain ⟨vs, ds, h1, h2, h3⟩ := at_ 0 x rfl
    obtain rfl := Option.some.inj h2
    exact .cons (.lst h1 h3) (das_at (by simpa using h) fun k y hy => at_ (k + 1) y hy)
/-- all of it, as it stands -/
theorem RAt.fin (f : RAt K G H l ls L G3 H3) : ∃ G', Step [] G H G' H3 ∧ Same G3 G' ∧ Da K G' (.ref l) (.list (L.map PyData.list)) := by
  let G' : Hp := fun b => if b ∈ l :: ls then H3 b else G3 b
  have gn : ∀ b ∈ l :: ls, G3 b = none ∧ H b = none := fun b hb => by
    rcases List.mem_cons.mp hb with rfl | hb
    · exact ⟨f.gl, f.h0⟩
    · obtain ⟨k, hk⟩ := List.getElem?_of_mem hb
      exact ⟨(f.at_ k b hk).1, (f.at_ k b hk).2.1⟩
  have s3 : Same G3 G' := fun b o e => by
    show (if b ∈ l :: ls then H3 b else G3 b) = some o
    by_cases h : b ∈ l :: ls
    · rw [(gn b h).1] at e
      cases e
    · rw [if_neg h]
      exact e
  have inn : ∀ b ∈ l :: ls, G' b = H3 b := fun b hb => if_pos hb
  refine ⟨G', ⟨f.st.g.trans s3, fun b o e => ?_, f.st.fr, fun b o e => ?_⟩, s3, .lst (by rw [inn l List.mem_cons_self]; exact f.hl) (das_at f.len fun k x hk => ?_)⟩
  · by_cases h : b ∈ l :: ls
    · rw [inn b h] at e
      exact e
    · have : G' b = G3 b := if_neg h
      rw [this] at e
      exact f.st.s b o e
  · by_cases h : b ∈ l :: ls
    · exact .inr (gn b h).2
    · have : G' b = G3 b := if_neg h
      rw [this] at e
      exact f.st.new b o e
  · obtain ⟨_, _, vs, ds, a3, a4, a5⟩ := f.at_ k x hk
    exact ⟨vs, ds, by rw [inn x (List.mem_cons_of_mem _ (List.mem_of_getElem? hk))]; exact a3, a4, a5.mono s3⟩
end
end Mb

set_option Elab.async false
set_option linter.all false
set_option maxRecDepth 100000
set_option maxHeartbeats 4000000
namespace Mb
open PySem PySem.Spec PyProof.Rows L2 TL
/-! ### sorted of a list of meetings -/
def leP (a b : Int × Int) : Bool := !SrtO.lexB b a
def sortW (ws : Wv) : Wv := ws.mergeSort leP
theorem leP_iff {a b : Int × Int} : leP a b = true ↔ a.1 < b.1 ∨ (a.1 = b.1 ∧ a.2 ≤ b.2) := by
  unfold leP
  rw [Bool.not_eq_true', SrtO.lexB_no]
  omega
theorem sortW_perm (ws : Wv) : (sortW ws).Perm ws := List.mergeSort_perm ws leP
theorem sortW_sorted (ws : Wv) : (sortW ws).Pairwise fun a b => leP a b = true := List.pairwise_mergeSort (le := leP) (fun a b c h1 h2 => by
  rw [leP_iff] at h1 h2 ⊢
  omega) (fun a b => by
  rw [Bool.or_eq_true, leP_iff, leP_iff]
  omega) ws
theorem sorted_one : ∀ {a b : Wv}, a.Perm b → (a.Pairwise fun x y => leP x y = true) → (b.Pairwise fun x y => leP x y = true) → a = b
  | [], b, h, _, _ => (List.nil_perm.mp h).symm
  | x :: a, [], h, _, _ => by have := h.length_eq; simp at this
  | x :: a, y :: b, h, ha, hb => by
    rw [List.pairwise_cons] at ha hb
    have hxy : x = y := by
      have h1 : x ∈ y :: b := h.mem_iff.mp List.mem_cons_self
      have h2 : y ∈ x :: a := h.mem_iff.mpr List.mem_cons_self
      rcases List.mem_cons.mp h1 with e | h1
      · exact e
      rcases List.mem_cons.mp h2 with e | h2
      · exact e.symm
      have a1 := leP_iff.mp (hb.1 x h1)
      have a2 := leP_iff.mp (ha.1 y h2)
      exact Prod.ext (by omega) (by omega)
    subst hxy
    rw [sorted_one h.cons_inv ha.2 hb.2]
theorem sortW_of {a : Wv} {ws : Wv} (h : a.Perm ws) (hs : a.Pairwise fun x y => leP x y = true) : a = sortW ws := sorted_one (h.trans (sortW_perm ws).symm) hs (sortW_sorted ws)
def rSortedW (K : PySem.W.Frag) : List V → Hp → VK → Prop := fun vs H Q => ∃ (a : Addr) (xs : List V) (ws : Wv), vs = [V.ref a] ∧ SqL K H a xs ∧ Das K H xs (ws.map meD) ∧ ∀ (ys : List V) (p : Addr) (k : V → Int × Int), (∀ (i : Nat) (x : V) (p : Int × Int), xs[i]? = some x → ws[i]? = some p → k x = p) → ys.Perm xs → ys.map k = sortW ws → H p = none → Q (.ref p) (upd H p (.lst ys))
theorem das_me {K : PySem.W.Frag} {H : Hp} {xs : List V} {ws : Wv} (h : Das K H xs (ws.map meD)) {x : V} (hx : x ∈ xs) : ∃ (i : Nat) (p : Int × Int), xs[i]? = some x ∧ ws[i]? = some p ∧ ∃ t, x = .ref t ∧ SqT K H t [.int p.1, .int p.2] := by
  obtain ⟨i, hi⟩ := List.getElem?_of_mem hx
  obtain ⟨d, hd, hv⟩ := h.get hi
  rw [List.getElem?_map] at hd
  obtain ⟨p, hp, rfl⟩ := Option.map_eq_some_iff.mp hd
  obtain ⟨t, ts, rfl, ht, hts⟩ := hv.tup_inv
  cases hts with
  | cons h1 hts =>
  cases hts with
  | cons h2 hts =>
  cases hts
  obtain rfl := h1.int_inv
  obtain rfl := h2.int_inv
  exact ⟨i, p, hi, hp, t, rfl, ht⟩
theorem das_of_k {K : PySem.W.Frag} {H : Hp} {k : V → Int × Int} : ∀ {ys : List V}, (∀ y ∈ ys, Da K H y (meD (k y))) → Das K H ys ((ys.map k).map meD)
  | [], _ => .nil
  | y :: ys, h => .cons (h y List.mem_cons_self) (das_of_k fun z hz => h z (List.mem_cons_of_mem _ hz))
theorem cr_sortedW {X : Cx} : CallR X (.builtin "sorted") (rSortedW X.K) := by
  intro pins s σ H vs us Q I r h
  obtain ⟨a, xs, ws, rfl, hs, hx, q⟩ := h
  obtain ⟨its, rv, hl, hz⟩ := I.list hs
  obtain ⟨u, rfl, ru⟩ := vals1 r
  obtain rfl : u = Value.ref a := ru
  obtain ⟨e1, e2⟩ := refs_back rv fun x m => by
    obtain ⟨_, _, _, _, t, e, _⟩ := das_me hx m
    exact ⟨t, e⟩
  let k : V → Int × Int := fun v => (((xs.zip ws).find? fun z => decide (z.1 = v)).map (·.2)).getD (0, 0)
  have hlen : xs.length = ws.length := by have := hx.length; rw [List.length_map] at this; exact this
  have key : ∀ (i : Nat) (x : V) (p : Int × Int), xs[i]? = some x → ws[i]? = some p → k x = p := by
    intro i x p h1 h2
    have hm : (x, p) ∈ xs.zip ws := by
      refine List.mem_of_getElem? (i := i) ?_
      rw [List.getElem?_zip_eq_some]
      exact ⟨h1, h2⟩
    show (((xs.zip ws).find? fun z => decide (z.1 = x)).map (·.2)).getD (0, 0) = p
    cases hf : (xs.zip ws).find? fun z => decide (z.1 = x) with
    | none =>
      have := List.find?_eq_none.mp hf _ hm
      simp at this
    | some z =>
      have hz1 : z.1 = x := by simpa using List.find?_some hf
      obtain ⟨j, hj⟩ := List.getElem?_of_mem (List.mem_of_find?_eq_some hf)
      obtain ⟨j1, j2⟩ := List.getElem?_zip_eq_some.mp hj
      rw [hz1] at j1
      obtain ⟨d1, g1, f1⟩ := hx.get h1
      obtain ⟨d2, g2, f2⟩ := hx.get j1
      rw [List.getElem?_map, h2] at g1
      rw [List.getElem?_map, j2] at g2
      obtain rfl := Option.some.inj g1
      obtain rfl := Option.some.inj g2
      obtain ⟨t, ts, et, ht, hts⟩ := f1.tup_inv
      obtain ⟨t', ts', et', ht', hts'⟩ := f2.tup_inv
      obtain rfl : t = t' := by
        have := et.symm.trans et'
        injection this
      have ets := I.tuple_inj ht ht'
      subst ets
      cases hts with
      | cons a1 hts =>
      cases hts with
      | cons a2 hts =>
      cases hts' with
      | cons b1 hts' =>
      cases hts' with
      | cons b2 hts' =>
      have c1 := a1.int_inv.symm.trans b1.int_inv
      have c2 := a2.int_inv.symm.trans b2.int_inv
      injection c1 with c1
      injection c2 with c2
      show z.2 = p
      exact Prod.ext c1.symm c2.symm
  have hk : ∀ x ∈ xs, Da X.K H x (meD (k x)) ∧ ∃ t, x = .ref t ∧ SqT X.K H t [.int (k x).1, .int (k x).2] := by
    intro x hxm
    obtain ⟨i, p, h1, h2, t, e, ht⟩ := das_me hx hxm
    rw [key i x p h1 h2]
    refine ⟨?_, t, e, ht⟩
    rw [e]
    exact .tup ht (.cons (.int _) (.one (.int _)))
  have hmap : xs.map k = ws := by
    apply List.ext_getElem?
    intro i
    rw [List.getElem?_map]
    by_cases hi : i < xs.length
    · rw [List.getElem?_eq_getElem hi, List.getElem?_eq_getElem (by omega : i < ws.length)]
      exact congrArg some (key i _ _ (List.getElem?_eq_getElem hi) (List.getElem?_eq_getElem (by omega)))
    · rw [List.getElem?_eq_none (by omega), List.getElem?_eq_none (by omega)]
      rfl
  refine SrtO.sorted_pairsO (k := fun u => k (backV u)) hl.isList (by rw [← rv.length]; exact hz) (fun v hv => ?_) fun h' d out h1 h2 kp hd hn => ?_
  · obtain ⟨t, rfl⟩ := e2 v hv
    have hm : V.ref t ∈ xs := by rw [e1]; exact List.mem_map.mpr ⟨_, hv, rfl⟩
    obtain ⟨_, t', e, ht⟩ := hk _ hm
    cases e
    obtain ⟨its2, r2, ⟨o, ho, hc, n, hd⟩, _⟩ := I.tuple ht
    obtain ⟨u1, u2, rfl, ri, rj⟩ := vals2 r2
    obtain ⟨t1, rfl⟩ := ri
    obtain ⟨t2, rfl⟩ := rj
    exact ⟨t, o, t1, t2, n, rfl, ho, hc, hd⟩
  · have h3 : ∀ u ∈ out, ∃ a, u = Value.ref a := fun u hu => e2 u (h2.perm.mem_iff.mp hu)
    obtain ⟨n, hn⟩ := hn
    have hb : SrtO.Stb (ltP k) (out.map backV) xs := by
      rw [e1]
      exact SrtO.Stb.map (ltP_swo k) backV h2
    have e3 : (out.map backV).map k = sortW ws := by
      refine sortW_of ?_ ?_
      · rw [← hmap]
        exact hb.perm.map k
      · have := SrtO.srtd_map (f := backV) (lt := ltP k) h1
        exact List.pairwise_map.mpr (this.imp fun {x y} h => by
          unfold leP
          rw [Bool.not_eq_true']
          exact h)
    refine ⟨.ref d, upd H d (.lst (out.map backV)), I.laid (t' := s.toks) kp hd ⟨?_, out, n, vals_back h3, hn⟩, rfl, q _ d k key hb.perm e3 (I.hok.fresh hd)⟩
    rw [hb.len]
    exact hz
section
variable {X : Cx} {σ : L2.St} {G : Hp} {a : Expr} {p pos : Pos} {ws : Wv}
theorem pu_sortedW (ha : Pu X a σ G (.list (ws.map meD))) (hm : X.mg "sorted" = none) (hg : Gl X "sorted" := by rfl) (he : starEach [a] X.env = [(false, eval a X.env)] := by rfl) : Pu X (.Call (.Name "sorted" p) [a] [] pos) σ G (.list ((sortW ws).map meD)) :=
  pu_one cr_sortedW ha (fun G1 H v g s hv Q q => by
    obtain ⟨l, vs, rfl, h1, h2⟩ := hv.lst_inv
    refine ⟨l, vs, ws, rfl, SqL.of (s _ _ h1), h2.mono s, fun ys p k hk hp e hn => q _ _ _ (Step.alloc s hn) (.lst upd_same (Das.mono (Same.toUpd (s.free hn)) ?_))⟩
    rw [← e]
    refine das_of_k fun y hy => ?_
    obtain ⟨i, p, h3, h4, t, rfl, ht⟩ := das_me h2 (hp.mem_iff.mp hy)
    rw [hk i _ p h3 h4]
    exact .tup ht (.cons (.int _) (.one (.int _)))) hm boot_sorted hg (by decide) (by decide) he
end
end Mb

set_option Elab.async false
set_option linter.all false
set_option maxRecDepth 100000
set_option maxHeartbeats 4000000
namespace Mb
open PySem PySem.Spec PyProof.Rows L2 TL
/-! ### levels -/
def lotW (o : Own) (p : Int × Int) : List Int := lotK (kAt o p.1)
def maxI : List Int → Int
  | [] => 0
  | x :: xs => xs.foldl max x
def lvN (ts l : List Int) : Int := maxI (l.map (gH ts))
def setAll (ts l : List Int) (v : Int) : List Int := l.foldl (fun ts h => ts.set h.toNat v) ts
def putLv (L : List Wv) (n : Nat) (p : Int × Int) : List Wv := if n = L.length then L ++ [[p]] else L.modify n (· ++ [p])
abbrev LvS := List Int × List Wv
def lvS (o : Own) (s : LvS) (p : Int × Int) : LvS := (setAll s.1 (lotW o p) (lvN s.1 (lotW o p) + 1), putLv s.2 (lvN s.1 (lotW o p)).toNat p)
def lvR (o : Own) (s : LvS) (ws : Wv) : LvS := ws.foldl (lvS o) s
section
variable {n : Nat} {ts l l1 l2 : List Int} {v v1 v2 y : Int}
theorem setAll_len : ∀ {l ts : List Int}, (setAll ts l v).length = ts.length
  | [], _ => rfl
  | h :: l, ts => by
    show (setAll (ts.set h.toNat v) l v).length = ts.length
    rw [setAll_len, List.length_set]
theorem gH_setAll : ∀ {l ts : List Int}, ts.length = n → (∀ h ∈ l, 0 ≤ h ∧ h < n) → 0 ≤ y → gH (setAll ts l v) y = if y ∈ l then v else gH ts y
  | [], ts, _, _, _ => by rw [if_neg (by simp)]; rfl
  | h :: l, ts, hl, hm, h0 => by
    have hh := hm h List.mem_cons_self
    show gH (setAll (ts.set h.toNat v) l v) y = _
    rw [gH_setAll (by rw [List.length_set]; exact hl) (fun x hx => hm x (List.mem_cons_of_mem _ hx)) h0, gH_set hh.1 (by omega) h0]
    by_cases e1 : y ∈ l
    · rw [if_pos e1, if_pos (List.mem_cons_of_mem _ e1)]
    · rw [if_neg e1]
      by_cases e2 : y = h
      · rw [if_pos e2, if_pos (by rw [e2]; exact List.mem_cons_self)]
      · rw [if_neg e2, if_neg (by simp [e1, e2])]
theorem maxI_mem : ∀ {l : List Int}, l ≠ [] → maxI l ∈ l ∧ ∀ x ∈ l, x ≤ maxI l
  | [], h => (h rfl).elim
  | x :: xs, _ => by
    have key : ∀ (xs : List Int) (x : Int), (xs.foldl max x = x ∨ xs.foldl max x ∈ xs) ∧ x ≤ xs.foldl max x ∧ ∀ z ∈ xs, z ≤ xs.foldl max x := by
      intro xs
      induction xs with
      | nil => exact fun x => ⟨.inl rfl, Int.le_refl _, by simp⟩
      | cons z zs ih =>
        intro x
        obtain ⟨a, b, c⟩ := ih (max x z)
        have h1 : x ≤ max x z := Int.le_max_left _ _
        have h2 : z ≤ max x z := Int.le_max_right _ _
        refine ⟨?_, Int.le_trans h1 b, fun w hw => ?_⟩
        · rcases a with a | a
          · by_cases e : x ≤ z
            · right
              show List.foldl max (max x z) zs ∈ z :: zs
              rw [a, Int.max_eq_right e]
              exact List.mem_cons_self
            · left
              show List.foldl max (max x z) zs = x
              rw [a, Int.max_eq_left (by omega)]
          · exact .inr (List.mem_cons_of_mem _ a)
        · rcases List.mem_cons.mp hw with rfl | hw
          · exact Int.le_trans h2 b
          · exact c w hw
    obtain ⟨a, b, c⟩ := key xs x
    refine ⟨?_, fun z hz => ?_⟩
    · rcases a with a | a
      · show xs.foldl max x ∈ x :: xs
        rw [a]
        exact List.mem_cons_self
      · exact List.mem_cons_of_mem _ a
    · rcases List.mem_cons.mp hz with rfl | hz
      · exact b
      · exact c z hz
theorem setAll_comm (hl : ts.length = n) (h1 : ∀ h ∈ l1, 0 ≤ h ∧ h < n) (h2 : ∀ h ∈ l2, 0 ≤ h ∧ h < n) (hd : ∀ h ∈ l1, h ∉ l2) : setAll (setAll ts l1 v1) l2 v2 = setAll (setAll ts l2 v2) l1 v1 := by
  refine gH_ext (n := n) (by rw [setAll_len, setAll_len]; exact hl) (by rw [setAll_len, setAll_len]; exact hl) fun y y0 _ => ?_
  rw [gH_setAll (by rw [setAll_len]; exact hl) h2 y0, gH_setAll hl h1 y0, gH_setAll (by rw [setAll_len]; exact hl) h1 y0, gH_setAll hl h2 y0]
  by_cases a : y ∈ l1
  · rw [if_pos a, if_neg (hd y a), if_pos a]
  · rw [if_neg a, if_neg a]
theorem lvN_other (hl : ts.length = n) (h1 : ∀ h ∈ l1, 0 ≤ h ∧ h < n) (h2 : ∀ h ∈ l2, 0 ≤ h ∧ h < n) (hd : ∀ h ∈ l1, h ∉ l2) : lvN (setAll ts l1 v) l2 = lvN ts l2 := by
  unfold lvN
  congr 1
  refine List.map_congr_left fun h hh => ?_
  rw [gH_setAll hl h1 (h2 h hh).1, if_neg fun e => hd h e hh]
end
/-! levels alike but for the order within -/
structure PermL (L L' : List Wv) : Prop where
  len : L.length = L'.length
  at_ : ∀ i, (L.getD i []).Perm (L'.getD i [])
section
variable {L L' : List Wv} {n m : Nat} {p q : Int × Int}
theorem put_len (h : n ≤ L.length) : (putLv L n p).length = max L.length (n + 1) := by
  unfold putLv
  by_cases e : n = L.length
  · rw [if_pos e, List.length_append, List.length_singleton]
    omega
  · rw [if_neg e, List.length_modify]
    omega
theorem put_at (h : n ≤ L.length) (i : Nat) : (putLv L n p).getD i [] = if i = n then L.getD i [] ++ [p] else L.getD i [] := by
  unfold putLv
  rw [List.getD_eq_getElem?_getD, List.getD_eq_getElem?_getD]
  by_cases e : n = L.length
  · rw [if_pos e]
    by_cases ei : i = n
    · rw [if_pos ei, ei, e, List.getElem?_append_right (Nat.le_refl _), Nat.sub_self, List.getElem?_eq_none (Nat.le_refl _)]
      rfl
    · rw [if_neg ei]
      by_cases hi : i < L.length
      · rw [List.getElem?_append_left hi]
      · rw [List.getElem?_append_right (by omega), List.getElem?_eq_none (by simp; omega), List.getElem?_eq_none (by omega)]
  · rw [if_neg e, List.getElem?_modify]
    by_cases ei : i = n
    · subst ei
      rw [if_pos rfl, List.getElem?_eq_getElem (by omega)]
      simp
    · rw [if_neg ei]
      cases L[i]? <;> simp [Ne.symm ei]
theorem PermL.refl (L : List Wv) : PermL L L := ⟨rfl, fun _ => .refl _⟩
theorem PermL.trans {L'' : List Wv} (h : PermL L L') (h' : PermL L' L'') : PermL L L'' := ⟨h.len.trans h'.len, fun i => (h.at_ i).trans (h'.at_ i)⟩
theorem PermL.put (h : PermL L L') (hn : n ≤ L.length) : PermL (putLv L n p) (putLv L' n p) := by
  have hn' : n ≤ L'.length := by rw [← h.len]; exact hn
  refine ⟨by rw [put_len hn, put_len hn', h.len], fun i => ?_⟩
  rw [put_at hn, put_at hn']
  by_cases e : i = n
  · rw [if_pos e, if_pos e]
    exact (h.at_ i).append_right _
  · rw [if_neg e, if_neg e]
    exact h.at_ i
theorem put_comm (hn : n ≤ L.length) (hm : m ≤ L.length) : PermL (putLv (putLv L n p) m q) (putLv (putLv L m q) n p) := by
  have h1 : m ≤ (putLv L n p).length := by rw [put_len hn]; omega
  have h2 : n ≤ (putLv L m q).length := by rw [put_len hm]; omega
  refine ⟨by rw [put_len h1, put_len h2, put_len hn, put_len hm]; omega, fun i => ?_⟩
  rw [put_at h1, put_at h2, put_at hn, put_at hm]
  by_cases e1 : i = m
  · rw [if_pos e1, if_pos e1]
    by_cases e2 : i = n
    · rw [if_pos e2, if_pos e2, List.append_assoc, List.append_assoc]
      exact List.Perm.append_left _ (List.Perm.swap q p [])
    · rw [if_neg e2, if_neg e2]
  · rw [if_neg e1, if_neg e1]
end
structure LvOk (o : Own) (s : LvS) : Prop where
  len : s.1.length = o.names.length
  rng : ∀ h : Int, 0 ≤ h → h < o.names.length → 0 ≤ gH s.1 h ∧ gH s.1 h ≤ s.2.length
section
variable {o : Own} {s s' : LvS} {p q : Int × Int}
theorem lotW_rng (ho : OwnOk o) (h0 : 0 ≤ p.1) (h1 : p.1 < o.kinds.length) : lotW o p ≠ [] ∧ ∀ h ∈ lotW o p, 0 ≤ h ∧ h < o.names.length := by
  have r := row_at ho h0 h1
  refine ⟨fun e => ?_, fun h hh => ?_⟩
  · cases hcs : (kAt o p.1).cs with
    | nil => have := r.rc.2.1; rw [hcs] at this; simp at this
    | cons c _ =>
      have : c ∈ lotW o p := lotK_mem.mpr (List.mem_append_left _ (by rw [hcs]; exact List.mem_cons_self))
      rw [e] at this
      cases this
  · rcases List.mem_append.mp (lotK_mem.mp hh) with h2 | h2
    · exact r.rc.1.2 h h2
    · cases hb : (kAt o p.1).b with
      | none => rw [hb] at h2; cases h2
      | some x =>
        rw [hb] at h2
        obtain rfl := List.mem_singleton.mp h2
        exact ⟨(r.rb h hb).1, (r.rb h hb).2.1⟩
theorem lvN_rng (S : LvOk o s) (ho : OwnOk o) (h0 : 0 ≤ p.1) (h1 : p.1 < o.kinds.length) : 0 ≤ lvN s.1 (lotW o p) ∧ lvN s.1 (lotW o p) ≤ s.2.length ∧ ∀ h ∈ lotW o p, gH s.1 h ≤ lvN s.1 (lotW o p) := by
  obtain ⟨ne, hr⟩ := lotW_rng ho h0 h1
  obtain ⟨m1, m2⟩ := maxI_mem (l := (lotW o p).map (gH s.1)) (by simpa using ne)
  obtain ⟨h, hh, e⟩ := List.mem_map.mp m1
  have := S.rng h (hr h hh).1 (hr h hh).2
  unfold lvN
  rw [← e]
  exact ⟨this.1, this.2, fun x hx => by rw [e]; exact m2 _ (List.mem_map_of_mem hx)⟩
theorem lvS_ok (S : LvOk o s) (ho : OwnOk o) (h0 : 0 ≤ p.1) (h1 : p.1 < o.kinds.length) : LvOk o (lvS o s p) := by
  obtain ⟨n0, n1, _⟩ := lvN_rng S ho h0 h1
  obtain ⟨ne, hr⟩ := lotW_rng ho h0 h1
  have hl : (lvS o s p).2.length = max s.2.length ((lvN s.1 (lotW o p)).toNat + 1) := put_len (by omega)
  refine ⟨setAll_len.trans S.len, fun h y0 y1 => ?_⟩
  rw [hl]
  show 0 ≤ gH (setAll s.1 (lotW o p) _) h ∧ gH (setAll s.1 (lotW o p) _) h ≤ _
  rw [gH_setAll S.len hr y0]
  have := S.rng h y0 y1
  split <;> omega
/-- alike -/
structure LvE (s s' : LvS) : Prop where
  ts : s.1 = s'.1
  L : PermL s.2 s'.2
theorem lvS_e (S : LvOk o s) (e : LvE s s') (ho : OwnOk o) (h0 : 0 ≤ p.1) (h1 : p.1 < o.kinds.length) : LvE (lvS o s p) (lvS o s' p) := by
  obtain ⟨n0, n1, _⟩ := lvN_rng S ho h0 h1
  unfold lvS
  rw [← e.ts]
  exact ⟨rfl, e.L.put (by omega)⟩
theorem lvR_e (ho : OwnOk o) : ∀ {ws : Wv} {s s' : LvS}, ValidK o ws → LvOk o s → LvE s s' → LvE (lvR o s ws) (lvR o s' ws)
  | [], _, _, _, _, e => e
  | p :: ws, s, s', hv, S, e => by
    obtain ⟨h0, h1⟩ := hv p List.mem_cons_self
    exact lvR_e ho (ws := ws) (fun x hx => hv x (List.mem_cons_of_mem _ hx)) (lvS_ok S ho h0 h1) (lvS_e S e ho h0 h1)
theorem lvR_ok (ho : OwnOk o) : ∀ {ws : Wv} {s : LvS}, ValidK o ws → LvOk o s → LvOk o (lvR o s ws)
  | [], _, _, S => S
  | p :: ws, s, hv, S => by
    obtain ⟨h0, h1⟩ := hv p List.mem_cons_self
    exact lvR_ok ho (ws := ws) (fun x hx => hv x (List.mem_cons_of_mem _ hx)) (lvS_ok S ho h0 h1)
theorem lv_swap (ho : OwnOk o) (S : LvOk o s) (p0 : 0 ≤ p.1) (p1 : p.1 < o.kinds.length) (q0 : 0 ≤ q.1) (q1 : q.1 < o.kinds.length) (ap : Apart (kAt o p.1) (kAt o q.1)) : LvE (lvS o (lvS o s p) q) (lvS o (lvS o s q) p) := by
  have rp := (lotW_rng ho p0 p1).2
  have rq := (lotW_rng ho q0 q1).2
  obtain ⟨a0, a1, _⟩ := lvN_rng S ho p0 p1
  obtain ⟨b0, b1, _⟩ := lvN_rng S ho q0 q1
  have hd : ∀ h ∈ lotW o p, h ∉ lotW o q := fun h h1 h2 => ap h (lotK_mem.mp h1) (lotK_mem.mp h2)
  have hd' : ∀ h ∈ lotW o q, h ∉ lotW o p := fun h h1 h2 => hd h h2 h1
  have e1 : lvN (setAll s.1 (lotW o p) (lvN s.1 (lotW o p) + 1)) (lotW o q) = lvN s.1 (lotW o q) := lvN_other S.len rp rq hd
  have e2 : lvN (setAll s.1 (lotW o q) (lvN s.1 (lotW o q) + 1)) (lotW o p) = lvN s.1 (lotW o p) := lvN_other S.len rq rp hd'
  unfold lvS
  dsimp only
  rw [e1, e2]
  exact ⟨setAll_comm S.len rp rq hd, put_comm (by omega) (by omega)⟩
/-- one story: the same levels -/
theorem conn_levels (ho : OwnOk o) {u v : Wv} (c : Conn o u v) : ∀ {s : LvS}, ValidK o u → LvOk o s → LvE (lvR o s u) (lvR o s v) := by
  induction c with
  | refl u => exact fun _ _ => ⟨rfl, .refl _⟩
  | swap a p q b ap =>
    intro s hv S
    have hp := hv p (by simp)
    have hq := hv q (by simp)
    have Sa := lvR_ok ho (ws := a) (s := s) (fun x hx => hv x (by simp [hx])) S
    have Sp := lvS_ok (lvS_ok Sa ho hp.1 hp.2) ho hq.1 hq.2
    have e1 : ∀ x y : Int × Int, lvR o s (a ++ x :: y :: b) = lvR o (lvS o (lvS o (lvR o s a) x) y) b := fun x y => by
      unfold lvR
      rw [List.foldl_append]
      rfl
    rw [e1, e1]
    exact lvR_e ho (ws := b) (fun x hx => hv x (by simp [hx])) Sp (lv_swap ho Sa hp.1 hp.2 hq.1 hq.2 ap)
  | trans c1 c2 i1 i2 =>
    intro s hv S
    have hv2 : ValidK o _ := fun x hx => hv x (c1.perm.mem_iff.mpr hx)
    have a := i1 hv S
    have b := i2 hv2 S
    exact ⟨a.ts.trans b.ts, a.L.trans b.L⟩
end
end Mb

set_option Elab.async false
set_option linter.all false
set_option maxRecDepth 100000
set_option maxHeartbeats 4000000
namespace Mb
open PySem PySem.Spec PyProof.Rows L2 TL
/-! ### levels tell the rows, and rows the levels -/
def hasH (o : Own) (h : Int) (p : Int × Int) : Bool := decide (h ∈ lotW o p)
def rowsL (o : Own) (h : Int) (L : List Wv) : Wv := (L.map fun lv => lv.filter (hasH o h)).flatten
section
variable {o : Own} {h : Int} {p : Int × Int}
theorem rowsL_mod : ∀ {L : List Wv} {n : Nat}, n < L.length → (hasH o h p = true → ∀ i, n < i → (L.getD i []).filter (hasH o h) = []) → rowsL o h (L.modify n (· ++ [p])) = rowsL o h L ++ [p].filter (hasH o h)
  | [], _, hn, _ => by simp at hn
  | lv :: L, 0, _, hz => by
    show rowsL o h ((lv ++ [p]) :: L) = _
    unfold rowsL
    rw [List.map_cons, List.flatten_cons, List.map_cons, List.flatten_cons, List.filter_append, List.append_assoc, List.append_assoc]
    congr 1
    cases e : hasH o h p with
    | false => simp [e]
    | true =>
      have : (L.map fun lv => lv.filter (hasH o h)).flatten = [] := by
        rw [List.flatten_eq_nil_iff]
        intro l hl
        obtain ⟨lv', hm, rfl⟩ := List.mem_map.mp hl
        obtain ⟨i, hi⟩ := List.getElem?_of_mem hm
        have := hz e (i + 1) (by omega)
        rw [List.getD_eq_getElem?_getD, List.getElem?_cons_succ, hi] at this
        exact this
      rw [this]
      simp
  | lv :: L, n + 1, hn, hz => by
    show rowsL o h (lv :: L.modify n (· ++ [p])) = _
    have ih := rowsL_mod (L := L) (n := n) (by simpa using hn) fun e i hi => by
      have := hz e (i + 1) (by omega)
      rw [List.getD_eq_getElem?_getD, List.getElem?_cons_succ] at this
      rw [List.getD_eq_getElem?_getD]
      exact this
    unfold rowsL at ih ⊢
    rw [List.map_cons, List.flatten_cons, ih, List.map_cons, List.flatten_cons, List.append_assoc]
theorem rowsL_put {L : List Wv} {n : Nat} (hn : n ≤ L.length) (hz : hasH o h p = true → ∀ i, n < i → (L.getD i []).filter (hasH o h) = []) : rowsL o h (putLv L n p) = rowsL o h L ++ [p].filter (hasH o h) := by
  unfold putLv
  by_cases e : n = L.length
  · rw [if_pos e]
    unfold rowsL
    rw [List.map_append, List.flatten_append]
    simp
  · rw [if_neg e]
    exact rowsL_mod (by omega) hz
end
/-- what levels tell of rows, behind ws -/
structure LvRow (o : Own) (s : LvS) (ws : Wv) : Prop where
  ok : LvOk o s
  row : ∀ h : Int, rowsL o h s.2 = ws.filter (hasH o h)
  no : ∀ h : Int, 0 ≤ h → h < o.names.length → ∀ i : Nat, gH s.1 h ≤ i → (s.2.getD i []).filter (hasH o h) = []
  one : ∀ h : Int, ∀ i : Nat, ((s.2.getD i []).filter (hasH o h)).length ≤ 1
section
variable {o : Own} {s : LvS} {ws : Wv} {p : Int × Int}
theorem hasH_rng (ho : OwnOk o) (h0 : 0 ≤ p.1) (h1 : p.1 < o.kinds.length) {h : Int} (e : hasH o h p = true) : h ∈ lotW o p ∧ 0 ≤ h ∧ h < o.names.length := by
  have hm := of_decide_eq_true e
  have := (lotW_rng ho h0 h1).2 h hm
  exact ⟨hm, this.1, this.2⟩
theorem lvRow_step (S : LvRow o s ws) (ho : OwnOk o) (h0 : 0 ≤ p.1) (h1 : p.1 < o.kinds.length) : LvRow o (lvS o s p) (ws ++ [p]) := by
  obtain ⟨n0, n1, nm⟩ := lvN_rng S.ok ho h0 h1
  have hr := (lotW_rng ho h0 h1).2
  generalize hn : (lvN s.1 (lotW o p)).toNat = n at *
  have hnl : n ≤ s.2.length := by omega
  have e2 : (lvS o s p).2 = putLv s.2 n p := by unfold lvS; rw [hn]
  have zero : ∀ h : Int, hasH o h p = true → ∀ i : Nat, n ≤ i → (s.2.getD i []).filter (hasH o h) = [] := fun h e i hi => by
    obtain ⟨hm, a, b⟩ := hasH_rng ho h0 h1 e
    have := nm h hm
    exact S.no h a b i (by omega)
  refine ⟨lvS_ok S.ok ho h0 h1, fun h => ?_, fun h a b i hi => ?_, fun h i => ?_⟩
  · rw [e2, rowsL_put hnl fun e i hi => zero h e i (by omega), S.row, List.filter_append]
  · rw [e2, put_at hnl]
    have hg : gH (lvS o s p).1 h = if h ∈ lotW o p then lvN s.1 (lotW o p) + 1 else gH s.1 h := gH_setAll S.ok.len hr a
    rw [hg] at hi
    by_cases hm : h ∈ lotW o p
    · rw [if_pos hm] at hi
      rw [if_neg (by omega)]
      exact zero h (decide_eq_true hm) i (by omega)
    · rw [if_neg hm] at hi
      have hp : hasH o h p = false := decide_eq_false hm
      split
      · rw [List.filter_append, S.no h a b i hi]
        simp [hp]
      · exact S.no h a b i hi
  · rw [e2, put_at hnl]
    split
    · rename_i e
      rw [List.filter_append, List.length_append]
      cases hp : hasH o h p with
      | false => simpa [hp] using S.one h i
      | true =>
        rw [zero h hp i (by omega)]
        simp [hp]
    · exact S.one h i
theorem lvRow_run (ho : OwnOk o) : ∀ {vs ws : Wv} {s : LvS}, ValidK o vs → LvRow o s ws → LvRow o (lvR o s vs) (ws ++ vs)
  | [], ws, s, _, S => by rw [List.append_nil]; exact S
  | p :: vs, ws, s, hv, S => by
    obtain ⟨h0, h1⟩ := hv p List.mem_cons_self
    have := lvRow_run ho (vs := vs) (ws := ws ++ [p]) (fun x hx => hv x (List.mem_cons_of_mem _ hx)) (lvRow_step S ho h0 h1)
    rw [List.append_assoc] at this
    exact this
def lv0 (o : Own) : LvS := (List.replicate o.names.length 0, [])
theorem gH_rep {n : Nat} {y : Int} (h0 : 0 ≤ y) (h1 : y < n) : gH (List.replicate n 0) y = 0 := by
  have := gH_eq (hs := List.replicate n (0 : Int)) (x := y) (by rw [List.length_replicate]; omega)
  rw [List.getElem?_replicate, if_pos (by omega)] at this
  exact (Option.some.inj this).symm
theorem lv0_ok (o : Own) : LvOk o (lv0 o) := ⟨List.length_replicate, fun h a b => by
  show 0 ≤ gH (List.replicate _ 0) h ∧ gH (List.replicate _ 0) h ≤ ((0 : Nat) : Int)
  rw [gH_rep a b]
  exact ⟨Int.le_refl _, Int.le_refl _⟩⟩
theorem lv0_row (o : Own) : LvRow o (lv0 o) [] := ⟨lv0_ok o, fun h => rfl, fun h _ _ i _ => by show (([] : List Wv).getD i []).filter _ = []; simp, fun h i => by show ((([] : List Wv).getD i []).filter _).length ≤ 1; simp⟩
theorem perm_one {α : Type} {a b : List α} (h : a.Perm b) (hl : a.length ≤ 1) : a = b := by
  match a, hl with
  | [], _ => exact (List.nil_perm.mp h).symm
  | [x], _ => exact List.singleton_perm.mp h
/-- the same levels: one story -/
theorem levels_rows (ho : OwnOk o) {u v : Wv} (hu : ValidK o u) (hv : ValidK o v) (e : PermL (lvR o (lv0 o) u).2 (lvR o (lv0 o) v).2) (h : Int) : u.filter (hasH o h) = v.filter (hasH o h) := by
  have a := lvRow_run ho (vs := u) (ws := []) hu (lv0_row o)
  have b := lvRow_run ho (vs := v) (ws := []) hv (lv0_row o)
  have ra := a.row h
  have rb := b.row h
  rw [List.nil_append] at ra rb
  rw [← ra, ← rb]
  unfold rowsL
  congr 1
  apply List.ext_getElem?
  intro i
  rw [List.getElem?_map, List.getElem?_map]
  by_cases hi : i < (lvR o (lv0 o) u).2.length
  · have hi' : i < (lvR o (lv0 o) v).2.length := by rw [← e.len]; exact hi
    have ep := (e.at_ i).filter (hasH o h)
    have eq := perm_one ep (a.one h i)
    rw [List.getD_eq_getElem?_getD, List.getD_eq_getElem?_getD, List.getElem?_eq_getElem hi, List.getElem?_eq_getElem hi'] at eq
    rw [List.getElem?_eq_getElem hi, List.getElem?_eq_getElem hi']
    exact congrArg some eq
  · rw [List.getElem?_eq_none (by omega), List.getElem?_eq_none (by rw [← e.len]; omega)]
theorem rows_levels (ho : OwnOk o) {u v : Wv} (hu : ValidK o u) (hv : ValidK o v) (e : ∀ h : Int, u.filter (hasH o h) = v.filter (hasH o h)) : PermL (lvR o (lv0 o) u).2 (lvR o (lv0 o) v).2 := by
  have c : Conn o u v := rows_conn ho hu hv fun h => by
    have := e h
    unfold rowH
    have q : (hasH o h) = fun p => decide (h ∈ lotAt o p) := funext fun p => by
      unfold hasH
      exact decide_eq_decide.mpr lotK_mem
    rw [q] at this
    exact this
  exact (conn_levels ho c hu (lv0_ok o)).L
end
end Mb

set_option Elab.async false
set_option linter.all false
set_option maxRecDepth 100000
set_option maxHeartbeats 4000000
namespace Mb
open PySem PySem.Spec PyProof.Rows L2 TL
/-! ### levels under construction: a list of lists at l, heights at h -/
structure LvAt (K : PySem.W.Frag) (G H : Hp) (l : Addr) (ls : List Addr) (h : Addr) (L : List (List Dt)) (ts : List Int) (G3 H3 : Hp) : Prop where
  r : RAt K G H l ls L G3 H3
  hh : H3 h = some (.lst (ts.map V.int))
  gh : G3 h = none
  h0 : H h = none
  nl : h ≠ l
  nls : h ∉ ls
section
variable {K : PySem.W.Frag} {G H : Hp} {l x h : Addr} {ls : List Addr} {L : List (List Dt)} {ts : List Int} {G3 H3 G5 H5 : Hp}
theorem LvAt.pure (f : LvAt K G H l ls h L ts G3 H3) (s : Step [] G3 H3 G5 H5) : LvAt K G H l ls h L ts G5 H5 :=
  ⟨f.r.pure s, s.keep f.hh (by simp), s.out f.gh f.hh, f.h0, f.nl, f.nls⟩
theorem LvAt.grow (f : LvAt K G H l ls h L ts G3 H3) (hx : H3 x = none) : LvAt K G H l (ls ++ [x]) h (L ++ [[]]) ts G3 (upd (upd H3 x (.lst [])) l (.lst ((ls ++ [x]).map V.ref))) := by
  have nx : h ≠ x := ne_of_none f.hh hx
  refine ⟨f.r.grow hx, by rw [upd_ne f.nl, upd_ne nx]; exact f.hh, f.gh, f.h0, f.nl, fun e => ?_⟩
  rcases List.mem_append.mp e with e | e
  · exact f.nls e
  · exact nx (List.mem_singleton.mp e)
theorem LvAt.app (f : LvAt K G H l ls h L ts G3 H3) {k : Nat} (hk : ls[k]? = some x) {vs : List V} (hx : H3 x = some (.lst vs)) {v : V} {d : Dt} (hv : Da K G3 v d) : LvAt K G H l ls h (L.modify k (· ++ [d])) ts G3 (upd H3 x (.lst (vs ++ [v]))) := by
  have nx : h ≠ x := fun e => f.nls (by rw [e]; exact List.mem_of_getElem? hk)
  exact ⟨f.r.app hk hx hv, by rw [upd_ne nx]; exact f.hh, f.gh, f.h0, f.nl, f.nls⟩
/-- heights[y] = v -/
theorem LvAt.setH (f : LvAt K G H l ls h L ts G3 H3) (y v : Int) : LvAt K G H l ls h L (ts.set y.toNat v) G3 (upd H3 h (.lst ((ts.map V.int).set y.toNat (.int v)))) := by
  refine ⟨⟨f.r.st.mutF f.h0 f.gh f.hh, by rw [upd_ne (Ne.symm f.nl)]; exact f.r.hl, f.r.gl, f.r.h0, f.r.nd, f.r.len, fun k y' hk => ?_⟩, by rw [upd_same, List.map_set], f.gh, f.h0, f.nl, f.nls⟩
  obtain ⟨a1, a2, vs, ds, a3, a4, a5⟩ := f.r.at_ k y' hk
  exact ⟨a1, a2, vs, ds, by rw [upd_ne (fun e => f.nls (by rw [← e]; exact List.mem_of_getElem? hk))]; exact a3, a4, a5⟩
end
/-- the program's maximum is ours -/
theorem maxI_of {ns : List Int} (hne : 0 < ns.length) {m : Int} (hm : m ∈ ns) (hu : ∀ y, y ∈ ns → y ≤ m) : m = maxI ns := by
  obtain ⟨a, b⟩ := maxI_mem (l := ns) (by intro e; rw [e] at hne; simp at hne)
  have := hu _ a
  have := b _ hm
  omega
section
variable {X : Cx} {σ : L2.St} {G : Hp} {a b : Expr} {p pos : Pos} {ns : List Int}
theorem pu_maxL (ha : Pu X a σ G (.list (ofI ns))) (hne : 0 < ns.length) (hm : X.mg "max" = none) (hc : X.calm = true := by rfl) (hg : Gl X "max" := by rfl) (he : starEach [a] X.env = [(false, eval a X.env)] := by rfl) : Pu X (.Call (.Name "max" p) [a] [] pos) σ G (.int (maxI ns)) :=
  pu_one (cr_max hc) ha (fun G1 H v g s hv Q q => by
    obtain ⟨l, vs, rfl, h1, h2⟩ := hv.lst_inv
    obtain rfl := h2.ints
    refine ⟨l, ns, rfl, SqL.of (s _ _ h1), hne, fun m hm hu => ?_⟩
    rw [maxI_of hne hm hu]
    exact q _ _ _ (Step.refl s) (.int _)) hm (by decide +kernel) hg (by decide) (by decide) he
end
end Mb

set_option Elab.async false
set_option linter.all false
set_option maxRecDepth 100000
set_option maxHeartbeats 4000000
namespace Mb
open PySem PySem.Spec PyProof.Rows L2
/-! ### own errors that keep their argument as value: made, raised, let through, caught -/
/-- the class at C, called x -/
structure ErrC (K : PySem.W.Frag) (mg : Str → Option Value) (x : Str) (C : Addr) : Prop where
  gC : mg x = some (.ref C)
  ox : OexC K C
  xf : XfC K C
  ic : ExcC K C
  noV : PySem.W.findIn K (.ref C) "value" = some none
def spErrI (K : PySem.W.Frag) (C : Addr) : Sp := fun vs H Q _ => ∃ (a : Addr) (v : V), vs = [.ref a, v] ∧ OexC K C ∧ PySem.W.findIn K (.ref C) "value" = some none ∧ H a = some (exo a C none) ∧
  ∀ dx, H dx = none → dx ≠ a → Q .non (upd (upd H dx (exd dx [("value", v)])) a (exo a C (some dx)))
theorem spErrI_len {K : PySem.W.Frag} {C : Addr} : ∀ vs H Q E, spErrI K C vs H Q E → vs.length = 2 := fun vs H Q E ⟨_, _, h, _⟩ => by rw [h]; rfl
/-- its __init__ -/
structure HasErr (P : Program) (w : World) (K : PySem.W.Frag) (mg : Str → Option Value) (base : Heap) (x : Str) (C : Addr) : Prop where
  E : ErrC K mg x C
  ex : ∃ f fd ps, PySem.W.findIn K (.ref C) "__init__" = some (some (.ref f)) ∧ PySem.W.typeIn K (.ref f) = some (.type "function") ∧ Binds K fd ps [] ∧ FnOk P w K mg base CX0 1 f fd ps (spErrI K C)
section
variable {X : Cx} {σ : L2.St} {H : Hp} {D : Ends} {o e : Expr} {f : Str} {p p' pos : Pos}
theorem s_ost (q : eE X e σ H fun y H1 => eE X o σ H1 fun x H2 => ∃ a C : Addr, x = .ref a ∧ OexC X.K C ∧ PySem.W.findIn X.K (.ref C) f = some none ∧
    ((H2 a = some (exo a C none) ∧ ∀ dx, H2 dx = none → dx ≠ a → D.nx σ (upd (upd H2 dx (exd dx [(f, y)])) a (exo a C (some dx)))) ∨
      ∃ (dx : Addr) (fs : List (Str × V)), H2 a = some (exo a C (some dx)) ∧ H2 dx = some (exd dx fs) ∧ fs.length ≤ 900 ∧ D.nx σ (upd H2 dx (exd dx ((f, y) :: fs)))))
    (hs : swapsWith e (some (.Attribute o f p')) pos.line X.env = pure false := by rfl) : eS X (.Assign [.Attribute o f p'] e pos) D σ H := ⟨_, ps_ost pe_e pe_e hs, q⟩
end
section
variable {P : Program} {w : World} {K : PySem.W.Frag} {mg : Str → Option Value} {base : Heap} {C : Addr}
/-- self.value = value -/
theorem mkHasErr {x qual : Str} {st : Stmt} {p1 p2 p3 p4 : Pos} (E : ErrC K mg x C) (ht : ∀ f, PySem.W.isFn K (.ref f) = true → PySem.W.typeIn K (.ref f) = some (.type "function")) (T : TopM K C "__init__" qual st ["self", "value"]) (S : FnScope ["self", "value"] ["self", "value"] (defScope st))
    (hb : defBody st = [.Assign [.Attribute (.Name "self" p1) "value" p2] (.Name "value" p3) p4]) (h0 : (defScope st).names.lookup ("self" : Str) = some .local) (h1 : (defScope st).names.lookup ("value" : Str) = some .local) : HasErr P w K mg base x C := by
  obtain ⟨f, fd, ps, a1, a2, a3, a4⟩ := (mkOwn1 (P := P) (w := w) (base := base) (mg := mg) (k := 0) T S spErrI_len fun f cdv A outer s H vs Q E' hr h => by
    obtain ⟨a, v, rfl, ox, no, ha, k⟩ := h
    rw [hb]
    exact b_one (s_ost (w_var 1 rfl (w_var 0 rfl ⟨a, C, rfl, ox, no, .inl ⟨ha, fun dx hd hne => k dx hd hne⟩⟩ rfl (Or.inl h0)) rfl (Or.inl h1)))).ex
  exact ⟨E, f, fd, ps, a1, ht f a2, a3, a4⟩
/-- a def that may raise -/
structure HasX (P : Program) (w : World) (K : PySem.W.Frag) (mg : Str → Option Value) (base : Heap) (x : Str) (k : Nat) (n : Nat) (sp : Sp) : Prop where
  ex : ∃ f fd ps, ps.length = n ∧ mg x = some (.ref f) ∧ PySem.W.keepIn K (.ref f) = true ∧ Binds K fd ps [] ∧ FnOk P w K mg base (L2.CX P w) k f fd ps sp
theorem mkHasX {x : Str} {st : Stmt} {N ps : List Str} {k : Nat} {sp : Sp} (T : Top1 K mg x st ps) (S : FnScope N ps (defScope st)) (len : ∀ vs H Q E, sp vs H Q E → vs.length = ps.length)
    (body : ∀ (f : Addr) (cdv : Value) (A : Around) (outer : List Env) (s : Shared) (H : Hp) (vs : List V) (Q : VK) (E : XK), Room k (A.deeper (envOfC x (defScope st) s.heap.objs.size f cdv)) → sp vs H Q E →
      eB (cxOf (L2.CX P w) P w K mg base N x (defScope st) f cdv A outer s H E) (defBody st) { nx := fun _ H' => Q .non H', rt := Q } (start N vs) H) : HasX P w K mg base x (k + 1) ps.length sp := by
  obtain ⟨f, fd, h1, F, hb⟩ := T.ex
  refine ⟨f, fd, ps, rfl, h1, F.kp, hb, ?_⟩
  exact F.okX S len fun cdv A outer s H vs Q E hr h => body f cdv A outer s H vs Q E hr h
end
theorem eA.mono {X : Cx} {es : List Expr} {σ : L2.St} {H : Hp} {Q Q' : List V → Hp → Prop} (h : eA X es σ H Q') (q : ∀ v H', Q' v H' → Q v H') : eA X es σ H Q := by
  obtain ⟨t, ht, h⟩ := h
  refine ⟨fun σ H R => ∃ R' : List V → Hp → Prop, t σ H R' ∧ ∀ v H', R' v H' → R v H', ⟨fun pos pins s σ H R I ⟨R', h1, h2⟩ => ?_⟩, Q', h, q⟩
  exact thn (ht.run pos pins s σ H R' I h1) fun us s1 ⟨vs, H1, I1, r1, z⟩ => ⟨vs, H1, I1, r1, h2 _ _ z⟩
section
variable {X : Cx} {σ : L2.St} {H : Hp} {D : Ends} {Q : VK} {e : Expr} {es : List Expr} {p pos pos2 : Pos} {x : Str} {C : Addr} {k j n : Nat} {sp : Sp} {W : WX}
theorem del_mk {H1 : Hp} {a dx : Addr} {o1 o2 o3 u : HO} (ha : H1 a = none) (hne : dx ≠ a) : upd (L2.del (upd (upd (upd H1 a o1) dx o2) a o3) a) dx u = upd H1 dx u := by
  funext b
  by_cases h1 : b = dx
  · subst h1
    rw [upd_same, upd_same]
  · rw [upd_ne h1, upd_ne h1]
    by_cases h2 : b = a
    · subst h2
      rw [L2.del_same, ha]
    · rw [L2.del_ne h2, upd_ne h2, upd_ne h1, upd_ne h2]
/-- raise x(e) -/
theorem s_raise (F : HasErr X.prog X.w X.K X.mg X.base x C) (hr : Room j X.A) (hj : 2 ≤ j) (tk : Takes X W) (q : eA X (e :: []) σ H fun vs H1 => ∃ v, vs = [v] ∧ ∀ d, H1 d = none → W (.ref C) (some d) σ (upd H1 d (.xd [("value", v)])))
    (hg : Gl X x := by rfl) (hc : X.calm = true := by rfl) (hdb : (x == ("__debug__" : Str)) = false := by decide) (he : starEach (e :: []) X.env = (false, eval e X.env) :: starEach [] X.env := by rfl) (hpl : (backTo pos (starEach [] X.env)).any (·.1) = false := by rfl) :
    eS X (.Raise (some (.Call (.Name x p) (e :: []) [] pos)) none pos2) D σ H := by
  obtain ⟨f, fd, ps, h1, h2, h3, h4⟩ := F.ex
  refine ⟨_, ps_raise hc tk (pmk_oex (k := 1) F.E.ox h1 h2 h4 (hr.mono (by omega)) h3 .nil pass0 hg F.E.gC pa_e hdb he hpl), ?_⟩
  show eA X [e] σ H _
  refine eA.mono q fun vs H1 ⟨v, ev, q⟩ => ?_
  subst ev
  refine ⟨by show 1 ≤ 1000; decide, fun a ha => ⟨a, v, rfl, F.E.ox, F.E.noV, upd_same, fun dx hd hne => ⟨rfl, dx, [("value", v)], upd_same, ?_, ?_, ?_⟩⟩⟩
  · rw [upd_ne hne, upd_same]
  · rw [upd_ne hne] at hd
    exact hd
  · rw [del_mk ha hne]
    refine q dx ?_
    rw [upd_ne hne] at hd
    exact hd
/-- a call that may raise -/
theorem w_callX (F : HasX X.prog X.w X.K X.mg X.base x k n sp) (hr : Room j X.A) (hk : k ≤ j) (tk : Takes X W) (q : eA X (e :: es) σ H fun vs H1 => sp vs H1 Q (WE W σ)) (hg : Gl X x := by rfl)
    (hdb : (x == ("__debug__" : Str)) = false := by decide) (he : starEach (e :: es) X.env = (false, eval e X.env) :: starEach es X.env := by rfl) (hpl : (backTo pos (starEach es X.env)).any (·.1) = false := by rfl) :
    eE X (.Call (.Name x p) (e :: es) [] pos) σ H Q := by
  obtain ⟨f, fd, ps, _, h1, h2, h3, h4⟩ := F.ex
  exact eE.mk (pe_callS h4 (hr.mono hk) hg h1 h2 h3 (fun σ => passAt tk σ) pa_e hdb he hpl) q
/-- try: .. except x as n: .. (slot i is n's) -/
theorem s_tryAs {n y : Str} {c : Value} (i : Nat) {body suite : List Stmt} {b0 : Stmt} {np pos' : Pos} {Wout : WX} (hN : X.N.Nodup) (hc : Names X y c) (tk : Takes X Wout)
    (q : ∀ (pn : List (Addr × Obj)) (xe : Value → Shared → Prop), Takes (X.tr pn xe) (wAs X.K c i (fun a cls d D σ H => ∀ (oe : Obj) (pn : List (Addr × Obj)), Zc cls d oe → (∃ vs, oe.data = .fields vs) → eB (X.suite a ((a, oe) :: pn)) (b0 :: suite) D σ H) Wout D) → eB (X.tr pn xe) body D σ H)
    (hs : X.stack = X.env :: X.outer := by rfl) (hf : X.env.frame = some X.env.locals := by rfl) (hi : X.N[i]? = some n := by rfl) (hln : X.env.kindOf n = some .local := by rfl) :
    eS X (.Try body [.ExceptHandler (some (.Name y np)) (some n) (b0 :: suite) pos'] [] [] pos) D σ H :=
  ⟨_, ps_try_as (i := i) (tb := fun W D σ H => ∀ (pn : List (Addr × Obj)) (xe : Value → Shared → Prop), Takes (X.tr pn xe) W → eB (X.tr pn xe) body D σ H)
    (ts := fun a cls d D σ H => ∀ (oe : Obj) (pn : List (Addr × Obj)), Zc cls d oe → (∃ vs, oe.data = .fields vs) → eB (X.suite a ((a, oe) :: pn)) (b0 :: suite) D σ H) hs hf hN hi hln hc tk
    (fun W pn xe tk po => ⟨fun pins s σ H D I h => pss_e.run pins s σ H D I (h pn xe tk)⟩) (fun a oe cls d pn hz hf => ⟨fun pins s σ H D I h => pss_e.run pins s σ H D I (h oe pn hz hf)⟩), q⟩
/-- isinstance(e, c), e the exception that the suite holds, with a dict of its own -/
theorem call_isX {a E dd : Addr} {oe : Obj} {pn : List (Addr × Obj)} (C : ExcC X.K E) (hz : Zc (.ref E) (some dd) oe) (hf : ∃ vs, oe.data = .fields vs) :
    CallR (X.suite a ((a, oe) :: pn)) (.builtin "isinstance") (fun xs H Q => ∃ (c : V) (cv : Value) (b : Bool) (fs : List (Str × V)), xs = [.ref a, c] ∧ (∀ u, RelV c u → u = cv) ∧ PySem.W.kitOne X.K (.ref E) cv = some b ∧ H dd = some (.xd fs) ∧ Q (.bl b) H) := by
  intro pins s σ H xs us Q I r h
  obtain ⟨c, cv, b, fs, rfl, hcv, e, ea, q⟩ := h
  cases r with
  | cons rx rr =>
    cases rr with
    | cons rt rr =>
      cases rr
      cases rx
      have ec := hcv _ rt
      subst ec
      obtain ⟨hget, _⟩ := I.pin (a, oe) (List.mem_append.mpr (.inl List.mem_cons_self))
      obtain ⟨vs, hv⟩ := hf
      have hx : ObjOk X.prog X.w H s.heap dd (.xd fs) := I.hok dd _ ea
      obtain ⟨mA, hns, _⟩ := hx
      obtain ⟨od, ho, _⟩ := lookIn_ns hns
      have J : PySem.W.InstAt s.heap a oe E (some od) := ⟨hget, hz.1, by unfold PySem.W.notCls; rw [hv] <;> rfl, by rw [hz.2]; exact ho⟩
      have hcl : (PySem.W.clsIn X.K E).isSome = true := by
        have hd := C.hd
        unfold PySem.W.hasDictIn at hd
        cases e : PySem.W.clsIn X.K E with
        | some cd => rfl
        | none => rw [e] at hd; cases hd
      exact PySem.W.kia_one (PySem.W.kitx_exc hcl C.hg C.hk C.hs C.ha C.hn C.ht C.hm) I.kIn J e (fun z => nomatch z) fun tk => ⟨.bl b, H, I.kept (t' := tk) fun _ _ z => z, rfl, q⟩
/-- e.value in the suite -/
theorem w_xf {a E dd : Addr} {oe : Obj} {pn : List (Addr × Obj)} {f : Str} (T : XfC X.K E) (hno : PySem.W.findIn X.K (.ref E) f = some none) (hz : Zc (.ref E) (some dd) oe) (hf : ∃ vs, oe.data = .fields vs)
    (q : eE (X.suite a ((a, oe) :: pn)) e σ H fun x H1 => x = .ref a ∧ ∃ fs v, H1 dd = some (.xd fs) ∧ fs.lookup f = some v ∧ Q v H1) (hb : attributeBase e f X.env (eval e X.env) = eval e X.env := by rfl) :
    eE (X.suite a ((a, oe) :: pn)) (.Attribute e f pos) σ H Q :=
  eE.mk (pe_xf T hno hz hf pe_e hb) (q.mono fun x H1 ⟨h1, fs, v, h2, h3, h4⟩ => ⟨h1, rfl, dd, fs, v, rfl, h2, h3, h4⟩)
end
end Mb

set_option Elab.async false
set_option linter.all false
set_option maxRecDepth 100000
set_option maxHeartbeats 4000000
namespace Mb
open PySem PySem.Spec PyProof.Rows L2
/-! ### calls with keywords alone -/
/-- a def whose parameters are told, too -/
structure HasN (P : Program) (w : World) (K : PySem.W.Frag) (mg : Str → Option Value) (base : Heap) (x : Str) (k : Nat) (ps : List Str) (sp : Sp) : Prop where
  ex : ∃ f fd, mg x = some (.ref f) ∧ PySem.W.keepIn K (.ref f) = true ∧ Binds K fd ps [] ∧ FnOk P w K mg base CX0 k f fd ps sp ∧ ∃ oc od osl, K.lookup f = some ⟨oc, od, .func fd, osl⟩
theorem HasN.has {P : Program} {w : World} {K : PySem.W.Frag} {mg : Str → Option Value} {base : Heap} {x : Str} {k : Nat} {ps : List Str} {sp : Sp} (F : HasN P w K mg base x k ps sp) : Has P w K mg base x k ps.length sp := by
  obtain ⟨f, fd, h1, h2, h3, h4, _⟩ := F.ex
  exact ⟨f, fd, ps, rfl, h1, h2, h3, h4⟩
theorem mkHasN {P : Program} {w : World} {K : PySem.W.Frag} {mg : Str → Option Value} {base : Heap} {x : Str} {st : Stmt} {N ps : List Str} {k : Nat} {sp : Sp} (T : Top1 K mg x st ps) (S : FnScope N ps (defScope st)) (len : ∀ vs H Q E, sp vs H Q E → vs.length = ps.length)
    (body : ∀ (f : Addr) (cdv : Value) (A : Around) (outer : List Env) (s : Shared) (H : Hp) (vs : List V) (Q : VK) (E : XK), Room k (A.deeper (envOfC x (defScope st) s.heap.objs.size f cdv)) → sp vs H Q E →
      eB (cxOf CX0 P w K mg base N x (defScope st) f cdv A outer s H E).nox (defBody st) { nx := fun _ H' => Q .non H', rt := Q } (start N vs) H) : HasN P w K mg base x (k + 1) ps sp := by
  obtain ⟨f, fd, h1, F, hb⟩ := T.ex
  obtain ⟨oc, od, kV, doc, pm, an, cdv, ct, osl, e, lk, _⟩ := F.ex
  refine ⟨f, fd, h1, F.kp, hb, ?_, oc, od, osl, lk⟩
  exact F.ok S len fun cdv A outer s H vs Q E hr h => body f cdv A outer s H vs Q E hr h
/-- values in the parameters' order -/
def gP {α : Type} (perm : List Nat) (l : List α) : List α := perm.filterMap fun i => l[i]?
theorem gP_rel {perm : List Nat} {zs : List V} {ws : List Value} (h : Vals zs ws) : Vals (gP perm zs) (gP perm ws) := by
  have get : ∀ {zs : List V} {ws : List Value}, Vals zs ws → ∀ i : Nat, (zs[i]? = none ∧ ws[i]? = none) ∨ ∃ z w, zs[i]? = some z ∧ ws[i]? = some w ∧ RelV z w := by
    intro zs ws h
    induction h with
    | nil => exact fun i => .inl ⟨by simp, by simp⟩
    | cons r _ ih =>
      intro i
      cases i with
      | zero => exact .inr ⟨_, _, rfl, rfl, r⟩
      | succ i => simpa using ih i
  unfold gP
  induction perm with
  | nil => exact .nil
  | cons i perm ih =>
    rcases get h i with ⟨e1, e2⟩ | ⟨z, w, e1, e2, r⟩
    · rw [List.filterMap_cons_none e1, List.filterMap_cons_none e2]
      exact ih
    · rw [List.filterMap_cons_some e1, List.filterMap_cons_some e2]
      exact .cons r ih
/-- the def called x takes the keywords ks -/
structure Kws (K : PySem.W.Frag) (mg : Str → Option Value) (x : Str) (ps ks : List Str) (perm : List Nat) : Prop where
  ex : ∃ f fd oc od osl, mg x = some (.ref f) ∧ K.lookup f = some ⟨oc, od, .func fd, osl⟩ ∧ ∀ (s : Shared) (ws : List Value), ws.length = ks.length → BindsTo s fd ⟨[], ks.zip ws⟩ (ps.zip (gP perm ws))
def eK (X : Cx) (kws : List Keyword) : TA := fun σ H Q => ∃ t : TA, PK X kws t ∧ t σ H Q
section
variable {X : Cx} {σ : L2.St} {H : Hp} {Q : VK} {e : Expr} {kws : List Keyword} {p pos kpos : Pos} {x : Str} {nm : Option Str} {ps ks : List Str} {perm : List Nat} {k j : Nat} {sp : Sp}
theorem k_nil {Q : List V → Hp → Prop} (q : Q [] H) : eK X [] σ H Q := ⟨_, pk_nil, q⟩
theorem k_cons {Q : List V → Hp → Prop} (q : eE X e σ H fun v H1 => eK X kws σ H1 fun vs H2 => Q (v :: vs) H2) : eK X (⟨nm, e, kpos⟩ :: kws) σ H Q := by
  refine ⟨fun σ H Q => eE X e σ H fun v H1 => eK X kws σ H1 fun vs H2 => Q (v :: vs) H2, pk_cons pe_e ⟨fun pos pins s σ H Q I ⟨t, ht, q⟩ => ht.run pos pins s σ H Q I q⟩, q⟩
/-- x(k = e, ..) -/
theorem w_callK (F : HasN X.prog X.w X.K X.mg X.base x k ps sp) (W : Kws X.K X.mg x ps ks perm) (hr : Room j X.A) (hk : k ≤ j) (q : eK X kws σ H fun zs H1 => zs.length = ks.length ∧ sp (gP perm zs) H1 Q E0) (hg : Gl X x := by rfl)
    (hks : (backToKw pos (keywordEach kws X.env)).filterMap (·.1) = ks := by rfl) (hall : (backToKw pos (keywordEach kws X.env)).all (·.1.isSome) = true := by rfl)
    (hdb : (x == ("__debug__" : Str)) = false := by decide) (hpl : ((backTo pos (starEach [] X.env)).any (·.1) || (backToKw pos (keywordEach kws X.env)).any (·.1.isNone)) = false := by rfl) :
    eE X (.Call (.Name x p) [] kws pos) σ H Q := by
  obtain ⟨f, fd, h1, h2, h3, h4, oc, od, osl, lk⟩ := F.ex
  obtain ⟨f', fd', oc', od', osl', m1, lk', hb⟩ := W.ex
  obtain rfl : f = f' := by
    have := h1.symm.trans m1
    injection this with this
    injection this
  obtain rfl : fd = fd' := by
    have := lk.symm.trans lk'
    injection this with this
    injection this with _ _ this
    injection this
  have hbn : KBn X.K fd ps 0 ks (fun _ ws => gP perm ws) (fun _ zs => gP perm zs) := ⟨fun s us ws _ l1 l2 => by
    obtain rfl : us = [] := List.eq_nil_of_length_eq_zero l1
    exact hb s ws l2, fun _ r => gP_rel r⟩
  have call : PE X (.Call (.Name x p) [] kws pos) (fun σ H Q => eK X kws σ H fun zs H1 => zs.length = ks.length ∧ sp (gP perm zs) H1 Q E0) := ⟨fun pins s σ H Q I h => by
    obtain ⟨t, ht, h⟩ := h
    refine wpAny_Call_Name_kw (ld_glob I hg h1 ?_ hdb)
    refine PySem.W.callWith_KW0 (h₀ := X.base) I.ok.mod.kin h2 hall (thn (ht.run pos pins s σ H _ I h) fun ws s2 ⟨zs, H2, I2, rz, l2, q2⟩ => ⟨I2.kIn, ?_⟩) hpl
    rw [hks]
    exact run_fnN h4 (hr.mono hk) hbn pass0 I2 .nil rz rfl l2 q2⟩
  exact eE.mk call q
end
end Mb

set_option Elab.async false
set_option linter.all false
set_option maxRecDepth 100000
set_option maxHeartbeats 4000000
namespace Mb
open PySem PySem.Spec PyProof.Rows L2 TL
/-! ### the program's levels -/
def levD (o : Own) (ws : Wv) : Dt := .tuple ((lvR o (lv0 o) ws).2.map fun lv => .tuple ((sortW lv).map meD))
section
variable {P : Program} {w : World} {K : PySem.W.Frag} {mg : Str → Option Value} {base : Heap} {C : Addr}
theorem mod_last {α : Type} (d : α) : ∀ A : List (List α), (A ++ [[]]).modify A.length (· ++ [d]) = A ++ [[d]]
  | [] => rfl
  | a :: A => by
    show a :: (A ++ [[]]).modify A.length (· ++ [d]) = a :: (A ++ [[d]])
    rw [mod_last d A]
theorem mod_map (p : Int × Int) : ∀ (L : List Wv) (n : Nat), (L.map fun lv => lv.map meD).modify n (· ++ [meD p]) = (L.modify n (· ++ [p])).map fun lv => lv.map meD
  | [], n => by cases n <;> rfl
  | a :: L, 0 => by
    show (a.map meD ++ [meD p]) :: _ = ((a ++ [p]).map meD) :: _
    rw [List.map_append]
    rfl
  | a :: L, n + 1 => by
    show a.map meD :: (L.map fun lv => lv.map meD).modify n (· ++ [meD p]) = a.map meD :: (L.modify n (· ++ [p])).map _
    rw [mod_map p L n]
theorem rep_flat (n : Nat) : (List.replicate n [V.int 0]).flatten = (List.replicate n (0 : Int)).map V.int := by
  induction n with
  | zero => rfl
  | succ n ih =>
    rw [List.replicate_succ, List.flatten_cons, ih, List.replicate_succ, List.map_cons]
    rfl
theorem scLv : FnScope ["hall", "weaving", "heights", "levels", "meeting", "lot", "hand", "level"] ["hall", "weaving"] (defScope t_story_levels) := ⟨rfl, rfl, rfl, by decide +kernel, rfl, by decide +kernel, by decide +kernel⟩
def rLv : Own → List Dt → Dt → Prop := fun o ds d => ∃ ws, ds = [.tuple (ws.map meD)] ∧ WvOk o (holdI o) ws ∧ d = levD o ws
theorem has_lv (DH : ClsH K C) (T : Top1 K mg "story_levels" t_story_levels ["hall", "weaving"]) (B : Blt mg) (hH : HHoldersOf P w K mg base C) : HasN P w K mg base "story_levels" 6 ["hall", "weaving"] (spHF K C 1 rLv) := by
  refine mkHasN (k := 5) T scLv spHF_len fun f cdv A outer s H vs Q E hr h => ?_
  obtain ⟨G, x, ws0, o, ds, d, rfl, hm, g, hat, ho, hds, ⟨ws, rfl, hws, rfl⟩, k⟩ := h
  have h5 := ho.m5
  have hl1 := hws.len
  have hvk := hws.valid
  cases hds with
  | cons d0 hn =>
    cases hn
    rename_i vw
    refine b_cons (s_expr (w_pu (pu_callH 0 hH hr (by decide) rfl hat ho (pua_cons (pu_var 1 rfl d0) pua_nil) ⟨ws, rfl, hws, rfl⟩) g fun v1 G1 H1 s1 _ => ?_))
    obtain ⟨dx, fs, hx, hF⟩ := hat.mono s1.g
    obtain ⟨w1, w2, w3, w4, w5, rfl, i1, i2, i3, i4, i5⟩ := hF.ex
    -- heights
    refine b_cons (s_set 2 scLv.nd (w_bin op_rep (w_lst (a_cons (w_int (a_nil ⟨by show 1 ≤ sizeLine; decide, fun z hz => ?_⟩))))))
    have sz := s1.trans (Step.allocM (o := .lst [.int 0]) s1.s hz)
    refine w_pu (pu_lenT (pu_pv (pv_fld 0 rfl hx DH.cls DH.hands rfl) i1) B.len) sz.s fun v2 G2 H2 s2 hv2 => ?_
    obtain rfl := hv2.int_inv
    have hz2 : H2 z = some (.lst [.int 0]) := s2.keep upd_same (by simp)
    have en : (ofS o.names).length = o.names.length := by simp [ofS]
    refine ⟨z, _, [.int 0], rfl, rfl, hz2, by omega, by rw [en]; omega, by rw [en]; refine Nat.le_trans (m := 100) ?_ (by decide); simp; omega, fun hh hhh => ?_⟩
    have e0 : (List.replicate ((ofS o.names).length : Int).toNat [V.int 0]).flatten = (lv0 o).1.map V.int := by
      rw [Int.toNat_natCast, en]
      exact rep_flat _
    rw [e0]
    have st2 := sz.trans s2
    refine b_cons (s_set 3 scLv.nd (w_emptyM fun l hl => ?_))
    have F0 : LvAt K G H l [] hh [] (lv0 o).1 G2 (upd (upd H2 hh (.lst ((lv0 o).1.map V.int))) l (.lst [])) := by
      have nhl : hh ≠ l := ne_of_none upd_same hl
      exact ⟨RAt.new (st2.allocF hhh) hl, by rw [upd_ne nhl]; exact upd_same, st2.s.free hhh, st2.free hhh, nhl, by simp⟩
    refine b_cons (s_forD (ds := ws.map meD) (src_tup (pu_var 1 rfl (d0.mono (s1.g.trans s2.g)))) F0.r.st.s fun G3 H3 s3 => ⟨fun i σ H' => ∃ (G9 : Hp) (ls : List Addr) (u4 u5 u6 u7 : Option V), σ = [some (.ref x), some vw, some (.ref hh), some (.ref l), u4, u5, u6, u7] ∧ Same G3 G9 ∧ LvAt K G H l ls hh ((lvR o (lv0 o) (ws.take i)).2.map fun lv => lv.map meD) (lvR o (lv0 o) (ws.take i)).1 G9 H' ∧ (lvR o (lv0 o) (ws.take i)).2.length ≤ i ∧ ∀ lv ∈ (lvR o (lv0 o) (ws.take i)).2, lv.length ≤ i, ?_, ?_, ?_, ?_⟩)
    · exact ⟨G3, [], _, _, _, _, rfl, Same.refl _, F0.pure s3, Nat.le_refl _, by intro lv h; cases h⟩
    · rintro i σ H' ⟨G9, ls, u4, u5, u6, u7, rfl, sg, F9, _⟩
      exact sg.trans F9.r.st.s
    · rintro i d y σ H' H9 hi ⟨G9, ls, u4, u5, u6, u7, rfl, sg, F9, hli, hlv⟩ hw
      rw [List.getElem?_map] at hi
      obtain ⟨p, hp, rfl⟩ := Option.map_eq_some_iff.mp hi
      obtain ⟨p0, p1⟩ := hvk p (List.mem_of_getElem? hp)
      obtain ⟨G10, s10, hy⟩ := hw G9 sg F9.r.st.s
      have F10 := F9.pure s10
      have g110 := s2.g.trans (s3.g.trans (sg.trans s10.g))
      have hvt : ValidK o (ws.take i) := fun q hq => hvk q (List.mem_of_mem_take hq)
      have S := lvR_ok ho (ws := ws.take i) (s := lv0 o) hvt (lv0_ok o)
      have eS : lvR o (lv0 o) (ws.take (i + 1)) = lvS o (lvR o (lv0 o) (ws.take i)) p := by
        rw [take_snoc hp]
        unfold lvR
        rw [List.foldl_append]
        rfl
      generalize lvR o (lv0 o) (ws.take i) = st at F10 S eS hli hlv
      have hiw := (List.getElem?_eq_some_iff.mp hp).1
      obtain ⟨n0, n1, _⟩ := lvN_rng S ho p0 p1
      obtain ⟨ne, hrg⟩ := lotW_rng ho p0 p1
      have l4 : (lotW o p).length ≤ 4 := by
        have r := row_at ho p0 p1
        have h1 := r.rc.2
        have h2 : (kAt o p.1).b.toList.length ≤ 1 := by cases (kAt o p.1).b <;> simp
        have : (lotW o p).length = ((kAt o p.1).cs ++ (kAt o p.1).b.toList).length := (PySem.W.sortI_perm _).length_eq
        rw [this, List.length_append]
        omega
      have lotAt' : (lotsD o)[p.1.toNat]? = some (.tuple (ofI (lotW o p))) := by
        unfold lotsD
        rw [List.getElem?_map, kAt_some p0 p1]
        rfl
      refine g_name 4 scLv.nd (b_cons (s_set 5 scLv.nd (w_pu (d := .tuple (ofI (lotW o p))) (pu_ixT (pu_pv (pv_fld 0 rfl (g110 _ _ hx) DH.cls DH.lots rfl) (i5.mono g110)) (pu_ixT (i := 0) (pu_var 4 rfl hy) pu_int (by decide) rfl) p0 lotAt') F10.r.st.s fun v11 G11 H11 s11 hv11 => ?_)))
      have F11 := F10.pure s11
      refine b_cons (s_set 7 scLv.nd (w_frzI (n := lvN st.1 (lotW o p)) (ds := ofI st.1) F11.gh F11.hh F11.r.st.s (Das.ofInts _) (fun G12 g12 hl12 => pu_maxL (Pu.to (pu_lc1 6 (cd := PyData.int) (ns := lotW o p) (src_tup (pu_var 5 rfl (hv11.mono g12))) (fun h => .int (gH st.1 h)) (fun _ => true) scLv.nd (fun _ _ _ _ _ _ _ _ _ _ _ => puts_nil) ?elt (by omega)) (by rw [filter_tt]; unfold ofI; rw [List.map_map]; rfl)) (by rw [List.length_map]; exact List.length_pos_iff.mpr ne) B.max) fun G12 H12 s12 => ?_))
      case elt =>
        intro h hm _ v G13 g13 hv s0 H0 A0 cl fp
        refine pu_ixL (pu_var 2 rfl (hl12.mono g13)) (pu_var 6 rfl hv) (hrg h hm).1 ?_
        have := gH_eq (hs := st.1) (x := h) (by rw [S.len]; have h1 := (hrg h hm).1; have h2 := (hrg h hm).2; omega)
        unfold ofI
        rw [List.getElem?_map, this]
        rfl
      have F12 := F11.pure s12
      obtain ⟨n, hn⟩ : ∃ n : Nat, lvN st.1 (lotW o p) = n := ⟨(lvN st.1 (lotW o p)).toNat, by omega⟩
      rw [hn]
      have hnl : n ≤ st.2.length := by omega
      have lenls : ls.length = st.2.length := by rw [F12.r.len, List.length_map]
      have dm := hy.mono (s11.g.trans s12.g)
      refine b_cons (s_J (fun σ H' => ∃ (G13 : Hp) (ls' : List Addr) (u6' : Option V), σ = [some (.ref x), some vw, some (.ref hh), some (.ref l), some y, some v11, u6', some (.int (n : Int))] ∧ Same G12 G13 ∧ LvAt K G H l ls' hh (if n = st.2.length then (st.2.map fun lv => lv.map meD) ++ [[]] else st.2.map fun lv => lv.map meD) st.1 G13 H') (fun hJ => s_if (t_cmp op_eq (w_var 7 rfl (w_callB call_len_seq B.len (by decide +kernel) (a_cons (w_var 3 rfl (a_nil ⟨l, _, rfl, .inl (SqL.of F12.r.hl), rfl, _, rfl, ite2 (fun hc => ?_) (fun hc => b_nil (hJ _ _ ⟨G12, ls, _, rfl, Same.refl _, ?_⟩))⟩))))))) ?_)
      · have hc' : n = st.2.length := by
          have := of_decide_eq_true hc
          injection this with this
          rw [List.length_map] at this
          omega
        refine b_one (s_expr (w_append 3 rfl F12.r.hl (w_emptyM fun xn hxn => a_nil (rAppend_q (xs := ls.map V.ref) (by rw [upd_ne (ne_of_none F12.r.hl hxn)]; exact F12.r.hl) (by rw [List.length_map, lenls]; omega) (hJ _ _ ⟨G12, ls ++ [xn], _, rfl, Same.refl _, ?_⟩)))))
        have := F12.grow hxn
        rw [List.map_append] at this
        rw [if_pos hc']
        exact this
      · have hc' : n ≠ st.2.length := fun e => hc (decide_eq_true (by rw [List.length_map, lenls, e]))
        rw [if_neg hc']
        exact F12
      rintro σ H13 ⟨G13, ls', u6', rfl, g1213, F13⟩
      generalize hL : (if n = st.2.length then (st.2.map fun lv => lv.map meD) ++ [[]] else st.2.map fun lv => lv.map meD) = L at F13
      have lenL : n < L.length := by
        rw [← hL]
        split
        · rw [List.length_append, List.length_map, List.length_singleton]; omega
        · rw [List.length_map]; omega
      have hkn : ls'[n]? = some (ls'[n]'(by rw [F13.r.len]; exact lenL)) := List.getElem?_eq_getElem _
      generalize ls'[n]'(by rw [F13.r.len]; exact lenL) = xn at hkn
      obtain ⟨_, _, vsn, dsn, x3, x4, x5⟩ := F13.r.at_ n xn hkn
      have eL : L.modify n (· ++ [meD p]) = (lvS o st p).2.map fun lv => lv.map meD := by
        have e2 : (lvS o st p).2 = putLv st.2 n p := by unfold lvS; rw [hn]; rfl
        rw [e2, ← hL]
        unfold putLv
        by_cases e : n = st.2.length
        · rw [if_pos e, if_pos e, List.map_append]
          have := mod_last (meD p) (st.2.map fun lv => lv.map meD)
          rw [List.length_map, ← e] at this
          exact this
        · rw [if_neg e, if_neg e]
          exact mod_map p st.2 n
      refine b_cons (s_expr (w_bm PySem.F.plainAttrs_list PySem.F.slot_list_append PySem.F.type_list_append mt_append (w_ix ix_list (w_var 3 rfl (w_var 7 rfl ⟨l, _, _, .ref xn, rfl, rfl, SqL.of F13.r.hl, ?ixc, .inl ⟨rfl, _, SqL.of x3⟩, a_cons (w_var 4 rfl (a_nil (rAppend_q x3 ?len ?_)))⟩)))))
      case ixc =>
        unfold atI
        rw [List.length_map, ixN_nn (by omega) (by rw [F13.r.len]; omega), Int.toNat_natCast]
        show (ls'.map V.ref)[n]? = some (.ref xn)
        rw [List.getElem?_map, hkn]
        rfl
      case len =>
        rw [x5.length]
        have : dsn.length ≤ i := by
          rw [← hL] at x4
          have hm := List.mem_of_getElem? x4
          have hz : ∀ z ∈ (st.2.map fun lv => lv.map meD), z.length ≤ i := fun z hz => by
            obtain ⟨lv, h1, rfl⟩ := List.mem_map.mp hz
            rw [List.length_map]
            exact hlv lv h1
          split at hm
          · rcases List.mem_append.mp hm with h | h
            · exact hz _ h
            · rw [List.mem_singleton.mp h]
              exact Nat.zero_le _
          · exact hz _ hm
        omega
      have F14 := F13.app hkn x3 (dm.mono g1213)
      rw [eL] at F14
      have g1114 := s12.g.trans g1213
      refine b_one (s_forD (ds := ofI (lotW o p)) (src_tup (pu_var 5 rfl (hv11.mono g1114))) F14.r.st.s fun G15 H15 s15 => ⟨fun j σ H' => ∃ (G16 : Hp) (u6'' : Option V), σ = [some (.ref x), some vw, some (.ref hh), some (.ref l), some y, some v11, u6'', some (.int (n : Int))] ∧ Same G15 G16 ∧ LvAt K G H l ls' hh ((lvS o st p).2.map fun lv => lv.map meD) (setAll st.1 ((lotW o p).take j) ((n : Int) + 1)) G16 H', ?_, ?_, ?_, ?_⟩)
      · exact ⟨G15, _, rfl, Same.refl _, F14.pure s15⟩
      · rintro j σ H' ⟨G16, u6'', rfl, sg', F16⟩
        exact sg'.trans F16.r.st.s
      · rintro j d z σ H' H9' hj ⟨G16, u6'', rfl, sg', F16⟩ hw'
        unfold ofI at hj
        rw [List.getElem?_map] at hj
        obtain ⟨hd, hhd, rfl⟩ := Option.map_eq_some_iff.mp hj
        obtain ⟨b0, b1⟩ := hrg hd (List.mem_of_getElem? hhd)
        obtain ⟨G17, s17, hz17⟩ := hw' G16 sg' F16.r.st.s
        obtain rfl := hz17.int_inv
        have F17 := F16.pure s17
        have lts : (setAll st.1 ((lotW o p).take j) ((n : Int) + 1)).length = o.names.length := setAll_len.trans S.len
        refine g_name 6 scLv.nd (b_one (s_asg (w_pu (pu_add (pu_var 7 rfl (.int _)) pu_int) F17.r.st.s fun v18 G18 H18 s18 hv18 => ?_)))
        obtain rfl := hv18.int_inv
        have F18 := F17.pure s18
        refine g_sub (w_var 2 rfl (w_var 6 rfl ⟨hh, _, hd, hd.toNat, rfl, rfl, F18.hh, ixN_nn b0 (by rw [List.length_map, lts]; exact b1), ?_⟩))
        have F19 := F18.setH hd ((n : Int) + 1)
        refine ⟨G18, _, rfl, sg'.trans (s17.g.trans s18.g), ?_⟩
        have ej : setAll st.1 ((lotW o p).take (j + 1)) ((n : Int) + 1) = (setAll st.1 ((lotW o p).take j) ((n : Int) + 1)).set hd.toNat ((n : Int) + 1) := by
          rw [take_snoc hhd]
          unfold setAll
          rw [List.foldl_append]
          rfl
        rw [ej]
        exact F19
      · rintro σ H' ⟨G16, u6'', rfl, sg', F16⟩
        have e1 : setAll st.1 ((lotW o p).take (ofI (lotW o p)).length) ((n : Int) + 1) = (lvS o st p).1 := by
          unfold ofI
          rw [List.length_map, List.take_length]
          unfold lvS
          rw [hn]
        rw [e1] at F16
        have e2 : (lvS o st p).2 = putLv st.2 n p := by unfold lvS; rw [hn]; rfl
        refine ⟨G16, ls', _, _, _, _, rfl, sg.trans (s10.g.trans (s11.g.trans (g1114.trans (s15.g.trans sg')))), ?_, ?_, ?_⟩
        · rw [eS]
          exact F16
        · rw [eS, e2, put_len hnl]
          omega
        · rw [eS, e2]
          intro lv hm
          unfold putLv at hm
          split at hm
          · rcases List.mem_append.mp hm with h | h
            · exact Nat.le_succ_of_le (hlv lv h)
            · rw [List.mem_singleton.mp h]
              exact Nat.succ_le_succ (Nat.zero_le _)
          · obtain ⟨q, hq⟩ := List.getElem?_of_mem hm
            rw [List.getElem?_modify] at hq
            obtain ⟨a, ha, rfl⟩ := Option.map_eq_some_iff.mp hq
            have := hlv a (List.mem_of_getElem? ha)
            split
            · rw [List.length_append, List.length_singleton]
              omega
            · omega
    · rintro σ H' ⟨G9, ls, u4, u5, u6, u7, rfl, sg, F9, hli, hlv⟩
      rw [List.length_map, List.take_length] at F9 hli hlv
      obtain ⟨G', stf, _, df⟩ := F9.r.fin
      refine b_one (s_ret (w_pu (d := levD o ws) (pu_tupleL (Pu.to (pu_lc1 7 (cd := fun lv : Wv => .list (lv.map meD)) (ns := (lvR o (lv0 o) ws).2) (src_list (Pu.to (pu_var 3 rfl df) (by rw [List.map_map]; rfl))) (fun lv => .tuple ((sortW lv).map meD)) (fun _ => true) scLv.nd (fun _ _ _ _ _ _ _ _ _ _ _ => puts_nil) (fun lv _ _ v G2 g2 hv _ _ _ _ _ => pu_tupleL (pu_sortedW (pu_var 7 rfl hv) B.sorted) (by exact B.tuple)) (by omega)) (by rw [filter_tt])) B.tuple) stf.s fun v3 G3' H3' s3' hv3 => k v3 G3' H3' (stf.trans s3') hv3))
end
end Mb

set_option Elab.async false
set_option linter.all false
set_option maxRecDepth 100000
set_option maxHeartbeats 4000000
namespace Mb
open PySem PySem.Spec PyProof.Rows L2 TL
theorem lotK_len {k : Kd} {n : Nat} (hk : RowOk n k.cs k.b k.e k.g) : (lotK k).length ≤ 4 := by
  have h1 := hk.rc.2
  have h2 : k.b.toList.length ≤ 1 := by cases k.b <;> simp
  have : (lotK k).length = (k.cs ++ k.b.toList).length := (PySem.W.sortI_perm _).length_eq
  rw [this, List.length_append]
  omega
theorem lotK_nd {k : Kd} {n : Nat} (hk : RowOk n k.cs k.b k.e k.g) : (lotK k).Nodup := by
  refine (PySem.W.sortI_perm _).symm.nodup ?_
  rw [List.nodup_append]
  refine ⟨hk.rc.1.1, ?_, ?_⟩
  · cases k.b <;> simp
  · intro x hx y hy e
    subst e
    have hb : k.b = some x := by
      cases h : k.b with
      | none => rw [h] at hy; simp at hy
      | some z =>
        rw [h] at hy
        simp at hy
        rw [hy]
    exact (hk.rb x hb).2.2 hx
section
variable {P : Program} {w : World} {K : PySem.W.Frag} {mg : Str → Option Value} {base : Heap} {C : Addr}
theorem scApart : FnScope ["own", "one", "other", "hand"] ["own", "one", "other"] (defScope t_law_are_apart) := ⟨rfl, rfl, rfl, by decide +kernel, rfl, by decide +kernel, by decide +kernel⟩
theorem has_apart (T : Top1 K mg "_law_are_apart" t_law_are_apart ["own", "one", "other"]) (B : Blt mg) (hL : HLLot P w K mg base) : HApart P w K mg base := by
  refine mkHas (k := 1) T scApart spPure_len fun f cdv A outer s H vs Q E hr h => ?_
  obtain ⟨G, ds, d, hm, g, hds, ⟨o, i, j, rfl, ho, i0, i1, j0, j1, rfl⟩, k⟩ := h
  have hl4 := lotK_len (row_at ho i0 i1)
  cases hds with
  | cons d0 hn =>
  cases hn with
  | cons d1 hn =>
  cases hn with
  | cons d2 hn =>
    cases hn
    refine b_one (s_ret (w_pu (pu_not (pu_any (bs := (lotK (kAt o i)).map fun x => decide (x ∈ lotK (kAt o j))) (Pu.to (pu_lc1 3 (cd := PyData.int) (ns := lotK (kAt o i)) (src_list (pu_call hL hr (by decide) (pua_cons (pu_var 0 rfl d0) (pua_cons (pu_var 1 rfl d1) pua_nil)) ⟨o, i, rfl, ho, i0, i1, rfl⟩ rfl)) (fun x => .bool (decide (x ∈ lotK (kAt o j)))) (fun _ => true) scApart.nd (fun _ _ _ _ _ _ _ _ _ _ _ => puts_nil) ?elt (by omega)) (by rw [filter_tt, List.map_map]; rfl)) B.any)) g fun v1 G1 H1 s1 hv => k v1 G1 H1 s1 ?_))
    case elt =>
      intro y _ _ v G2 g2 hv s0 H0 A0 cl fp
      exact pu_c (c_inI (pu_var 3 rfl hv) (pu_call hL (j := 1) hr (by decide) (pua_cons (pu_var 0 rfl (d0.mono g2)) (pua_cons (pu_var 2 rfl (d2.mono g2)) pua_nil)) ⟨o, j, rfl, ho, j0, j1, rfl⟩ rfl))
    unfold apB
    rw [List.any_map] at hv
    exact hv
end
/-! ### [[] for x in ..]: as many new lists -/
section
variable {X : Cx} {σ : L2.St} {G H : Hp} {ds : List Dt}
theorem lcRows (k : Nat) {iter : Expr} {scope : Scope} {x : Str} {px lp : Pos} {Q : VK} (hs : Src X (.Name x px) iter σ G ds) (g : Same G H) (hN : X.N.Nodup) (hl : ds.length < 1000)
    (q : ∀ D ls G3 H3, RAt X.K G H D ls (List.replicate ds.length []) G3 H3 → Q (.ref D) H3) (hk : X.N[k]? = some x := by rfl) (hx : scope.names.lookup x = some .local := by rfl) : eLc X (.List [] lp) (.Name x px) iter [] scope [k] σ H Q :=
  lcX1 k hs g hN (fun G1 H1 s1 D hD => ⟨fun i acc H' => ∃ (G3 : Hp) (ls : List Addr), acc = ls.map V.ref ∧ RAt X.K G H D ls (List.replicate i []) G3 H' ∧ Same G1 G3 ∧ i ≤ ds.length, ⟨G1, [], rfl, RAt.new s1 hD, Same.refl _, Nat.zero_le _⟩, (by
    rintro i acc H' ⟨G3, ls, rfl, R, sg, _⟩
    exact sg.trans R.st.s), (by
    rintro i d v acc H2 H3 hd ⟨G3, ls, rfl, R, sg, hi⟩ hw s0 H0 C cl fp
    obtain ⟨G4, s4, hv⟩ := hw G3 sg R.st.s
    have R4 := R.pure s4
    have hlt := (List.getElem?_eq_some_iff.mp hd).1
    have e := R4.len
    rw [List.length_replicate] at e
    refine w_emptyM fun l hl' => ⟨by rw [upd_ne (ne_of_none R4.hl hl')]; exact R4.hl, by rw [List.length_map]; omega, G4, ls ++ [l], by simp, ?_, sg.trans s4.g, hlt⟩
    have := R4.grow hl'
    rw [List.replicate_succ']
    rw [List.map_append] at this
    exact this), (by
    rintro acc H' ⟨G3, ls, rfl, R, sg, _⟩
    exact q D ls G3 H' R)⟩) hk hx
end
/-! ### rows of hands -/
def rowsD (o : Own) (ws : Wv) : Dt := .list ((List.range o.names.length).map fun h => .tuple ((ws.filter (hasH o (h : Nat))).map meD))
theorem mod_range {α : Type} (f : Nat → List α) (x : α) (k n : Nat) : ((List.range n).map f).modify k (· ++ [x]) = (List.range n).map fun h => if h = k then f h ++ [x] else f h := by
  apply List.ext_getElem?
  intro i
  rw [List.getElem?_modify, List.getElem?_map, List.getElem?_map]
  by_cases h : i < n
  · rw [List.getElem?_range h]
    simp only [Option.map_some]
    by_cases e : k = i
    · subst e
      simp
    · have e' : ¬ i = k := fun h => e h.symm
      simp [e, e']
  · rw [List.getElem?_eq_none (by rw [List.length_range]; omega)]
    rfl
section
variable {P : Program} {w : World} {K : PySem.W.Frag} {mg : Str → Option Value} {base : Heap} {C : Addr}
theorem scHR : FnScope ["own", "weaving", "found", "name", "kind", "load", "hand", "row"] ["own", "weaving"] (defScope t_law_hand_rows) := ⟨rfl, rfl, rfl, by decide +kernel, rfl, by decide +kernel, by decide +kernel⟩
def rHR : List Dt → Dt → Prop := fun ds d => ∃ o ws, ds = [ownD o, .tuple (ws.map meD)] ∧ OwnOk o ∧ ValidK o ws ∧ ws.length ≤ 1000 ∧ d = rowsD o ws
abbrev HHR (P w K mg base) := Has P w K mg base "_law_hand_rows" 2 2 (spPure K 2 rHR)
theorem has_hr (T : Top1 K mg "_law_hand_rows" t_law_hand_rows ["own", "weaving"]) (B : Blt mg) (hL : HLLot P w K mg base) : HHR P w K mg base := by
  refine mkHas (k := 1) T scHR spPure_len fun f cdv A outer s H vs Q E hr h => ?_
  obtain ⟨G, ds, d, hm, g, hds, ⟨o, ws, rfl, ho, hvk, hl, rfl⟩, k⟩ := h
  have hu := hu1 (hu64 hr)
  have h5 := ho.m5
  cases hds with
  | cons d0 hn =>
  cases hn with
  | cons d1 hn =>
    cases hn
    rename_i v0 v1
    refine b_cons (s_setLc 2 [("name", 3)] (blkOk_by (by kernel_rfl)) scHR.nd (lcRows 3 (ds := ofS o.names) (src_list (pu_dget (.inr "names") (pu_var 0 rfl d0) pu_str (own_names o) hu)) g scHR.nd (by simp [ofS]; omega) fun D ls0 G3 H3 R => ?_))
    have en : (ofS o.names).length = o.names.length := by simp [ofS]
    rw [en] at R
    have R0 : RAt K G H D ls0 ((List.range o.names.length).map fun h => (([] : Wv).filter (hasH o (h : Nat))).map meD) G3 H3 := by
      have e : ((List.range o.names.length).map fun h => (([] : Wv).filter (hasH o (h : Nat))).map meD) = List.replicate o.names.length [] := by
        rw [List.eq_replicate_iff]
        refine ⟨by simp, fun b hb => ?_⟩
        obtain ⟨h, _, rfl⟩ := List.mem_map.mp hb
        rfl
      rw [e]
      exact R
    refine b_cons (s_forD (ds := ws.map meD) (src_tup (pu_var 1 rfl (d1.mono R.st.g))) R0.st.s fun G4 H4 s4 => ⟨fun i σ H' => ∃ (G9 : Hp) (u3 u4 u5 u6 u7 : Option V), σ = [some v0, some v1, some (.ref D), u3, u4, u5, u6, u7] ∧ Same G4 G9 ∧ RAt K G H D ls0 ((List.range o.names.length).map fun h => ((ws.take i).filter (hasH o (h : Nat))).map meD) G9 H', ?_, ?_, ?_, ?_⟩)
    · exact ⟨G4, _, _, _, _, _, rfl, Same.refl _, R0.pure s4⟩
    · rintro i σ H' ⟨G9, _, _, _, _, _, rfl, sg, R9⟩
      exact sg.trans R9.st.s
    · rintro i d y σ H' H9 hi ⟨G9, u3, u4, u5, u6, u7, rfl, sg, R9⟩ hw
      rw [List.getElem?_map] at hi
      obtain ⟨p, hp, rfl⟩ := Option.map_eq_some_iff.mp hi
      obtain ⟨p0, p1⟩ := hvk p (List.mem_of_getElem? hp)
      have hiw := (List.getElem?_eq_some_iff.mp hp).1
      obtain ⟨G10, s10, hy⟩ := hw G9 sg R9.st.s
      have R10 := R9.pure s10
      have g310 := s4.g.trans (sg.trans s10.g)
      obtain ⟨t, ts, rfl, ht, hts⟩ := hy.tup_inv
      cases hts with
      | cons y1 hts =>
      cases hts with
      | cons y2 hts =>
      cases hts
      rename_i vk vl
      have rk := row_at ho p0 p1
      have l4 := lotK_len rk
      have lnd := lotK_nd rk
      obtain ⟨ne, hrg⟩ := lotW_rng ho p0 p1
      refine g_tup (SqT.same R10.st.s ht) rfl (gs_cons (g_name 4 scHR.nd (gs_cons (g_name 5 scHR.nd (gs_nil ?_)))))
      refine b_one (s_forD (ds := ofI (lotK (kAt o p.1))) (src_list (pu_call hL hr (by decide) (pua_cons (pu_var 0 rfl (d0.mono (R.st.g.trans g310))) (pua_cons (pu_var 4 rfl y1) pua_nil)) ⟨o, p.1, rfl, ho, p0, p1, rfl⟩ rfl)) R10.st.s fun G11 H11 s11 => ⟨fun j σ H' => ∃ (G12 : Hp) (u6' : Option V), σ = [some v0, some v1, some (.ref D), u3, some vk, some vl, u6', u7] ∧ Same G11 G12 ∧ RAt K G H D ls0 ((List.range o.names.length).map fun h => ((ws.take i).filter (hasH o (h : Nat))).map meD ++ if ((h : Nat) : Int) ∈ (lotK (kAt o p.1)).take j then [meD p] else []) G12 H', ?_, ?_, ?_, ?_⟩)
      · refine ⟨G11, _, rfl, Same.refl _, ?_⟩
        simpa using R10.pure s11
      · rintro j σ H' ⟨G12, _, rfl, sg', R12⟩
        exact sg'.trans R12.st.s
      · rintro j d z σ H' H9' hj ⟨G12, u6', rfl, sg', R12⟩ hw'
        unfold ofI at hj
        rw [List.getElem?_map] at hj
        obtain ⟨hd, hhd, rfl⟩ := Option.map_eq_some_iff.mp hj
        obtain ⟨b0, b1⟩ := hrg hd (List.mem_of_getElem? hhd)
        obtain ⟨n, rfl⟩ : ∃ n : Nat, hd = n := ⟨hd.toNat, by omega⟩
        obtain ⟨G13, s13, hz⟩ := hw' G12 sg' R12.st.s
        obtain rfl := hz.int_inv
        have R13 := R12.pure s13
        have hnl : n < ls0.length := by rw [R13.len, List.length_map, List.length_range]; omega
        have hkn : ls0[n]? = some ls0[n] := List.getElem?_eq_getElem hnl
        generalize ls0[n] = xn at hkn
        refine g_name 6 scHR.nd (b_one (s_expr ?_))
        obtain ⟨_, _, vsn, dsn, x3, x4, x5⟩ := R13.at_ n xn hkn
        refine w_bm PySem.F.plainAttrs_list PySem.F.slot_list_append PySem.F.type_list_append mt_append (w_ix ix_list (w_var 2 rfl (w_var 6 rfl ⟨D, _, _, .ref xn, rfl, rfl, SqL.of R13.hl, ?ixc, .inl ⟨rfl, _, SqL.of x3⟩, a_cons (w_tup (a_cons (w_var 4 rfl (a_cons (w_var 5 rfl (a_nil ⟨by show 2 ≤ sizeLine; decide, fun q hq => ?_⟩))))))⟩)))
        case ixc =>
          unfold atI
          rw [List.length_map, ixN_nn (by omega) (by omega), Int.toNat_natCast]
          show (ls0.map V.ref)[n]? = some (.ref xn)
          rw [List.getElem?_map, hkn]
          rfl
        have R14 := R13.pure (Step.alloc (o := .tup [vk, vl]) R13.st.s hq)
        have g1014 := (s11.g.trans (sg'.trans s13.g)).trans (Same.toUpd (R13.st.s.free hq) (o := .tup [vk, vl]))
        have x3' : (upd H9' q (.tup [vk, vl])) xn = some (.lst vsn) := by
          rw [upd_ne (ne_of_none x3 hq)]
          exact x3
        refine a_nil (rAppend_q x3' ?len ?_)
        case len =>
          rw [x5.length]
          rw [List.getElem?_map, List.getElem?_range (by rw [R13.len, List.length_map, List.length_range] at hnl; exact hnl)] at x4
          obtain rfl := Option.some.inj x4
          rw [List.length_append, List.length_map]
          have h1 := List.length_filter_le (hasH o (n : Nat)) (ws.take i)
          rw [List.length_take] at h1
          split <;> simp <;> omega
        refine ⟨upd G13 q (.tup [vk, vl]), _, rfl, (sg'.trans s13.g).trans (Same.toUpd (R13.st.s.free hq)), ?_⟩
        have R15 := R14.app hkn x3' (v := .ref q) (d := meD p) (.tup (SqT.of upd_same) (.cons ((y1.mono g1014)) (.one (y2.mono g1014))))
        rw [mod_range] at R15
        refine cast (congrArg (fun L => RAt K G H D ls0 L _ _) (List.map_congr_left fun h hh => ?_)) R15
        have hnot : ((n : Nat) : Int) ∉ (lotK (kAt o p.1)).take j := fun hm => by
          obtain ⟨i', hi', e'⟩ := List.mem_iff_getElem.mp hm
          rw [List.length_take] at hi'
          rw [List.getElem_take] at e'
          obtain ⟨j1, j2⟩ := List.getElem?_eq_some_iff.mp hhd
          exact absurd (e'.trans j2.symm) (List.pairwise_iff_getElem.mp (List.nodup_iff_pairwise_ne.mp lnd) _ _ _ _ (by omega))
        rw [take_snoc hhd]
        by_cases e : h = n
        · subst e
          rw [if_pos rfl, if_neg hnot, List.append_nil, if_pos (List.mem_append_right _ List.mem_cons_self)]
        · rw [if_neg e]
          have e' : ¬ ((h : Nat) : Int) = n := by omega
          congr 1
          by_cases hm : ((h : Nat) : Int) ∈ (lotK (kAt o p.1)).take j
          · rw [if_pos hm, if_pos (List.mem_append_left _ hm)]
          · rw [if_neg hm, if_neg (fun q => (List.mem_append.mp q).elim hm fun q => e' (List.mem_singleton.mp q))]
      · rintro σ H' ⟨G12, u6', rfl, sg', R12⟩
        refine ⟨G12, _, _, _, _, _, rfl, sg.trans (s10.g.trans (s11.g.trans sg')), ?_⟩
        refine cast (congrArg (fun L => RAt K G H D ls0 L _ _) (List.map_congr_left fun h hh => ?_)) R12
        have e : (ofI (lotK (kAt o p.1))).length = (lotK (kAt o p.1)).length := by simp [ofI]
        rw [e, List.take_length, take_snoc hp, List.filter_append, List.map_append]
        congr 1
        by_cases hm : ((h : Nat) : Int) ∈ lotK (kAt o p.1)
        · have : hasH o (h : Nat) p = true := decide_eq_true hm
          rw [if_pos hm, List.filter_cons_of_pos this]
          rfl
        · have : ¬ hasH o (h : Nat) p = true := fun q => hm (of_decide_eq_true q)
          rw [if_neg hm, List.filter_cons_of_neg this]
          rfl
    · rintro σ H' ⟨G9, u3, u4, u5, u6, u7, rfl, sg, R9⟩
      rw [List.length_map, List.take_length] at R9
      obtain ⟨G', stf, _, df⟩ := R9.fin
      refine b_one (s_ret (w_pu (d := rowsD o ws) (Pu.to (pu_lc1 7 (cd := fun h : Nat => .list ((ws.filter (hasH o (h : Nat))).map meD)) (ns := List.range o.names.length) (src_list (Pu.to (pu_var 2 rfl df) (by rw [List.map_map]; rfl))) (fun h => .tuple ((ws.filter (hasH o (h : Nat))).map meD)) (fun _ => true) scHR.nd (fun _ _ _ _ _ _ _ _ _ _ _ => puts_nil) (fun h _ _ v G2 g2 hv _ _ _ _ _ => pu_tupleL (pu_var 7 rfl hv) (by exact B.tuple)) (by rw [List.length_range]; omega)) (by rw [filter_tt]; rfl)) stf.s fun v3 G3' H3' s3' hv3 => k v3 G3' H3' (stf.trans s3') hv3))
end
end Mb

set_option Elab.async false
set_option linter.all false
set_option maxRecDepth 100000
set_option maxHeartbeats 4000000
namespace Mb
open PySem PySem.Spec PyProof.Rows L2 TL
/-! ### the law's own levels -/
theorem LvAt.mk' {K : PySem.W.Frag} {G H : Hp} {l h : Addr} {ts : List Int} {G3 H3 G4 H4 : Hp} (F : RAt K G H l [] [] G3 H3) (st : Step [] G3 H3 G4 H4) (g4 : G4 h = none) (h3 : H3 h = none) (h4 : H4 h = some (.lst (ts.map V.int))) : LvAt K G H l [] h [] ts G4 H4 :=
  ⟨F.pure st, h4, g4, F.st.free h3, (fun e => by
    subst e
    rw [F.hl] at h3
    cases h3), by simp⟩
section
variable {P : Program} {w : World} {K : PySem.W.Frag} {mg : Str → Option Value} {base : Heap} {C : Addr}
theorem scLL : FnScope ["own", "weaving", "levels", "tops", "kind", "load", "lot", "level", "hand", "row", "name"] ["own", "weaving"] (defScope t_law_levels) := ⟨rfl, rfl, rfl, by decide +kernel, rfl, by decide +kernel, by decide +kernel⟩
def rLL : List Dt → Dt → Prop := fun ds d => ∃ o ws, ds = [ownD o, .tuple (ws.map meD)] ∧ OwnOk o ∧ ValidK o ws ∧ ws.length ≤ 1000 ∧ d = levD o ws
abbrev HLL (P w K mg base) := Has P w K mg base "_law_levels" 2 2 (spPure K 2 rLL)
theorem has_ll (T : Top1 K mg "_law_levels" t_law_levels ["own", "weaving"]) (B : Blt mg) (hL : HLLot P w K mg base) : HLL P w K mg base := by
  refine mkHas (k := 1) T scLL spPure_len fun f cdv A outer s H vs Q E hr h => ?_
  obtain ⟨G, ds, d, hm, g, hds, ⟨o, ws, rfl, ho, hvk, hl1, rfl⟩, k⟩ := h
  have hu := hu1 (hu64 hr)
  have h5 := ho.m5
  cases hds with
  | cons d0 hn =>
  cases hn with
  | cons d1 hn =>
    cases hn
    rename_i v0 v1
    refine b_cons (s_asg (w_tup (a_cons (w_emptyM fun l hl => a_cons (w_lc [("name", 10)] (blkOk_by (by kernel_rfl)) scLL.nd (lc1 10 (cd := PyData.str) (ns := o.names) (src_list (pu_dget (.inr "names") (pu_var 0 rfl d0) pu_str (own_names o) hu)) (fun _ => .int 0) (fun _ => true) scLL.nd (fun _ _ _ _ _ _ _ _ _ _ _ => puts_nil) (fun _ _ _ _ _ _ _ _ _ _ _ _ => pu_int) (by omega) rfl rfl G (upd H l (.lst [])) (Same.refl G) (Step.allocM (A := []) g hl).s _ fun hh xs G1 H1 st1 gh hh0 hh2 hd2 => a_nil ⟨by show 2 ≤ sizeLine; decide, fun q hq => g_tup (xs := [.ref l, .ref hh]) (SqT.of upd_same) rfl (gs_cons (g_name 2 scLL.nd (gs_cons (g_name 3 scLL.nd (gs_nil ?_)))))⟩) rfl (by intro _; rfl))))))
    have exs : xs = (lv0 o).1.map V.int := by
      have e : ((o.names.filter fun _ => true).map fun _ => (PyData.int 0)) = ofI (lv0 o).1 := by
        rw [filter_tt]
        show _ = ofI (List.replicate o.names.length 0)
        unfold ofI
        rw [List.map_replicate, List.eq_replicate_iff]
        refine ⟨by simp, fun b hb => ?_⟩
        obtain ⟨h, _, rfl⟩ := List.mem_map.mp hb
        rfl
      rw [e] at hd2
      exact hd2.ints
    subst exs
    have F00 : LvAt K G H l [] hh [] (lv0 o).1 G1 H1 := LvAt.mk' (RAt.new (Step.refl g) hl) st1 gh hh0 hh2
    have sq := Step.alloc (A := []) (o := .tup [.ref l, .ref hh]) F00.r.st.s hq
    have F0 := F00.pure sq
    have st2 := st1.trans sq
    generalize upd G1 q (.tup [.ref l, .ref hh]) = G2 at F0 st2
    generalize upd H1 q (.tup [.ref l, .ref hh]) = H2 at F0 st2
    refine b_cons (s_forD (ds := ws.map meD) (src_tup (pu_var 1 rfl (d1.mono st2.g))) F0.r.st.s fun G3 H3 s3 => ⟨fun i σ H' => ∃ (G9 : Hp) (ls : List Addr) (u4 u5 u6 u7 u8 u9 u10 : Option V), σ = [some v0, some v1, some (.ref l), some (.ref hh), u4, u5, u6, u7, u8, u9, u10] ∧ Same G3 G9 ∧ LvAt K G H l ls hh ((lvR o (lv0 o) (ws.take i)).2.map fun lv => lv.map meD) (lvR o (lv0 o) (ws.take i)).1 G9 H' ∧ (lvR o (lv0 o) (ws.take i)).2.length ≤ i ∧ ∀ lv ∈ (lvR o (lv0 o) (ws.take i)).2, lv.length ≤ i, ?_, ?_, ?_, ?_⟩)
    · exact ⟨G3, [], _, _, _, _, _, _, _, rfl, Same.refl _, F0.pure s3, Nat.le_refl _, by intro lv h; cases h⟩
    · rintro i σ H' ⟨G9, ls, u4, u5, u6, u7, u8, u9, u10, rfl, sg, F9, _⟩
      exact sg.trans F9.r.st.s
    · rintro i d y σ H' H9 hi ⟨G9, ls, u4, u5, u6, u7, u8, u9, u10, rfl, sg, F9, hli, hlv⟩ hw
      rw [List.getElem?_map] at hi
      obtain ⟨p, hp, rfl⟩ := Option.map_eq_some_iff.mp hi
      obtain ⟨p0, p1⟩ := hvk p (List.mem_of_getElem? hp)
      obtain ⟨G10, s10, hy⟩ := hw G9 sg F9.r.st.s
      have F10 := F9.pure s10
      have g110 := st2.g.trans (s3.g.trans (sg.trans s10.g))
      have hvt : ValidK o (ws.take i) := fun q hq => hvk q (List.mem_of_mem_take hq)
      have S := lvR_ok ho (ws := ws.take i) (s := lv0 o) hvt (lv0_ok o)
      have eS : lvR o (lv0 o) (ws.take (i + 1)) = lvS o (lvR o (lv0 o) (ws.take i)) p := by
        rw [take_snoc hp]
        unfold lvR
        rw [List.foldl_append]
        rfl
      generalize lvR o (lv0 o) (ws.take i) = st at F10 S eS hli hlv
      have hiw := (List.getElem?_eq_some_iff.mp hp).1
      obtain ⟨n0, n1, _⟩ := lvN_rng S ho p0 p1
      obtain ⟨ne, hrg⟩ := lotW_rng ho p0 p1
      have l4 : (lotW o p).length ≤ 4 := by
        have r := row_at ho p0 p1
        have h1 := r.rc.2
        have h2 : (kAt o p.1).b.toList.length ≤ 1 := by cases (kAt o p.1).b <;> simp
        have : (lotW o p).length = ((kAt o p.1).cs ++ (kAt o p.1).b.toList).length := (PySem.W.sortI_perm _).length_eq
        rw [this, List.length_append]
        omega
      obtain ⟨t, ts, rfl, ht, hts⟩ := hy.tup_inv
      cases hts with
      | cons y1 hts =>
      cases hts with
      | cons y2 hts =>
      cases hts
      rename_i vk vl
      refine g_tup (SqT.same F10.r.st.s ht) rfl (gs_cons (g_name 4 scLL.nd (gs_cons (g_name 5 scLL.nd (gs_nil ?_)))))
      refine b_cons (s_set 6 scLL.nd (w_pu (d := .list (ofI (lotW o p))) (pu_call hL hr (by decide) (pua_cons (pu_var 0 rfl (d0.mono g110)) (pua_cons (pu_var 4 rfl y1) pua_nil)) ⟨o, p.1, rfl, ho, p0, p1, rfl⟩ rfl) F10.r.st.s fun v11 G11 H11 s11 hv11 => ?_))
      have F11 := F10.pure s11
      refine b_cons (s_set 7 scLL.nd (w_frzI (n := lvN st.1 (lotW o p)) (ds := ofI st.1) F11.gh F11.hh F11.r.st.s (Das.ofInts _) (fun G12 g12 hl12 => pu_maxL (Pu.to (pu_lc1 8 (cd := PyData.int) (ns := lotW o p) (src_list (pu_var 6 rfl (hv11.mono g12))) (fun h => .int (gH st.1 h)) (fun _ => true) scLL.nd (fun _ _ _ _ _ _ _ _ _ _ _ => puts_nil) ?elt (by omega)) (by rw [filter_tt]; unfold ofI; rw [List.map_map]; rfl)) (by rw [List.length_map]; exact List.length_pos_iff.mpr ne) B.max) fun G12 H12 s12 => ?_))
      case elt =>
        intro h hm _ v G13 g13 hv s0 H0 A0 cl fp
        refine pu_ixL (pu_var 3 rfl (hl12.mono g13)) (pu_var 8 rfl hv) (hrg h hm).1 ?_
        have := gH_eq (hs := st.1) (x := h) (by rw [S.len]; have h1 := (hrg h hm).1; have h2 := (hrg h hm).2; omega)
        unfold ofI
        rw [List.getElem?_map, this]
        rfl
      have F12 := F11.pure s12
      obtain ⟨n, hn⟩ : ∃ n : Nat, lvN st.1 (lotW o p) = n := ⟨(lvN st.1 (lotW o p)).toNat, by omega⟩
      rw [hn]
      have hnl : n ≤ st.2.length := by omega
      have lenls : ls.length = st.2.length := by rw [F12.r.len, List.length_map]
      have y1' := y1.mono (s11.g.trans s12.g)
      have y2' := y2.mono (s11.g.trans s12.g)
      refine b_cons (s_J (fun σ H' => ∃ (G13 : Hp) (ls' : List Addr) (u6' : Option V), σ = [some v0, some v1, some (.ref l), some (.ref hh), some vk, some vl, some v11, some (.int (n : Int)), u6', u9, u10] ∧ Same G12 G13 ∧ LvAt K G H l ls' hh (if n = st.2.length then (st.2.map fun lv => lv.map meD) ++ [[]] else st.2.map fun lv => lv.map meD) st.1 G13 H') (fun hJ => s_if (t_cmp op_eq (w_var 7 rfl (w_callB call_len_seq B.len (by decide +kernel) (a_cons (w_var 2 rfl (a_nil ⟨l, _, rfl, .inl (SqL.of F12.r.hl), rfl, _, rfl, ite2 (fun hc => ?_) (fun hc => b_nil (hJ _ _ ⟨G12, ls, _, rfl, Same.refl _, ?_⟩))⟩))))))) ?_)
      · have hc' : n = st.2.length := by
          have := of_decide_eq_true hc
          injection this with this
          rw [List.length_map] at this
          omega
        refine b_one (s_expr (w_append 2 rfl F12.r.hl (w_emptyM fun xn hxn => a_nil (rAppend_q (xs := ls.map V.ref) (by rw [upd_ne (ne_of_none F12.r.hl hxn)]; exact F12.r.hl) (by rw [List.length_map, lenls]; omega) (hJ _ _ ⟨G12, ls ++ [xn], _, rfl, Same.refl _, ?_⟩)))))
        have := F12.grow hxn
        rw [List.map_append] at this
        rw [if_pos hc']
        exact this
      · have hc' : n ≠ st.2.length := fun e => hc (decide_eq_true (by rw [List.length_map, lenls, e]))
        rw [if_neg hc']
        exact F12
      rintro σ H13 ⟨G13, ls', u6', rfl, g1213, F13⟩
      generalize hL : (if n = st.2.length then (st.2.map fun lv => lv.map meD) ++ [[]] else st.2.map fun lv => lv.map meD) = L at F13
      have lenL : n < L.length := by
        rw [← hL]
        split
        · rw [List.length_append, List.length_map, List.length_singleton]; omega
        · rw [List.length_map]; omega
      have hkn : ls'[n]? = some (ls'[n]'(by rw [F13.r.len]; exact lenL)) := List.getElem?_eq_getElem _
      generalize ls'[n]'(by rw [F13.r.len]; exact lenL) = xn at hkn
      obtain ⟨_, _, vsn, dsn, x3, x4, x5⟩ := F13.r.at_ n xn hkn
      have eL : L.modify n (· ++ [meD p]) = (lvS o st p).2.map fun lv => lv.map meD := by
        have e2 : (lvS o st p).2 = putLv st.2 n p := by unfold lvS; rw [hn]; rfl
        rw [e2, ← hL]
        unfold putLv
        by_cases e : n = st.2.length
        · rw [if_pos e, if_pos e, List.map_append]
          have := mod_last (meD p) (st.2.map fun lv => lv.map meD)
          rw [List.length_map, ← e] at this
          exact this
        · rw [if_neg e, if_neg e]
          exact mod_map p st.2 n
      refine b_cons (s_expr (w_bm PySem.F.plainAttrs_list PySem.F.slot_list_append PySem.F.type_list_append mt_append (w_ix ix_list (w_var 2 rfl (w_var 7 rfl ⟨l, _, _, .ref xn, rfl, rfl, SqL.of F13.r.hl, ?ixc, .inl ⟨rfl, _, SqL.of x3⟩, a_cons (w_tup (a_cons (w_var 4 rfl (a_cons (w_var 5 rfl (a_nil ⟨by show 2 ≤ sizeLine; decide, fun q hq => a_nil (rAppend_q (xs := vsn) (by rw [upd_ne (ne_of_none x3 hq)]; exact x3) ?len ?_)⟩))))))⟩)))))
      case ixc =>
        unfold atI
        rw [List.length_map, ixN_nn (by omega) (by rw [F13.r.len]; omega), Int.toNat_natCast]
        show (ls'.map V.ref)[n]? = some (.ref xn)
        rw [List.getElem?_map, hkn]
        rfl
      case len =>
        rw [x5.length]
        have : dsn.length ≤ i := by
          rw [← hL] at x4
          have hm := List.mem_of_getElem? x4
          have hz : ∀ z ∈ (st.2.map fun lv => lv.map meD), z.length ≤ i := fun z hz => by
            obtain ⟨lv, h1, rfl⟩ := List.mem_map.mp hz
            rw [List.length_map]
            exact hlv lv h1
          split at hm
          · rcases List.mem_append.mp hm with h | h
            · exact hz _ h
            · rw [List.mem_singleton.mp h]
              exact Nat.zero_le _
          · exact hz _ hm
        omega
      have R14 := F13.pure (Step.alloc (o := .tup [vk, vl]) F13.r.st.s hq)
      have gq := Same.toUpd (F13.r.st.s.free hq) (o := .tup [vk, vl])
      have F14 := R14.app hkn (by rw [upd_ne (ne_of_none x3 hq)]; exact x3) (v := .ref q) (d := meD p) (.tup (SqT.of upd_same) (.cons (y1'.mono (g1213.trans gq)) (.one (y2'.mono (g1213.trans gq)))))
      rw [eL] at F14
      have g1114 := s12.g.trans (g1213.trans gq)
      refine b_one (s_forD (ds := ofI (lotW o p)) (src_list (pu_var 6 rfl (hv11.mono g1114))) F14.r.st.s fun G15 H15 s15 => ⟨fun j σ H' => ∃ (G16 : Hp) (u6'' : Option V), σ = [some v0, some v1, some (.ref l), some (.ref hh), some vk, some vl, some v11, some (.int (n : Int)), u6'', u9, u10] ∧ Same G15 G16 ∧ LvAt K G H l ls' hh ((lvS o st p).2.map fun lv => lv.map meD) (setAll st.1 ((lotW o p).take j) ((n : Int) + 1)) G16 H', ?_, ?_, ?_, ?_⟩)
      · exact ⟨G15, _, rfl, Same.refl _, F14.pure s15⟩
      · rintro j σ H' ⟨G16, u6'', rfl, sg', F16⟩
        exact sg'.trans F16.r.st.s
      · rintro j d z σ H' H9' hj ⟨G16, u6'', rfl, sg', F16⟩ hw'
        unfold ofI at hj
        rw [List.getElem?_map] at hj
        obtain ⟨hd, hhd, rfl⟩ := Option.map_eq_some_iff.mp hj
        obtain ⟨b0, b1⟩ := hrg hd (List.mem_of_getElem? hhd)
        obtain ⟨G17, s17, hz17⟩ := hw' G16 sg' F16.r.st.s
        obtain rfl := hz17.int_inv
        have F17 := F16.pure s17
        have lts : (setAll st.1 ((lotW o p).take j) ((n : Int) + 1)).length = o.names.length := setAll_len.trans S.len
        refine g_name 8 scLL.nd (b_one (s_asg (w_pu (pu_add (pu_var 7 rfl (.int _)) pu_int) F17.r.st.s fun v18 G18 H18 s18 hv18 => ?_)))
        obtain rfl := hv18.int_inv
        have F18 := F17.pure s18
        refine g_sub (w_var 3 rfl (w_var 8 rfl ⟨hh, _, hd, hd.toNat, rfl, rfl, F18.hh, ixN_nn b0 (by rw [List.length_map, lts]; exact b1), ?_⟩))
        have F19 := F18.setH hd ((n : Int) + 1)
        refine ⟨G18, _, rfl, sg'.trans (s17.g.trans s18.g), ?_⟩
        have ej : setAll st.1 ((lotW o p).take (j + 1)) ((n : Int) + 1) = (setAll st.1 ((lotW o p).take j) ((n : Int) + 1)).set hd.toNat ((n : Int) + 1) := by
          rw [take_snoc hhd]
          unfold setAll
          rw [List.foldl_append]
          rfl
        rw [ej]
        exact F19
      · rintro σ H' ⟨G16, u6'', rfl, sg', F16⟩
        have e1 : setAll st.1 ((lotW o p).take (ofI (lotW o p)).length) ((n : Int) + 1) = (lvS o st p).1 := by
          unfold ofI
          rw [List.length_map, List.take_length]
          unfold lvS
          rw [hn]
        rw [e1] at F16
        have e2 : (lvS o st p).2 = putLv st.2 n p := by unfold lvS; rw [hn]; rfl
        refine ⟨G16, ls', _, _, _, _, _, _, _, rfl, sg.trans (s10.g.trans (s11.g.trans (g1114.trans (s15.g.trans sg')))), ?_, ?_, ?_⟩
        · rw [eS]
          exact F16
        · rw [eS, e2, put_len hnl]
          omega
        · rw [eS, e2]
          intro lv hm
          unfold putLv at hm
          split at hm
          · rcases List.mem_append.mp hm with h | h
            · exact Nat.le_succ_of_le (hlv lv h)
            · rw [List.mem_singleton.mp h]
              exact Nat.succ_le_succ (Nat.zero_le _)
          · obtain ⟨q, hq⟩ := List.getElem?_of_mem hm
            rw [List.getElem?_modify] at hq
            obtain ⟨a, ha, rfl⟩ := Option.map_eq_some_iff.mp hq
            have := hlv a (List.mem_of_getElem? ha)
            split
            · rw [List.length_append, List.length_singleton]
              omega
            · omega
    · rintro σ H' ⟨G9, ls, u4, u5, u6, u7, u8, u9, u10, rfl, sg, F9, hli, hlv⟩
      rw [List.length_map, List.take_length] at F9 hli hlv
      obtain ⟨G', stf, _, df⟩ := F9.r.fin
      refine b_one (s_ret (w_pu (d := levD o ws) (pu_tupleL (Pu.to (pu_lc1 9 (cd := fun lv : Wv => .list (lv.map meD)) (ns := (lvR o (lv0 o) ws).2) (src_list (Pu.to (pu_var 2 rfl df) (by rw [List.map_map]; rfl))) (fun lv => .tuple ((sortW lv).map meD)) (fun _ => true) scLL.nd (fun _ _ _ _ _ _ _ _ _ _ _ => puts_nil) (fun lv _ _ v G2 g2 hv _ _ _ _ _ => pu_tupleL (pu_sortedW (pu_var 9 rfl hv) B.sorted) (by exact B.tuple)) (by omega)) (by rw [filter_tt])) B.tuple) stf.s fun v3 G3' H3' s3' hv3 => k v3 G3' H3' (stf.trans s3') hv3))
end
end Mb

set_option Elab.async false
set_option linter.all false
set_option maxRecDepth 100000
set_option maxHeartbeats 4000000
namespace Mb
open PySem PySem.Spec PyProof.Rows L2
/-! ### data of integers, tuples and lists: told apart by their texts -/
mutual
def niD : Dt → Bool
  | .int _ => true
  | .list xs => niDs xs
  | .tuple xs => niDs xs
  | _ => false
def niDs : List Dt → Bool
  | [] => true
  | x :: xs => niD x && niDs xs
end
abbrev cs (d : Dt) : List Nat := d.shown.cps.toList
def StopC (r : List Nat) : Prop := ∀ c t, r = c :: t → c = 44 ∨ c = 41 ∨ c = 93
def numC (c : Nat) : Prop := c = 45 ∨ (48 ≤ c ∧ c ≤ 57)
theorem int_chars (i : Int) : ∀ c ∈ cs (.int i), numC c := by
  intro c hc
  have hc' : c ∈ (Str.ofString (toString i)).cps.toList := by
    have := PyData.shown_int i
    unfold cs at hc
    rw [this] at hc
    exact hc
  rw [signs_ofString] at hc'
  obtain ⟨ch, h1, rfl⟩ := List.mem_map.mp hc'
  rcases int_sign i ch h1 with h | h
  · exact .inr (digit_range h)
  · subst h
    exact .inl rfl
theorem span_num : ∀ {a b r r' : List Nat}, (∀ c ∈ a, numC c) → (∀ c ∈ b, numC c) → StopC r → StopC r' → a ++ r = b ++ r' → a = b ∧ r = r'
  | [], [], _, _, _, _, _, _, e => ⟨rfl, e⟩
  | [], y :: b, r, r', _, hb, hr, _, e => by
    have h1 := hb y List.mem_cons_self
    have h2 := hr y (b ++ r') e
    unfold numC at h1
    omega
  | x :: a, [], r, r', ha, _, _, hr', e => by
    have h1 := ha x List.mem_cons_self
    have h2 := hr' x (a ++ r) e.symm
    unfold numC at h1
    omega
  | x :: a, y :: b, r, r', ha, hb, hr, hr', e => by
    simp only [List.cons_append, List.cons.injEq] at e
    obtain ⟨rfl, e⟩ := e
    obtain ⟨q1, q2⟩ := span_num (fun c h => ha c (List.mem_cons_of_mem _ h)) (fun c h => hb c (List.mem_cons_of_mem _ h)) hr hr' e
    rw [q1]
    exact ⟨rfl, q2⟩
theorem nat_text_inj {m n : Nat} (h : (Nat.toDigits 10 m).map Char.toNat = (Nat.toDigits 10 n).map Char.toNat) : m = n := by
  have := congrArg PySem.NumText.digitsVal h
  rwa [PySem.W.KIN.val_back, PySem.W.KIN.val_back] at this
theorem int_cs (i : Int) : cs (.int i) = if 0 ≤ i then (Nat.toDigits 10 i.toNat).map Char.toNat else 45 :: (Nat.toDigits 10 (-i).toNat).map Char.toNat := by
  unfold cs
  rw [PyData.shown_int]
  show (Str.ofString (toString i)).cps.toList = _
  rw [signs_ofString, Int.toString_eq_repr, Int.repr_eq_if]
  split
  · rw [Nat.toList_repr]
  · rw [String.toList_append, Nat.toList_repr]
    simp
theorem digit_first (m : Nat) : ∀ c ∈ (Nat.toDigits 10 m).map Char.toNat, 48 ≤ c ∧ c ≤ 57 := by
  intro c hc
  obtain ⟨ch, h1, rfl⟩ := List.mem_map.mp hc
  exact digit_range (Nat.isDigit_of_mem_toDigits (by decide) (by decide) h1)
theorem int_ne (i : Int) : cs (.int i) ≠ [] := by
  rw [int_cs]
  have := Nat.toDigits_ne_nil (b := 10) (n := i.toNat)
  split
  · simpa using this
  · simp
theorem int_inj {i j : Int} (h : cs (.int i) = cs (.int j)) : i = j := by
  rw [int_cs, int_cs] at h
  by_cases hi : 0 ≤ i <;> by_cases hj : 0 ≤ j
  · rw [if_pos hi, if_pos hj] at h
    have := nat_text_inj h
    omega
  · rw [if_pos hi, if_neg hj] at h
    have := digit_first i.toNat 45 (by rw [h]; exact List.mem_cons_self)
    omega
  · rw [if_neg hi, if_pos hj] at h
    have := digit_first j.toNat 45 (by rw [← h]; exact List.mem_cons_self)
    omega
  · rw [if_neg hi, if_neg hj] at h
    have := nat_text_inj (List.cons.inj h).2
    omega
/-- the texts of a row, parted -/
def bodyC : List Dt → List Nat
  | [] => []
  | [d] => cs d
  | d :: e :: ds => cs d ++ [44, 32] ++ bodyC (e :: ds)
theorem join_body : ∀ ds : List Dt, (Str.join ", " (PyData.shownAll ds)).cps.toList = bodyC ds
  | [] => by
    show (Str.join ", " []).cps.toList = _
    rw [join_nil, signs_empty]
    rfl
  | [d] => by
    show (Str.join ", " [d.shown]).cps.toList = _
    rw [join_one]
    rfl
  | d :: e :: ds => by
    have h : PyData.shownAll (d :: e :: ds) = d.shown :: e.shown :: PyData.shownAll ds := by simp only [PyData.shownAll]
    have h2 : PyData.shownAll (e :: ds) = e.shown :: PyData.shownAll ds := by simp only [PyData.shownAll]
    rw [h, join_cons_cons, cps_toList_append, cps_toList_append, signs_sep, ← h2, join_body (e :: ds)]
    rfl
theorem list_cs (ds : List Dt) : cs (.list ds) = 91 :: (bodyC ds ++ [93]) := by
  unfold cs
  rw [PyData.shown_list, cps_toList_append, cps_toList_append, join_body, signs_lbrack, signs_rbrack]
  rfl
theorem tuple_cs (ds : List Dt) : cs (.tuple ds) = 40 :: (bodyC ds ++ (if ds.length = 1 then [44, 41] else [41])) := by
  unfold cs
  rw [PyData.shown_tuple, cps_toList_append, cps_toList_append, join_body, signs_lparen]
  by_cases h : ds.length = 1
  · rw [if_pos h, if_pos (beq_iff_eq.mpr h)]
    rfl
  · rw [if_neg h, if_neg (fun e => h (beq_iff_eq.mp e))]
    rfl
theorem head_ni : ∀ {d : Dt}, niD d = true → ∃ c t, cs d = c :: t ∧ (numC c ∨ c = 91 ∨ c = 40)
  | .int i, _ => by
    cases h : cs (.int i) with
    | nil => exact (int_ne i h).elim
    | cons c t => exact ⟨c, t, rfl, .inl (int_chars i c (by rw [h]; exact List.mem_cons_self))⟩
  | .list ds, _ => ⟨_, _, list_cs ds, .inr (.inl rfl)⟩
  | .tuple ds, _ => ⟨_, _, tuple_cs ds, .inr (.inr rfl)⟩
theorem stop_cons {c : Nat} {t : List Nat} (h : c = 44 ∨ c = 41 ∨ c = 93) : StopC (c :: t) := fun a b e => by
  rw [← (List.cons.inj e).1]
  exact h
theorem head_no {d : Dt} {r t : List Nat} {c : Nat} (h : niD d = true) (hc : c = 44 ∨ c = 41 ∨ c = 93) (e : cs d ++ r = c :: t) : False := by
  obtain ⟨x, y, h1, h2⟩ := head_ni h
  rw [h1, List.cons_append] at e
  have := (List.cons.inj e).1
  unfold numC at h2
  omega
mutual
theorem sh_inj : ∀ (d : Dt) {d' : Dt} {r r' : List Nat}, niD d = true → niD d' = true → StopC r → StopC r' → cs d ++ r = cs d' ++ r' → d = d' ∧ r = r'
  | .int i, .int j, r, r', _, _, hr, hr', e => by
    obtain ⟨e1, e2⟩ := span_num (int_chars i) (int_chars j) hr hr' e
    rw [int_inj e1]
    exact ⟨rfl, e2⟩
  | .int i, .list ds, r, r', _, _, hr, hr', e => by
    rw [list_cs] at e
    cases h : cs (.int i) with
    | nil => exact (int_ne i h).elim
    | cons c t =>
      rw [h] at e
      have := (List.cons.inj e).1
      have := int_chars i c (by rw [h]; exact List.mem_cons_self)
      unfold numC at this
      omega
  | .int i, .tuple ds, r, r', _, _, hr, hr', e => by
    rw [tuple_cs] at e
    cases h : cs (.int i) with
    | nil => exact (int_ne i h).elim
    | cons c t =>
      rw [h] at e
      have := (List.cons.inj e).1
      have := int_chars i c (by rw [h]; exact List.mem_cons_self)
      unfold numC at this
      omega
  | .list ds, .int j, r, r', _, _, hr, hr', e => by
    rw [list_cs] at e
    cases h : cs (.int j) with
    | nil => exact (int_ne j h).elim
    | cons c t =>
      rw [h] at e
      have := (List.cons.inj e).1
      have := int_chars j c (by rw [h]; exact List.mem_cons_self)
      unfold numC at this
      omega
  | .tuple ds, .int j, r, r', _, _, hr, hr', e => by
    rw [tuple_cs] at e
    cases h : cs (.int j) with
    | nil => exact (int_ne j h).elim
    | cons c t =>
      rw [h] at e
      have := (List.cons.inj e).1
      have := int_chars j c (by rw [h]; exact List.mem_cons_self)
      unfold numC at this
      omega
  | .list ds, .tuple es, r, r', _, _, _, _, e => by
    rw [list_cs, tuple_cs] at e
    have := (List.cons.inj e).1
    omega
  | .tuple ds, .list es, r, r', _, _, _, _, e => by
    rw [list_cs, tuple_cs] at e
    have := (List.cons.inj e).1
    omega
  | .list ds, .list es, r, r', h, h', hr, hr', e => by
    rw [list_cs, list_cs, List.cons_append, List.cons_append, List.append_assoc, List.append_assoc] at e
    obtain ⟨rfl, e2⟩ := sh_injL ds (es := es) (u := [93] ++ r) (u' := [93] ++ r') (by simpa only [niD] using h) (by simpa only [niD] using h') (.inl ⟨⟨r, rfl⟩, ⟨r', rfl⟩⟩) (List.cons.inj e).2
    exact ⟨rfl, (List.cons.inj e2).2⟩
  | .tuple ds, .tuple es, r, r', h, h', hr, hr', e => by
    rw [tuple_cs, tuple_cs, List.cons_append, List.cons_append, List.append_assoc, List.append_assoc] at e
    obtain ⟨rfl, e2⟩ := sh_injL ds (es := es) (by simpa only [niD] using h) (by simpa only [niD] using h') (.inr ⟨r, r', rfl, rfl⟩) (List.cons.inj e).2
    exact ⟨rfl, List.append_cancel_left e2⟩
theorem sh_injL : ∀ (ds : List Dt) {es : List Dt} {u u' : List Nat}, niDs ds = true → niDs es = true → ((∃ r, u = 93 :: r) ∧ (∃ r', u' = 93 :: r') ∨ ∃ r r', u = (if ds.length = 1 then [44, 41] else [41]) ++ r ∧ u' = (if es.length = 1 then [44, 41] else [41]) ++ r') → bodyC ds ++ u = bodyC es ++ u' → ds = es ∧ u = u'
  | [], [], u, u', _, _, _, e => ⟨rfl, e⟩
  | [], d :: es, u, u', _, h', hu, e => by
    exfalso
    have hd : niD d = true := by simp only [niDs, Bool.and_eq_true] at h'; exact h'.1
    have eb : ∃ r, bodyC (d :: es) ++ u' = cs d ++ r := by
      cases es with
      | nil => exact ⟨u', rfl⟩
      | cons x es => exact ⟨[44, 32] ++ bodyC (x :: es) ++ u', by simp [bodyC]⟩
    obtain ⟨r, er⟩ := eb
    rw [er] at e
    rcases hu with ⟨⟨r1, rfl⟩, _⟩ | ⟨r1, _, rfl, _⟩
    · exact head_no hd (.inr (.inr rfl)) (show cs d ++ r = 93 :: r1 from e.symm)
    · exact head_no hd (.inr (.inl rfl)) (show cs d ++ r = 41 :: r1 from e.symm)
  | d :: ds, [], u, u', h, _, hu, e => by
    exfalso
    have hd : niD d = true := by simp only [niDs, Bool.and_eq_true] at h; exact h.1
    have eb : ∃ r, bodyC (d :: ds) ++ u = cs d ++ r := by
      cases ds with
      | nil => exact ⟨u, rfl⟩
      | cons x es => exact ⟨[44, 32] ++ bodyC (x :: es) ++ u, by simp [bodyC]⟩
    obtain ⟨r, er⟩ := eb
    rw [er] at e
    rcases hu with ⟨_, ⟨r1, rfl⟩⟩ | ⟨_, r1, _, rfl⟩
    · exact head_no hd (.inr (.inr rfl)) (show cs d ++ r = 93 :: r1 from e)
    · exact head_no hd (.inr (.inl rfl)) (show cs d ++ r = 41 :: r1 from e)
  | [d], [e], u, u', h, h', hu, q => by
    have hd : niD d = true := by simp only [niDs, Bool.and_eq_true] at h; exact h.1
    have he : niD e = true := by simp only [niDs, Bool.and_eq_true] at h'; exact h'.1
    have su : StopC u ∧ StopC u' := by
      rcases hu with ⟨⟨r1, rfl⟩, ⟨r2, rfl⟩⟩ | ⟨r1, r2, rfl, rfl⟩
      · exact ⟨stop_cons (.inr (.inr rfl)), stop_cons (.inr (.inr rfl))⟩
      · exact ⟨stop_cons (.inl rfl), stop_cons (.inl rfl)⟩
    obtain ⟨rfl, q2⟩ := sh_inj d hd he su.1 su.2 (show cs d ++ u = cs e ++ u' from q)
    exact ⟨rfl, q2⟩
  | [d], e :: x :: es, u, u', h, h', hu, q => by
    exfalso
    have hd : niD d = true := by simp only [niDs, Bool.and_eq_true] at h; exact h.1
    have he : niD e = true := by simp only [niDs, Bool.and_eq_true] at h'; exact h'.1
    have q' : cs d ++ u = cs e ++ (44 :: 32 :: (bodyC (x :: es) ++ u')) := by
      have : bodyC (e :: x :: es) ++ u' = cs e ++ (44 :: 32 :: (bodyC (x :: es) ++ u')) := by simp [bodyC]
      rw [← this]
      exact q
    have su : StopC u := by
      rcases hu with ⟨⟨r1, rfl⟩, _⟩ | ⟨r1, r2, rfl, rfl⟩
      · exact stop_cons (.inr (.inr rfl))
      · exact stop_cons (.inl rfl)
    obtain ⟨_, q2⟩ := sh_inj d hd he su (stop_cons (.inl rfl)) q'
    rcases hu with ⟨⟨r1, rfl⟩, _⟩ | ⟨r1, r2, rfl, rfl⟩
    · have := (List.cons.inj q2).1
      omega
    · have := (List.cons.inj (List.cons.inj (show 44 :: 41 :: r1 = _ from q2)).2).1
      omega
  | d :: y :: ds, [e], u, u', h, h', hu, q => by
    exfalso
    have hd : niD d = true := by simp only [niDs, Bool.and_eq_true] at h; exact h.1
    have he : niD e = true := by simp only [niDs, Bool.and_eq_true] at h'; exact h'.1
    have q' : cs d ++ (44 :: 32 :: (bodyC (y :: ds) ++ u)) = cs e ++ u' := by
      have : bodyC (d :: y :: ds) ++ u = cs d ++ (44 :: 32 :: (bodyC (y :: ds) ++ u)) := by simp [bodyC]
      rw [← this]
      exact q
    have su : StopC u' := by
      rcases hu with ⟨_, ⟨r1, rfl⟩⟩ | ⟨r1, r2, rfl, rfl⟩
      · exact stop_cons (.inr (.inr rfl))
      · exact stop_cons (.inl rfl)
    obtain ⟨_, q2⟩ := sh_inj d hd he (stop_cons (.inl rfl)) su q'
    rcases hu with ⟨_, ⟨r1, rfl⟩⟩ | ⟨r1, r2, rfl, rfl⟩
    · have := (List.cons.inj q2).1
      omega
    · have := (List.cons.inj (List.cons.inj (show _ = 44 :: 41 :: r2 from q2)).2).1
      omega
  | d :: y :: ds, e :: x :: es, u, u', h, h', hu, q => by
    have hd : niD d = true := by simp only [niDs, Bool.and_eq_true] at h; exact h.1
    have he : niD e = true := by simp only [niDs, Bool.and_eq_true] at h'; exact h'.1
    have hd2 : niDs (y :: ds) = true := by simp only [niDs, Bool.and_eq_true] at h ⊢; exact h.2
    have he2 : niDs (x :: es) = true := by simp only [niDs, Bool.and_eq_true] at h' ⊢; exact h'.2
    have q' : cs d ++ (44 :: 32 :: (bodyC (y :: ds) ++ u)) = cs e ++ (44 :: 32 :: (bodyC (x :: es) ++ u')) := by
      have a1 : bodyC (d :: y :: ds) ++ u = cs d ++ (44 :: 32 :: (bodyC (y :: ds) ++ u)) := by simp [bodyC]
      have a2 : bodyC (e :: x :: es) ++ u' = cs e ++ (44 :: 32 :: (bodyC (x :: es) ++ u')) := by simp [bodyC]
      rw [← a1, ← a2]
      exact q
    obtain ⟨rfl, q2⟩ := sh_inj d hd he (stop_cons (.inl rfl)) (stop_cons (.inl rfl)) q'
    have q3 := (List.cons.inj (List.cons.inj q2).2).2
    -- the tails of two and more
    rcases hu with ⟨⟨r1, rfl⟩, ⟨r2, rfl⟩⟩ | ⟨r1, r2, rfl, rfl⟩
    · obtain ⟨e1, e2⟩ := sh_injL (y :: ds) hd2 he2 (.inl ⟨⟨r1, rfl⟩, ⟨r2, rfl⟩⟩) q3
      rw [e1]
      exact ⟨rfl, e2⟩
    · have n1 : ¬ (d :: y :: ds).length = 1 := by simp
      have n2 : ¬ (d :: x :: es).length = 1 := by simp
      rw [if_neg n1, if_neg n2] at q3 ⊢
      obtain ⟨e1, e2⟩ := sh_inj2 (y :: ds) hd2 he2 q3
      rw [e1]
      exact ⟨rfl, e2⟩
theorem sh_inj2 : ∀ (ds : List Dt) {es : List Dt} {r r' : List Nat}, niDs ds = true → niDs es = true → bodyC ds ++ (41 :: r) = bodyC es ++ (41 :: r') → ds = es ∧ 41 :: r = 41 :: r'
  | [], [], r, r', _, _, e => ⟨rfl, e⟩
  | [], d :: es, r, r', _, h', e => by
    exfalso
    have hd : niD d = true := by simp only [niDs, Bool.and_eq_true] at h'; exact h'.1
    have eb : ∃ t, bodyC (d :: es) ++ (41 :: r') = cs d ++ t := by
      cases es with
      | nil => exact ⟨_, rfl⟩
      | cons x es => exact ⟨[44, 32] ++ bodyC (x :: es) ++ (41 :: r'), by simp [bodyC]⟩
    obtain ⟨t, er⟩ := eb
    rw [er] at e
    exact head_no hd (.inr (.inl rfl)) (show cs d ++ t = 41 :: r from e.symm)
  | d :: ds, [], r, r', h, _, e => by
    exfalso
    have hd : niD d = true := by simp only [niDs, Bool.and_eq_true] at h; exact h.1
    have eb : ∃ t, bodyC (d :: ds) ++ (41 :: r) = cs d ++ t := by
      cases ds with
      | nil => exact ⟨_, rfl⟩
      | cons x es => exact ⟨[44, 32] ++ bodyC (x :: es) ++ (41 :: r), by simp [bodyC]⟩
    obtain ⟨t, er⟩ := eb
    rw [er] at e
    exact head_no hd (.inr (.inl rfl)) (show cs d ++ t = 41 :: r' from e)
  | [d], [e], r, r', h, h', q => by
    have hd : niD d = true := by simp only [niDs, Bool.and_eq_true] at h; exact h.1
    have he : niD e = true := by simp only [niDs, Bool.and_eq_true] at h'; exact h'.1
    obtain ⟨rfl, q2⟩ := sh_inj d hd he (stop_cons (.inr (.inl rfl))) (stop_cons (.inr (.inl rfl))) (show cs d ++ (41 :: r) = cs e ++ (41 :: r') from q)
    exact ⟨rfl, q2⟩
  | [d], e :: x :: es, r, r', h, h', q => by
    exfalso
    have hd : niD d = true := by simp only [niDs, Bool.and_eq_true] at h; exact h.1
    have he : niD e = true := by simp only [niDs, Bool.and_eq_true] at h'; exact h'.1
    have a2 : bodyC (e :: x :: es) ++ (41 :: r') = cs e ++ (44 :: 32 :: (bodyC (x :: es) ++ (41 :: r'))) := by simp [bodyC]
    rw [a2] at q
    obtain ⟨_, q2⟩ := sh_inj d hd he (stop_cons (.inr (.inl rfl))) (stop_cons (.inl rfl)) (show cs d ++ (41 :: r) = _ from q)
    have := (List.cons.inj q2).1
    omega
  | d :: y :: ds, [e], r, r', h, h', q => by
    exfalso
    have hd : niD d = true := by simp only [niDs, Bool.and_eq_true] at h; exact h.1
    have he : niD e = true := by simp only [niDs, Bool.and_eq_true] at h'; exact h'.1
    have a1 : bodyC (d :: y :: ds) ++ (41 :: r) = cs d ++ (44 :: 32 :: (bodyC (y :: ds) ++ (41 :: r))) := by simp [bodyC]
    rw [a1] at q
    obtain ⟨_, q2⟩ := sh_inj d hd he (stop_cons (.inl rfl)) (stop_cons (.inr (.inl rfl))) (show _ = cs e ++ (41 :: r') from q)
    have := (List.cons.inj q2).1
    omega
  | d :: y :: ds, e :: x :: es, r, r', h, h', q => by
    have hd : niD d = true := by simp only [niDs, Bool.and_eq_true] at h; exact h.1
    have he : niD e = true := by simp only [niDs, Bool.and_eq_true] at h'; exact h'.1
    have hd2 : niDs (y :: ds) = true := by simp only [niDs, Bool.and_eq_true] at h ⊢; exact h.2
    have he2 : niDs (x :: es) = true := by simp only [niDs, Bool.and_eq_true] at h' ⊢; exact h'.2
    have a1 : bodyC (d :: y :: ds) ++ (41 :: r) = cs d ++ (44 :: 32 :: (bodyC (y :: ds) ++ (41 :: r))) := by simp [bodyC]
    have a2 : bodyC (e :: x :: es) ++ (41 :: r') = cs e ++ (44 :: 32 :: (bodyC (x :: es) ++ (41 :: r'))) := by simp [bodyC]
    rw [a1, a2] at q
    obtain ⟨rfl, q2⟩ := sh_inj d hd he (stop_cons (.inl rfl)) (stop_cons (.inl rfl)) q
    obtain ⟨e1, e2⟩ := sh_inj2 (y :: ds) hd2 he2 (List.cons.inj (List.cons.inj q2).2).2
    rw [e1]
    exact ⟨rfl, e2⟩
end
theorem shown_inj {d d' : Dt} (h : niD d = true) (h' : niD d' = true) (q : d.shown = d'.shown) : d = d' := by
  refine (sh_inj d (r := []) (r' := []) h h' (fun _ _ q => by cases q) (fun _ _ q => by cases q) ?_).1
  unfold cs
  rw [q]
theorem niDs_map {α : Type} {f : α → Dt} : ∀ {l : List α}, (∀ x ∈ l, niD (f x) = true) → niDs (l.map f) = true
  | [], _ => by simp only [List.map_nil, niDs]
  | x :: l, h => by
    simp only [List.map_cons, niDs, Bool.and_eq_true]
    exact ⟨h x List.mem_cons_self, niDs_map fun y hy => h y (List.mem_cons_of_mem _ hy)⟩
theorem ni_me (p : Int × Int) : niD (meD p) = true := by
  unfold meD
  simp only [niD, niDs, Bool.and_self]
end Mb

set_option Elab.async false
set_option linter.all false
set_option maxRecDepth 100000
set_option maxHeartbeats 4000000
namespace Mb
open PySem PySem.Spec PyProof.Rows L2 TL
/-! ### levels and rows: one from the other -/
theorem sortW_congr {a b : Wv} (h : a.Perm b) : sortW a = sortW b := sorted_one ((sortW_perm a).trans (h.trans (sortW_perm b).symm)) (sortW_sorted a) (sortW_sorted b)
theorem meD_inj {p q : Int × Int} (h : meD p = meD q) : p = q := by
  unfold meD at h
  injection h with h
  obtain ⟨h1, h2⟩ := List.cons.inj h
  obtain ⟨h3, _⟩ := List.cons.inj h2
  injection h1 with h1
  injection h3 with h3
  exact Prod.ext h1 h3
theorem mes_inj : ∀ {a b : Wv}, a.map meD = b.map meD → a = b
  | [], [], _ => rfl
  | [], _ :: _, h => by cases h
  | _ :: _, [], h => by cases h
  | x :: a, y :: b, h => by
    rw [List.map_cons, List.map_cons] at h
    obtain ⟨h1, h2⟩ := List.cons.inj h
    rw [meD_inj h1, mes_inj h2]
section
variable {o : Own} {u v : Wv}
def lvT (lv : Wv) : Dt := .tuple ((sortW lv).map meD)
theorem lvT_inj {a b : Wv} (h : lvT a = lvT b) : a.Perm b := by
  unfold lvT at h
  injection h with h
  have e := mes_inj h
  exact (sortW_perm a).symm.trans (e ▸ sortW_perm b)
theorem levT_eq : ∀ {L L' : List Wv}, PermL L L' → L.map lvT = L'.map lvT := fun {L L'} e => by
  apply List.ext_getElem?
  intro i
  rw [List.getElem?_map, List.getElem?_map]
  by_cases hi : i < L.length
  · have hi' : i < L'.length := by rw [← e.len]; exact hi
    have ep := e.at_ i
    rw [List.getD_eq_getElem?_getD, List.getD_eq_getElem?_getD, List.getElem?_eq_getElem hi, List.getElem?_eq_getElem hi'] at ep
    rw [List.getElem?_eq_getElem hi, List.getElem?_eq_getElem hi']
    exact congrArg some (by unfold lvT; rw [sortW_congr (show (L[i]).Perm L'[i] from ep)])
  · rw [List.getElem?_eq_none (by omega), List.getElem?_eq_none (by rw [← e.len]; omega)]
theorem levT_inj : ∀ {L L' : List Wv}, L.map lvT = L'.map lvT → PermL L L' := fun {L L'} h => by
  have hl : L.length = L'.length := by
    have := congrArg List.length h
    simpa using this
  refine ⟨hl, fun i => ?_⟩
  rw [List.getD_eq_getElem?_getD, List.getD_eq_getElem?_getD]
  by_cases hi : i < L.length
  · have hi' : i < L'.length := by omega
    have e : (L.map lvT)[i]? = (L'.map lvT)[i]? := by rw [h]
    rw [List.getElem?_map, List.getElem?_map, List.getElem?_eq_getElem hi, List.getElem?_eq_getElem hi'] at e
    rw [List.getElem?_eq_getElem hi, List.getElem?_eq_getElem hi']
    exact lvT_inj (Option.some.inj e)
  · rw [List.getElem?_eq_none (by omega), List.getElem?_eq_none (by omega)]
theorem levD_eq (e : PermL (lvR o (lv0 o) u).2 (lvR o (lv0 o) v).2) : levD o u = levD o v := congrArg PyData.tuple (levT_eq e)
theorem levD_inj (h : levD o u = levD o v) : PermL (lvR o (lv0 o) u).2 (lvR o (lv0 o) v).2 := by
  unfold levD at h
  injection h with h
  exact levT_inj h
theorem rows_out (ho : OwnOk o) (hu : ValidK o u) {h : Int} (hh : ¬ (0 ≤ h ∧ h < o.names.length)) : u.filter (hasH o h) = [] := List.filter_eq_nil_iff.mpr fun p hp e => hh (by
  obtain ⟨h0, h1⟩ := hu p hp
  exact (hasH_rng ho h0 h1 e).2)
theorem rowsD_inj (ho : OwnOk o) (hu : ValidK o u) (hv : ValidK o v) (e : rowsD o u = rowsD o v) (h : Int) : u.filter (hasH o h) = v.filter (hasH o h) := by
  by_cases hh : 0 ≤ h ∧ h < o.names.length
  · unfold rowsD at e
    injection e with e
    have e' := congrArg (fun l => l[h.toNat]?) e
    simp only [List.getElem?_map] at e'
    rw [List.getElem?_range (by omega)] at e'
    simp only [Option.map_some, Option.some.injEq] at e'
    injection e' with e'
    have := mes_inj e'
    rw [show ((h.toNat : Nat) : Int) = h by omega] at this
    exact this
  · rw [rows_out ho hu hh, rows_out ho hv hh]
theorem lev_rows (ho : OwnOk o) (hu : ValidK o u) (hv : ValidK o v) : levD o u = levD o v ↔ rowsD o u = rowsD o v := by
  constructor
  · intro h
    have e := levels_rows ho hu hv (levD_inj h)
    unfold rowsD
    congr 1
    exact List.map_congr_left fun h _ => by rw [e]
  · intro h
    exact levD_eq (rows_levels ho hu hv (rowsD_inj ho hu hv h))
theorem conn_levD (ho : OwnOk o) (hu : ValidK o u) (c : Conn o u v) : levD o u = levD o v := levD_eq (conn_levels ho c hu (lv0_ok o)).L
/-! sizes -/
theorem put_flat {p : Int × Int} : ∀ {L : List Wv} {n : Nat}, n ≤ L.length → (putLv L n p).flatten.Perm (L.flatten ++ [p]) := fun {L n} h => by
  unfold putLv
  by_cases e : n = L.length
  · rw [if_pos e, List.flatten_append]
    simp
  · rw [if_neg e]
    have hn : n < L.length := by omega
    clear e h
    induction L generalizing n with
    | nil => simp at hn
    | cons a L ih =>
      cases n with
      | zero =>
        show ((a ++ [p]) :: L).flatten.Perm _
        rw [List.flatten_cons, List.flatten_cons, List.append_assoc, List.append_assoc]
        exact (List.perm_append_comm).append_left a
      | succ n =>
        show (a :: L.modify n _).flatten.Perm _
        rw [List.flatten_cons, List.flatten_cons, List.append_assoc]
        exact (ih (by simpa using hn)).append_left a
theorem lv_flat (ho : OwnOk o) : ∀ {ws : Wv} {s : LvS}, ValidK o ws → LvOk o s → (lvR o s ws).2.flatten.Perm (s.2.flatten ++ ws) ∧ (lvR o s ws).2.length ≤ s.2.length + ws.length
  | [], s, _, _ => ⟨by rw [List.append_nil]; exact .refl _, Nat.le_refl _⟩
  | p :: ws, s, hv, S => by
    obtain ⟨h0, h1⟩ := hv p List.mem_cons_self
    obtain ⟨n0, n1, _⟩ := lvN_rng S ho h0 h1
    obtain ⟨a, b⟩ := lv_flat ho (ws := ws) (s := lvS o s p) (fun x hx => hv x (List.mem_cons_of_mem _ hx)) (lvS_ok S ho h0 h1)
    have hn : (lvN s.1 (lotW o p)).toNat ≤ s.2.length := by omega
    have pf := put_flat (p := p) hn
    have pl := put_len (p := p) hn
    refine ⟨a.trans ?_, ?_⟩
    · show ((putLv s.2 _ p).flatten ++ ws).Perm _
      refine (pf.append_right ws).trans ?_
      rw [List.append_assoc]
      exact .refl _
    · refine Nat.le_trans b ?_
      show (putLv s.2 _ p).length + ws.length ≤ _
      rw [pl, List.length_cons]
      omega
theorem bulk_mes : ∀ l : Wv, PyData.bulkAll (l.map meD) = 3 * l.length
  | [] => by simp [PyData.bulkAll]
  | p :: l => by
    have : PyData.bulk (meD p) = 2 := by
      unfold meD
      simp only [PyData.bulk, PyData.bulkAll]
    rw [List.map_cons, PyData.bulkAll, this, bulk_mes l, List.length_cons]
    omega
theorem bulk_lvs : ∀ L : List Wv, PyData.bulkAll (L.map lvT) = 3 * L.flatten.length + L.length
  | [] => by simp [PyData.bulkAll]
  | lv :: L => by
    have : PyData.bulk (lvT lv) = 3 * lv.length := by
      unfold lvT
      rw [PyData.bulk, bulk_mes, (sortW_perm lv).length_eq]
    rw [List.map_cons, PyData.bulkAll, this, bulk_lvs L, List.flatten_cons, List.length_append, List.length_cons]
    omega
theorem ReprB.tupS {ds : List Dt} {b k B : Nat} (h : ∀ d ∈ ds, ReprB d b k) (hb : PyData.bulkAll ds ≤ B) : ReprB (.tuple ds) B (k + 1) := by
  have t := ReprB.tup h
  exact ⟨t.sh, t.nd, t.lv, by simpa only [PyData.bulk] using hb, t.dp⟩
def LdOk (ws : Wv) : Prop := ∀ p ∈ ws, p.2.natAbs < 2 ^ 1000
theorem repr_mes (ho : OwnOk o) (hu : ValidK o u) (hl : LdOk u) {l : Wv} (hs : ∀ p ∈ l, p ∈ u) : ReprB (.tuple (l.map meD)) (3 * l.length) 2 := by
  refine ReprB.tupS (b := 2) (k := 1) (fun d hd => ?_) (by rw [bulk_mes]; exact Nat.le_refl _)
  obtain ⟨p, hp, rfl⟩ := List.mem_map.mp hd
  obtain ⟨h0, h1⟩ := hu p (hs p hp)
  have := ho.k8
  exact ReprB.me h0 (by omega) (hl p (hs p hp))
theorem repr_lev (ho : OwnOk o) (hu : ValidK o u) (hl : LdOk u) (h4 : u.length ≤ 400) : ReprB (levD o u) 1600 3 := by
  obtain ⟨a, b⟩ := lv_flat ho (ws := u) (s := lv0 o) hu (lv0_ok o)
  have a' : (lvR o (lv0 o) u).2.flatten.Perm u := a
  have b' : (lvR o (lv0 o) u).2.length ≤ u.length := by
    have : (lv0 o).2.length = 0 := rfl
    omega
  refine ReprB.tupS (ds := (lvR o (lv0 o) u).2.map lvT) (b := 1200) (k := 2) (fun d hd => ?_) ?_
  · obtain ⟨lv, hlv, rfl⟩ := List.mem_map.mp hd
    have hm : ∀ p ∈ sortW lv, p ∈ u := fun p hp => a'.mem_iff.mp (List.mem_flatten.mpr ⟨lv, hlv, (sortW_perm lv).mem_iff.mp hp⟩)
    refine (repr_mes ho hu hl hm).up ?_ (Nat.le_refl _)
    have h1 : lv.length ≤ (lvR o (lv0 o) u).2.flatten.length := (List.sublist_flatten_of_mem hlv).length_le
    rw [a'.length_eq] at h1
    rw [(sortW_perm lv).length_eq]
    omega
  · rw [bulk_lvs, a'.length_eq]
    omega
theorem repr_rows (ho : OwnOk o) (hu : ValidK o u) (hl : LdOk u) (h4 : u.length ≤ 400) : ReprB (rowsD o u) 6005 3 := by
  refine (ReprB.lst (b := 1200) (k := 2) fun d hd => ?_).up ?_ (Nat.le_refl _)
  · obtain ⟨h, _, rfl⟩ := List.mem_map.mp hd
    refine (repr_mes ho hu hl fun p hp => (List.mem_filter.mp hp).1).up ?_ (Nat.le_refl _)
    have := List.length_filter_le (hasH o (h : Nat)) u
    omega
  · have := ho.m5
    rw [List.length_map, List.length_range]
    omega
theorem nods_map {α : Type} {f : α → Dt} : ∀ {l : List α}, (∀ x ∈ l, nod (f x) = true) → nods (l.map f) = true
  | [], _ => rfl
  | x :: l, h => by
    simp only [List.map_cons, nods, Bool.and_eq_true]
    exact ⟨h x List.mem_cons_self, nods_map fun y hy => h y (List.mem_cons_of_mem _ hy)⟩
theorem nod_mes (l : Wv) : nods (l.map meD) = true := nods_map fun p _ => rfl
theorem nods_lev : nods ((lvR o (lv0 o) u).2.map fun lv => .tuple ((sortW lv).map meD)) = true := nods_map fun lv _ => by simpa only [nod] using nod_mes _
theorem nods_rows : nods ((List.range o.names.length).map fun h => .tuple ((u.filter (hasH o (h : Nat))).map meD)) = true := nods_map fun lv _ => by simpa only [nod] using nod_mes _
theorem ni_mes (l : Wv) : niD (.tuple (l.map meD)) = true := by
  simp only [niD]
  exact niDs_map fun p _ => ni_me p
theorem ni_lev : niD (levD o u) = true := by
  unfold levD
  simp only [niD]
  exact niDs_map fun lv _ => ni_mes _
theorem ni_rows : niD (rowsD o u) = true := by
  unfold rowsD
  simp only [niD]
  exact niDs_map fun lv _ => ni_mes _
theorem lev_rows_b (ho : OwnOk o) (hu : ValidK o u) (hv : ValidK o v) : decide ((levD o u).shown = (levD o v).shown) = decide ((rowsD o u).shown = (rowsD o v).shown) := by
  by_cases h : levD o u = levD o v
  · rw [decide_eq_true (congrArg _ h), decide_eq_true (congrArg _ ((lev_rows ho hu hv).mp h))]
  · rw [decide_eq_false fun q => h (shown_inj ni_lev ni_lev q), decide_eq_false fun q => h ((lev_rows ho hu hv).mpr (shown_inj ni_rows ni_rows q))]
end
end Mb

set_option Elab.async false
set_option linter.all false
set_option maxRecDepth 100000
set_option maxHeartbeats 4000000
namespace Mb
open PySem PySem.Spec PyProof.Rows L2 TL
section
variable {X : Cx} {σ : L2.St} {G : Hp} {e : Expr} {pos p2 : Pos} {ds : List Dt}
theorem cutD_all {l u : Option Int} (h : HT.sIx ds.length 0 l = 0 ∧ HT.sIx ds.length ds.length u = ds.length) : cutD ds l u = ds := by
  unfold cutD
  rw [h.1, h.2, List.drop_zero, Nat.sub_zero, List.take_length]
theorem pu_slTA {lo hi : Option Expr} {l u : Option Int} (ha : Pu X e σ G (.tuple ds)) (hl : PuO X lo σ G l) (hh : PuO X hi σ G u) :
    Pu X (.Subscript e (.Slice lo hi none p2) pos) σ G (.tuple (cutD ds l u)) := fun G1 H g s Q q => by
  refine w_slice sl_tupA (ha G1 H g s _ fun v G2 H2 s2 hd2 => hl G2 H2 (g.trans s2.g) s2.s _ fun G3 H3 s3 => hh G3 H3 (g.trans (s2.g.trans s3.g)) s3.s _ fun G4 H4 s4 => ?_)
  obtain ⟨m, vs, rfl, h1, h2⟩ := hd2.tup_inv
  refine ⟨m, vs, rfl, SqT.same (s3.g.trans (s4.g.trans s4.s)) h1, fun hw => ?_, fun _ p hp => ?_⟩
  · rw [h2.length] at hw
    rw [cutD_all hw] at q
    exact q _ G4 H4 (s2.trans (s3.trans s4)) (.tup (SqT.same (s3.g.trans s4.g) h1) (h2.mono (s3.g.trans s4.g)))
  · exact q _ _ _ ((s2.trans (s3.trans s4)).trans (Step.alloc s4.s hp)) (.tup (SqT.of upd_same) ((h2.mono (s3.g.trans s4.g)).cut.mono (Same.toUpd (s4.s.free hp))))
theorem cutD_takeI {n : Int} (h0 : 0 ≤ n) (h1 : n ≤ ds.length) : cutD ds none (some n) = ds.take n.toNat := by
  unfold cutD
  have e1 : HT.sIx ds.length 0 none = 0 := rfl
  have e2 : HT.sIx ds.length ds.length (some n) = n.toNat := by
    unfold HT.sIx
    simp only
    rw [if_neg (by omega)]
    omega
  rw [e1, e2, List.drop_zero, Nat.sub_zero]
end
section
variable {X : Cx} {σ : L2.St} {G H : Hp} {e tg : Expr} {ds : List Dt} {R : It → Hp → Prop}
theorem w_src (h : Src X tg e σ G ds) (g : Same G H) (q : ∀ J G' H', Step [] G H G' H' → Walks X.K J G' ds → R J H') : eI X tg e σ H R := h G H (Same.refl _) g R q
theorem w_iList (h : eE X e σ H fun v H1 => ∃ l vs, v = .ref l ∧ SqL X.K H1 l vs ∧ R (Itl X.K l) H1) : eI X tg e σ H R := ⟨_, pi_list pe_e, h.mono fun v H1 ⟨l, vs, e, h1, h2⟩ => ⟨l, e, ⟨vs, h1⟩, h2⟩⟩
end
section
variable {X : Cx} {G H : Hp} {v : V} {ds ds' : List Dt} {l u : Option Int} {Q : VK}
theorem w_cutT (hd : Da X.K G v (.tuple ds)) (g : Same G H) (e : cutD ds l u = ds') (q : ∀ v' G' H', Step [] G H G' H' → Da X.K G' v' (.tuple ds') → Q v' H') : rSlA X.K v l u H Q := by
  obtain ⟨m, vs, rfl, h1, h2⟩ := hd.tup_inv
  subst e
  refine ⟨m, vs, rfl, SqT.same g h1, fun hw => ?_, fun _ p hp => ?_⟩
  · rw [h2.length] at hw
    rw [cutD_all hw] at q
    exact q _ G H (Step.refl g) (.tup h1 h2)
  · exact q _ _ _ (Step.alloc g hp) (.tup (SqT.of upd_same) (h2.cut.mono (Same.toUpd (g.free hp))))
end
end Mb

set_option Elab.async false
set_option linter.all false
set_option maxRecDepth 100000
set_option maxHeartbeats 4000000
namespace Mb
open PySem PySem.Spec PyProof.Rows L2 TL
section
variable {X : Cx} {σ : L2.St} {G H : Hp} {e2 : Expr} {p px pos kp1 kp2 : Pos} {f nm : Str} {C x : Addr} {o : Own} {k j : Nat} {R : Own → List Dt → Dt → Prop} {d d2 : Dt} {ps : List Str} {n1 n2 : Str}
/-- f(n1 = hall, n2 = e) -/
theorem pu_callHK (i : Nat) (F : HasN X.prog X.w X.K X.mg X.base f k ps (spHF X.K C 1 R)) (W : Kws X.K X.mg f ps [n1, n2] [0, 1]) (hr : Room j X.A) (hk : k ≤ j) (hi : σ[i]? = some (some (.ref x))) (hat : HallAt X.K C G x o) (ho : OwnOk o) (ha : Pu X e2 σ G d2) (hR : R o [d2] d) (hg : Gl X f := by rfl)
    (hN : X.N[i]? = some nm := by rfl) (hv : Vis X.env.scope nm := by first | exact Or.inl rfl | exact Or.inr (Or.inl rfl) | exact Or.inr (Or.inr rfl)) (h1 : (nm == ("__debug__" : Str)) = false := by decide) (h2 : (nm == ("__classdict__" : Str)) = false := by decide)
    (hks : (backToKw pos (keywordEach [⟨some n1, .Name nm px, kp1⟩, ⟨some n2, e2, kp2⟩] X.env)).filterMap (·.1) = [n1, n2] := by rfl) (hall : (backToKw pos (keywordEach [⟨some n1, .Name nm px, kp1⟩, ⟨some n2, e2, kp2⟩] X.env)).all (·.1.isSome) = true := by rfl)
    (hdb : (f == ("__debug__" : Str)) = false := by decide) (hpl : ((backTo pos (starEach [] X.env)).any (·.1) || (backToKw pos (keywordEach [⟨some n1, .Name nm px, kp1⟩, ⟨some n2, e2, kp2⟩] X.env)).any (·.1.isNone)) = false := by rfl) :
    Pu X (.Call (.Name f p) [] [⟨some n1, .Name nm px, kp1⟩, ⟨some n2, e2, kp2⟩] pos) σ G d := fun G1 H g s Q q =>
  w_callK F W hr hk (k_cons (w_var i hi (k_cons (ha G1 H g s _ fun v G2 H2 s2 hd => k_nil ⟨rfl, G2, x, [v], o, [d2], d, rfl, rfl, s2.s, hat.mono (g.trans s2.g), ho, .one hd, hR, fun v G3 H3 s3 hv => q v G3 H3 (s2.trans s3) hv⟩)) hN hv h1 h2)) hg hks hall hdb hpl
end
section
variable {P : Program} {w : World} {K : PySem.W.Frag} {mg : Str → Option Value} {base : Heap} {C : Addr}
abbrev HLawHall (P w K mg base) := Has P w K mg base "_law_hall" 6 2 (spDraw K 1300 1 preHall postHall)
abbrev HHallText (P w K mg base) := Has P w K mg base "_law_hall_text" 2 1 (spPure K 1 rHallText)
abbrev HHall (P w K mg base) (C : Addr) := HasI P w K mg base "Hall" C 5 (spHallInit K C)
abbrev HLv (P w K mg base) (C : Addr) := HasN P w K mg base "story_levels" 6 ["hall", "weaving"] (spHF K C 1 rLv)
theorem scRight : FnScope ["pot", "own", "hall", "weaving", "due", "rows", "lap", "other", "strange", "told"] ["pot"] (defScope t_law_right) := ⟨rfl, rfl, rfl, by decide +kernel, rfl, by decide +kernel, by decide +kernel⟩
def spLawR : Sp := fun vs H Q _ => ∃ G a, vs = [.ref a] ∧ Same G H ∧ G a = none ∧ PotAt H a 0 ∧ ∀ G' H', Step [a] G H G' H' → Q (.bl true) H'
theorem has_right (T : Top1 K mg "_law_right" t_law_right ["pot"]) (B : Blt mg) (hT : HTake P w K mg base) (hH : HLawHall P w K mg base) (hX : HHallText P w K mg base) (hM : HHall P w K mg base C) (hW : HWv P w K mg base) (hWA : HWA P w K mg base) (hLL : HLL P w K mg base) (hHR : HHR P w K mg base) (hLv : HLv P w K mg base C) (hKw : Kws K mg "story_levels" ["hall", "weaving"] ["hall", "weaving"] [0, 1]) : HasG P w K mg base "_law_right" 8 1 spLawR := by
  refine mkHasG (k := 7) T scRight (fun vs H Q ⟨G, a, h, _⟩ => by rw [h]; rfl) fun f cdv A outer s H vs Q quiet hr h => ?_
  obtain ⟨G, a, rfl, g, ga, hP, k⟩ := h
  have hu64' := hu64 hr
  obtain ⟨oa, hoa⟩ := hP.some
  refine b_cons (s_set 1 scRight.nd (w_draw hH hr (by decide) 0 rfl (pua_cons pu_int pua_nil) g ga hP (by decide) rfl fun d v1 G1 H1 hp s1 hP1 hv1 => ?_))
  obtain ⟨o, rfl, ho⟩ := hp
  refine b_cons (s_set 2 scRight.nd (w_hallM hM hr (by decide) (w_pu (pu_call hX hr (by decide) (pua_cons (pu_var 1 rfl hv1) pua_nil) ⟨o, rfl, ho, rfl⟩ rfl) s1.s fun v2 G2 H2 s2 hv2 => ⟨G2, o, hv2.str_inv, ho, s2.s, fun x G3 H3 s3 hx3 => ?_⟩)))
  have st3 : Step [a] G H G3 H3 := s1.trans (s2.trans s3).pure
  have hP3 := hP1.step (s2.trans s3) (by simp)
  have ga3 := st3.out ga hoa
  -- the weaving
  refine b_cons (s_set 3 scRight.nd (w_call hW hr (by decide) (a_cons (w_var 0 rfl (a_cons (w_var 1 rfl (a_cons (w_add (w_int (w_take hT hr (by decide) 0 rfl (u := 57) pu_int st3.s ga3 st3.s ga3 hP3 (by omega) (by omega) (by omega) fun r H4 r0 r1 s4 hP4 => ⟨4, r, rfl, rfl, a_nil ?_⟩))))))))))
  obtain ⟨many, hmany, hm4⟩ : ∃ m : Nat, (4 + r : Int) = m ∧ m ≤ 400 := ⟨(4 + r).toNat, by omega, by omega⟩
  rw [hmany]
  have st4 := st3.trans s4
  have d14 := hv1.mono (s2.g.trans (s3.g.trans s4.g))
  refine ⟨a, v1, G3, o, _, many, rfl, st4.s, st4.out ga hoa, hP4, by decide, d14, ho, hm4, fun ws v3 G5 H5 hws hwl hld s5 hP5 hv5 => ?_⟩
  have st5 := st4.trans s5
  have ga5 := st5.out ga hoa
  have d15 := d14.mono s5.g
  have hat5 := hx3.mono (s4.g.trans s5.g)
  have lw : (ws.map meD).length = ws.length := List.length_map _
  have hvk := hws.valid
  generalize hc : 0 + 1300 + 1 + 5000 = c at hP5
  -- due, rows
  refine b_cons (s_par 4 5 scRight.nd (a_cons (w_pu (d := levD o ws) (pu_call hLL hr (by decide) (pua_cons (pu_var 1 rfl d15) (pua_cons (pu_var 3 rfl hv5) pua_nil)) ⟨o, ws, rfl, ho, hvk, by omega, rfl⟩ rfl) st5.s fun v6 G6 H6 s6 hv6 => a_cons (w_pu (d := rowsD o ws) (pu_call hHR hr (by decide) (pua_cons (pu_var 1 rfl (d15.mono s6.g)) (pua_cons (pu_var 3 rfl (hv5.mono s6.g)) pua_nil)) ⟨o, ws, rfl, ho, hvk, by omega, rfl⟩ rfl) s6.s fun v7 G7 H7 s7 hv7 => a_nil ⟨_, _, rfl, ?_⟩))))
  have st7 := st5.trans (s6.trans s7).pure
  have hP7 := (hP5.step s6 (by simp)).step s7 (by simp)
  have g57 := s6.g.trans s7.g
  have dd7 := hv6.mono s7.g
  have hat7 := hat5.mono g57
  have d17 := d15.mono g57
  have dw7 := hv5.mono g57
  have rl := repr_lev ho hvk hld hwl
  -- the first test
  refine b_cons (s_if (t_pu (k := false) (PuT.to (put_c (c_neS (pu_reprTB quiet hu64' (pu_callH 2 hLv.has hr (by decide) rfl hat7 ho (pua_cons (pu_var 3 rfl dw7) pua_nil) ⟨ws, rfl, hws, rfl⟩) nods_lev rl (by decide) (by decide) B.repr) (pu_reprTB quiet hu64' (pu_var 4 rfl dd7) nods_lev rl (by decide) (by decide) B.repr))) (by simp)) st7.s fun G8 H8 s8 => ite2 (fun hc => by cases hc) (fun _ => b_nil ?_)))
  have st8 := st7.trans s8.pure
  have hP8 := hP7.step s8 (by simp)
  have g58 := g57.trans s8.g
  -- laps
  refine b_cons (s_forD (ds := rangeD 0 3) (src_range (n := 3) pu_int (by decide) (by decide) B.range) st8.s fun G9 H9 s9 => ⟨fun i σ H' => i ≤ 3 ∧ ∃ (G10 : Hp) (u6 u7 u8 u9 : Option V), σ = [some (.ref a), some v1, some (.ref x), some v3, some v6, some v7, u6, u7, u8, u9] ∧ Same G9 G10 ∧ Step [a] G H G10 H' ∧ PotAt H' a (c + 200 * i), ?_, ?_, ?_, ?_⟩)
  · exact ⟨Nat.zero_le _, G9, _, _, _, _, rfl, Same.refl _, st8.trans s9.pure, hP8.step s9 (by simp)⟩
  · rintro i σ H' ⟨_, G10, u6, u7, u8, u9, rfl, sg, st, _⟩
    exact sg.trans st.s
  · rintro l d y σ H' H10 hi ⟨hl3, G10, u6, u7, u8, u9, rfl, sg, st, hP10⟩ hw
    obtain ⟨him, rfl⟩ := rangeD_get hi
    obtain ⟨G11, s11, hx11⟩ := hw G10 sg st.s
    have st11 := st.trans s11.pure
    have hP11 := hP10.step s11 (by simp)
    have ga11 := st11.out ga hoa
    have g511 := g58.trans (s9.g.trans (sg.trans s11.g))
    refine g_name 6 scRight.nd (b_cons (s_set 7 scRight.nd (w_call hWA hr (by decide) (a_cons (w_var 0 rfl (a_cons (w_var 1 rfl (a_cons (w_var 3 rfl (a_cons (w_add (w_pu (pu_mul (i := 20) pu_int (pu_var 6 rfl hx11) (by have h : l = 0 ∨ l = 1 ∨ l = 2 := (by omega); rcases h with rfl | rfl | rfl <;> (unfold CMulW; decide +kernel))) st11.s fun v12 G12 H12 s12 hv12 => w_take hT hr (by decide) 0 rfl (u := 60) pu_int s12.s (s12.out ga11 hP11.some.choose_spec) s12.s (s12.out ga11 hP11.some.choose_spec) (hP11.step s12 (by simp)) (by omega) (by omega) (by omega) fun r' H13 q0 q1 s13 hP13 => ⟨20 * (0 + (l : Nat)), r', hv12.int_inv, rfl, a_nil ?_⟩))))))))))))
    obtain ⟨mn, hmn, hmn4⟩ : ∃ m : Nat, (20 * (0 + (l : Nat)) + r' : Int) = m ∧ m ≤ 150 := ⟨(20 * (0 + (l : Nat)) + r' : Int).toNat, by omega, by omega⟩
    rw [hmn]
    have st13 := (st11.trans s12.pure).trans s13
    have g513 := g511.trans (s12.g.trans s13.g)
    refine ⟨a, v1, v3, G12, o, ws, mn, _, rfl, st13.s, st13.out ga hoa, hP13, by omega, d15.mono g513, ho, hv5.mono g513, hvk, by omega, fun wa v14 G14 H14 cn s14 hP14 hv14 => ?_⟩
    have st14 := st13.trans s14
    have g514 := g513.trans s14.g
    have hwa : WvOk o (holdI o) wa := (cn.wv ho (holdI_len (o := o)) hws).1
    have el : levD o wa = levD o ws := (conn_levD ho hvk cn).symm
    refine b_one (s_if (t_pu (k := false) (PuT.to (put_c (c_neS (pu_reprTB (b := 1600) (k := 3) quiet hu64' (pu_callHK 2 hLv hKw hr (by decide) rfl (hat5.mono g514) ho (pu_var 7 rfl hv14) ⟨wa, rfl, hwa, el.symm⟩) nods_lev rl (by decide) (by decide) B.repr) (pu_reprTB quiet hu64' (pu_var 4 rfl (dd7.mono (s8.g.trans (s9.g.trans (sg.trans (s11.g.trans (s12.g.trans (s13.g.trans s14.g)))))))) nods_lev rl (by decide) (by decide) B.repr))) (by simp)) st14.s fun G15 H15 s15 => ite2 (fun hc => by cases hc) (fun _ => b_nil ?_)))
    exact ⟨by omega, G15, _, _, _, _, rfl, sg.trans (s11.g.trans (s12.g.trans (s13.g.trans (s14.g.trans s15.g)))), st14.trans s15.pure, (hP14.step s15 (by simp)).up (by omega)⟩
  rintro σ H' ⟨_, G10, u6, u7, u8, u9, rfl, sg, st, hP10⟩
  have g510 := g58.trans (s9.g.trans sg)
  have ga10 := st.out ga hoa
  have l3 : (rangeD 0 3).length = 3 := rfl
  rw [l3] at hP10
  have dw10 := hv5.mono g510
  -- strange ones
  refine b_cons (s_set 8 scRight.nd (w_lst (a_cons (w_slice sl_tupA (w_var 3 rfl (o_none (o_some (w_take hT hr (by decide) 0 rfl (u := ((ws.map meD).length : Int) + 1) (pu_add (pu_lenT (pu_var 3 rfl dw10) B.len) pu_int) st.s ga10 st.s ga10 hP10 (by omega) (by rw [lw]; omega) (by rw [lw]; omega) fun r H11 r0 r1 s11 hP11 => ⟨r, rfl, ?_⟩))))))))
  rw [lw] at r1
  obtain ⟨n, rfl⟩ : ∃ n : Nat, r = n := ⟨r.toNat, by omega⟩
  have st11 := st.trans s11
  have dw11 := dw10.mono s11.g
  refine w_cutT dw11 s11.s (cutD_takeI (ds := ws.map meD) (n := n) (by omega) (by rw [lw]; omega)) fun v12 G12 H12 s12 hv12 => ?_
  rw [Int.toNat_natCast, ← List.map_take] at hv12
  have st12 := st11.trans s12.pure
  have hP12 := hP11.step s12 (by simp)
  have g512 := g510.trans (s11.g.trans s12.g)
  refine a_cons (w_call hW hr (by decide) (a_cons (w_var 0 rfl (a_cons (w_var 1 rfl (a_cons (w_int (a_nil ⟨a, v1, G12, o, _, 10, rfl, st12.s, st12.out ga hoa, hP12, by omega, d15.mono g512, ho, by decide, fun wz v13 G13 H13 hwz hzl hzd s13 hP13 hv13 => a_nil ⟨by show 2 ≤ sizeLine; decide, fun q hq => ?_⟩⟩))))))))
  have st13 := st12.trans s13
  have sq := Step.alloc (A := []) (o := .lst [v12, v13]) st13.s hq
  have stq := st13.trans sq.pure
  have dq : Da K (upd G13 q (.lst [v12, v13])) (.ref q) (.list [.tuple ((ws.take n).map meD), .tuple (wz.map meD)]) := .lst upd_same (.cons (hv12.mono (s13.g.trans sq.g)) (.one (hv13.mono sq.g)))
  generalize upd G13 q (.lst [v12, v13]) = Gq at sq stq dq
  generalize upd H13 q (.lst [v12, v13]) = Hq at sq stq
  have g5q := g512.trans (s13.g.trans sq.g)
  refine b_cons (s_forD (ds := [.tuple ((ws.take n).map meD), .tuple (wz.map meD)]) (src_list (pu_var 8 rfl dq)) stq.s fun G14 H14 s14 => ⟨fun i σ H' => ∃ (G15 : Hp) (u7' u9' : Option V), σ = [some (.ref a), some v1, some (.ref x), some v3, some v6, some v7, u6, u7', some (.ref q), u9'] ∧ Same G14 G15 ∧ Step [a] G H G15 H', ?_, ?_, ?_, ?_⟩)
  · exact ⟨G14, _, _, rfl, Same.refl _, stq.trans s14.pure⟩
  · rintro i σ H' ⟨G15, _, _, rfl, sg', st'⟩
    exact sg'.trans st'.s
  · rintro l d y σ H' H15' hi ⟨G15, u7', u9', rfl, sg', st'⟩ hw
    obtain ⟨wx, rfl, hwx, hxl, hxd⟩ : ∃ wx : Wv, d = .tuple (wx.map meD) ∧ WvOk o (holdI o) wx ∧ wx.length ≤ 400 ∧ LdOk wx := by
      match l, hi with
      | 0, hi => exact ⟨ws.take n, (Option.some.inj hi).symm, wv_take hws n, by rw [List.length_take]; omega, fun p hp => hld p (List.mem_of_mem_take hp)⟩
      | 1, hi => exact ⟨wz, (Option.some.inj hi).symm, hwz, hzl, hzd⟩
      | l + 2, hi => cases hi
    have hxk := hwx.valid
    obtain ⟨G16, s16, hy⟩ := hw G15 sg' st'.s
    have st16 := st'.trans s16.pure
    have g516 := g5q.trans (s14.g.trans (sg'.trans s16.g))
    have rx := repr_lev ho hxk hxd hxl
    have rr := repr_rows ho hxk hxd hxl
    have rw0 := repr_rows ho hvk hld hwl
    refine g_name 7 scRight.nd (b_cons (s_set 9 scRight.nd (w_pu (d := levD o wx) (pu_callH 2 hLv.has hr (by decide) rfl (hat5.mono g516) ho (pua_cons (pu_var 7 rfl hy) pua_nil) ⟨wx, rfl, hwx, rfl⟩) st16.s fun v17 G17 H17 s17 hv17 => ?_)))
    have st17 := st16.trans s17.pure
    have g517 := g516.trans s17.g
    have hy17 := hy.mono s17.g
    refine b_cons (s_if (t_pu (k := false) (PuT.to (put_c (c_neS (pu_reprTB quiet hu64' (pu_var 9 rfl hv17) nods_lev rx (by decide) (by decide) B.repr) (pu_reprTB quiet hu64' (pu_call hLL hr (by decide) (pua_cons (pu_var 1 rfl (d15.mono g517)) (pua_cons (pu_var 7 rfl hy17) pua_nil)) ⟨o, wx, rfl, ho, hxk, by omega, rfl⟩ rfl) nods_lev rx (by decide) (by decide) B.repr))) (by simp)) st17.s fun G18 H18 s18 => ite2 (fun hc => by cases hc) (fun _ => b_nil ?_)))
    have st18 := st17.trans s18.pure
    have g518 := g517.trans s18.g
    have hy18 := hy17.mono s18.g
    have dd18 := hv6.mono (s7.g.trans (s8.g.trans (s9.g.trans (sg.trans (s11.g.trans (s12.g.trans (s13.g.trans (sq.g.trans (s14.g.trans (sg'.trans (s16.g.trans (s17.g.trans s18.g))))))))))))
    have dr18 := hv7.mono (s8.g.trans (s9.g.trans (sg.trans (s11.g.trans (s12.g.trans (s13.g.trans (sq.g.trans (s14.g.trans (sg'.trans (s16.g.trans (s17.g.trans s18.g)))))))))))
    refine b_one (s_if (t_pu (k := false) (PuT.to (put_c (c_neB (pu_c (c_eqS (pu_reprTB quiet hu64' (pu_var 9 rfl (hv17.mono s18.g)) nods_lev rx (by decide) (by decide) B.repr) (pu_reprTB quiet hu64' (pu_var 4 rfl dd18) nods_lev rl (by decide) (by decide) B.repr))) (pu_c (c_eqS (pu_reprLB quiet hu64' (pu_call hHR hr (by decide) (pua_cons (pu_var 1 rfl (d15.mono g518)) (pua_cons (pu_var 7 rfl hy18) pua_nil)) ⟨o, wx, rfl, ho, hxk, by omega, rfl⟩ rfl) nods_rows rr (by decide) (by decide) B.repr) (pu_reprLB quiet hu64' (pu_var 5 rfl dr18) nods_rows rw0 (by decide) (by decide) B.repr))))) (by
      have := lev_rows_b ho hxk hvk
      unfold levD rowsD at this
      rw [this, bne_self_eq_false])) st18.s fun G19 H19 s19 => ite2 (fun hc => by cases hc) (fun _ => b_nil ?_)))
    exact ⟨G19, _, _, rfl, sg'.trans (s16.g.trans (s17.g.trans (s18.g.trans s19.g))), st18.trans s19.pure⟩
  · rintro σ H' ⟨G15, u7', u9', rfl, sg', st'⟩
    have g515 := g5q.trans (s14.g.trans sg')
    refine b_one (s_ret (w_pu (pu_c (c_eqD (d1 := levD o []) (d2 := .tuple []) (pu_callH 2 hLv.has hr (by decide) rfl (hat5.mono g515) ho (pua_cons (pu_tup (ds := []) pua_nil) pua_nil) ⟨[], rfl, wv_nil, rfl⟩) (pu_tup (ds := []) pua_nil) rfl rfl rfl rfl hu64')) st'.s fun v16 G16 H16 s16 hv16 => ?_))
    obtain rfl := hv16.bl_inv
    exact k G16 H16 (st'.trans s16.pure)
end
end Mb

set_option Elab.async false
set_option linter.all false
set_option maxRecDepth 100000
set_option maxHeartbeats 4000000
namespace Mb
open PySem PySem.Spec PyProof.Rows L2 TL
/-! ### from what the top has written to the law -/
theorem top_mk {K : PySem.W.Frag} {h : Heap} {mg : Str → Option Value} {x : Str} {st : Stmt} {ps : List Str} {f : Addr} {od an : Option Addr} {sl : Array (Option Value)} {oc kV dc pm cd ct : Value} (X : K.In h) (G : h.Ns mainGlobals mg)
    (a : PySem.W.nsIn K mainGlobals x = some (some (.ref f))) (l : K.lookup f = some ⟨oc, od, .func (PySem.W.fnOf x x (defArgs st) (defBody st) (defScope st) .none kV dc pm an cd ct), sl⟩) (c : PySem.W.codeIn K cd x = true) (k : PySem.W.keepIn K (.ref f) = true)
    (b : ∀ (kV doc pm : Value) (an : Option Addr) (cdv ct : Value) (us : List Value), us.length = ps.length → bindArgs (PySem.W.fnOf x x (defArgs st) (defBody st) (defScope st) .none kV doc pm an cdv ct) ⟨us, []⟩ = pure (ps.zip us)) : Top1 K mg x st ps :=
  ⟨f, _, PySem.W.mg_of X G a, fun_mk (st := st) l c k, (fun_mk (st := st) l c k).binds b⟩
theorem topM_mk {K : PySem.W.Frag} {C : Addr} {x qual : Str} {st : Stmt} {ps : List Str} {f : Addr} {od an : Option Addr} {sl : Array (Option Value)} {oc kV dc pm cd ct : Value}
    (a : PySem.W.findIn K (.ref C) x = some (some (.ref f))) (i : PySem.W.isFn K (.ref f) = true) (l : K.lookup f = some ⟨oc, od, .func (PySem.W.fnOf x qual (defArgs st) (defBody st) (defScope st) .none kV dc pm an cd ct), sl⟩) (c : PySem.W.codeIn K cd qual = true) (k : PySem.W.keepIn K (.ref f) = true)
    (b : ∀ (kV doc pm : Value) (an : Option Addr) (cdv ct : Value) (us : List Value), us.length = ps.length → bindArgs (PySem.W.fnOf x qual (defArgs st) (defBody st) (defScope st) .none kV doc pm an cdv ct) ⟨us, []⟩ = pure (ps.zip us)) : TopM K C x qual st ps :=
  ⟨f, _, a, i, fun_mk (st := st) l c k, (fun_mk (st := st) l c k).binds b⟩
theorem reserved_mk {K : PySem.W.Frag} {h : Heap} {mg : Str → Option Value} {a : Addr} {dd : Option Addr} {n : Nat} {sl : Array (Option Value)} {t1 t2 t3 t4 t5 t6 t7 t8 t9 : Tok} (X : K.In h) (G : h.Ns mainGlobals mg) (e : PySem.W.nsIn K mainGlobals "RESERVED" = some (some (.ref a)))
    (l : K.lookup a = some ⟨.type "tuple", dd, .seq #[.str "hands" t1, .str "taken" t2, .str "right" t3, .str "meet" t4, .str "begins" t5, .str "ends" t6, .str "gives" t7, .str "and" t8, .str "end" t9] n, sl⟩) :
    ∃ a u, mg "RESERVED" = some u ∧ RelV (.ref a) u ∧ ∀ G, Da K G (.ref a) (.tuple (ofS resS)) :=
  ⟨a, .ref a, PySem.W.mg_of X G e, rfl, fun G' => .tup (xs := resS.map V.str) (.inr ⟨_, _, n, l, rfl, rfl, by show 9 ≤ sizeLine; decide, .cons ⟨t1, rfl⟩ (.cons ⟨t2, rfl⟩ (.cons ⟨t3, rfl⟩ (.cons ⟨t4, rfl⟩ (.cons ⟨t5, rfl⟩ (.cons ⟨t6, rfl⟩ (.cons ⟨t7, rfl⟩ (.cons ⟨t8, rfl⟩ (.cons ⟨t9, rfl⟩ .nil))))))))⟩) (Das.ofStrs _)⟩
theorem kit_ref {K : PySem.W.Frag} {C : Addr} {cd : ClassData} {T : String} (h1 : PySem.W.clsIn K C = some cd) (h2 : PySem.W.typeIn K (.ref C) = some (.type "type")) (h3 : PySem.W.subIn K (.type T) (.ref C) = some false) : PySem.W.kitOne K (.type T) (.ref C) = some false := by
  unfold PySem.W.kitOne
  rw [if_neg (by simp)]
  unfold PySem.W.kitCls
  dsimp only
  rw [if_pos (by rw [h1, h2]; simp)]
  exact h3
theorem clsX_mk {K : PySem.W.Frag} {C : Addr} {cd : ClassData} (cls : Cls K C) (h1 : PySem.W.clsIn K C = some cd) (h2 : PySem.W.typeIn K (.ref C) = some (.type "type")) (h3 : ∀ T ∈ tyNs, PySem.W.subIn K (.type T) (.ref C) = some false)
    (gc : PySem.W.findIn K (.ref C) "__class__" = some (some (.builtin "object.__class__"))) (sc : PySem.W.specialIn K (.builtin "object.__class__") "__get__" = some (some (.builtin "getset_descriptor.__get__"))) (tk : PySem.W.takesIn K (.builtin "object.__class__") = some true)
    (mro : PySem.W.mroIn K C (.type "object") = some true) (ne : PySem.W.findIn K (.ref C) "__ne__" = some (some (.builtin "object.__ne__"))) : ClsX K C :=
  ⟨fun T h => kit_ref h1 h2 (h3 T h), fun T h => by unfold PySem.W.notFirst; rw [h3 T h]; simp, cls, gc, sc, tk, mro, ne⟩
section
variable {P : Program} {w : World} {K : PySem.W.Frag} {mg : Str → Option Value} {base : Heap} {C : Addr}
theorem scCells : FnScope ["script", "most"] ["script", "most"] (defScope sCells) := ⟨rfl, rfl, rfl, by decide +kernel, rfl, by decide +kernel, by decide +kernel⟩
def spCells (K : PySem.W.Frag) : Sp := fun vs H Q _ => ∃ (G : Hp) (a : Addr) (ns : List Int), vs = [.ref a, .int 2] ∧ Same G H ∧ SqL K G a (ns.map V.int) ∧ ns.length ≤ 1000 ∧ ∀ n v G' H', n ≤ 2 → Step [] G H G' H' → Da K G' v (.list (rangeD 0 n)) → Q v H'
theorem has_cells (T : Top1 K mg "_law_cells" sCells ["script", "most"]) (B : Blt mg) : Has P w K mg base "_law_cells" 1 2 (spCells K) := by
  refine mkHas (k := 0) T scCells (fun vs H Q E ⟨G, a, ns, h, _⟩ => by rw [h]; rfl) fun f cdv A outer s H vs Q E hr h => ?_
  obtain ⟨G, a, ns, rfl, g, hs, hl, k⟩ := h
  have el : (ns.map V.int).length = ns.length := by simp
  obtain ⟨n, hn, en⟩ : ∃ n : Nat, n ≤ 2 ∧ (if (if (ns.length : Int) < 2 then (ns.length : Int) else 2) > 1 then (if (ns.length : Int) < 2 then (ns.length : Int) else 2) else 1) = (n : Int) := by
    refine ⟨(if (if (ns.length : Int) < 2 then (ns.length : Int) else 2) > 1 then (if (ns.length : Int) < 2 then (ns.length : Int) else 2) else 1).toNat, ?_, ?_⟩
    · split <;> split <;> omega
    · rw [Int.toNat_of_nonneg]
      split <;> split <;> omega
  refine b_one (s_ret (w_pu (pu_listR (n := n) (Pu.to (pu_max pu_int (pu_min (pu_var 1 rfl (.int 2)) (Pu.to (pu_lenQ 0 rfl hs B.len) (by rw [el])) B.min) B.max) (by rw [en])) (by omega) B.list B.range) g fun v G1 H1 s1 hv => k n v G1 H1 hn s1 hv))
abbrev HPot (P w K mg base) := Has P w K mg base "_law_pot" 1 2 (spPot K)
abbrev HCells (P w K mg base) := Has P w K mg base "_law_cells" 1 2 (spCells K)
abbrev HRight (P w K mg base) := HasG P w K mg base "_law_right" 8 1 spLawR
theorem scLaw : FnScope ["script", "place"] ["script"] (defScope t_law) := ⟨rfl, rfl, rfl, by decide +kernel, rfl, by decide +kernel, by decide +kernel⟩
def spLaw (K : PySem.W.Frag) : Sp := fun vs H Q _ => ∃ (a : Addr) (ns : List Int), vs = [.ref a] ∧ SqL K H a (ns.map V.int) ∧ ns.length ≤ 63 ∧ ∀ H', Q (.bl true) H'
theorem has_law (T : Top1 K mg "law" t_law ["script"]) (B : Blt mg) (hP : HPot P w K mg base) (hC : HCells P w K mg base) (hR : HRight P w K mg base) : HasG P w K mg base "law" 9 1 (spLaw K) := by
  refine mkHasG (k := 8) T scLaw (fun vs H Q ⟨a, ns, h, _⟩ => by rw [h]; rfl) fun f cdv A outer s H vs Q quiet hr h => ?_
  obtain ⟨a, ns, rfl, hs, hl, k⟩ := h
  refine b_one (s_ret (w_allC (w_lc [("place", 1)] (blkOk_by (by kernel_rfl)) scLaw.nd (lc1R 1 scLaw.nd (fun i acc => i ≤ 2 ∧ acc = List.replicate i (PyData.bool true)) ⟨_, pi_list pe_e, w_call hC hr (by decide) (a_cons (w_var 0 rfl (a_cons (w_int (a_nil ⟨H, a, ns, rfl, Same.refl H, hs, by omega, fun n v1 G1 H1 hn s1 hv1 => ?_⟩)))))⟩)) B.all))
  obtain ⟨l1, vs1, rfl, hl1, hd1⟩ := hv1.lst_inv
  refine ⟨l1, rfl, ⟨vs1, SqL.of (s1.s _ _ hl1)⟩, G1, rangeD 0 n, s1.s, walks_list hl1 hd1, ⟨by omega, rfl⟩, fun i acc e => by rw [e.2, List.length_replicate]; omega, ?_, ?_⟩
  · intro i d v G2 H2 acc hd g2 s2 e hv Q kk s0 H0 C' cl fp
    obtain ⟨hi, rfl⟩ := rangeD_get hd
    obtain rfl := hv.int_inv
    rw [show (0 : Int) + (i : Nat) = ((i : Nat) : Int) by omega]
    have hs2 : SqL K G2 a (ns.map V.int) := SqL.same (s1.g.trans g2) hs
    refine w_callG hR hr (by decide) quiet (a_cons (w_call hP hr (by decide) (a_cons (w_var 0 rfl (a_cons (w_var 1 rfl (a_nil ⟨G2, a, ns, i, rfl, s2, hs2, by omega, fun l G3 H3 s3 hl0 gl hPot => a_nil ⟨G3, l, rfl, s3.s, gl, hPot, fun G4 H4 s4 => ?_⟩⟩)))))))
    refine kk _ (.bool true) G4 H4 (Step.drop hl0 (s3.pure.trans s4)) (.bl true) ⟨by omega, ?_⟩
    rw [e.2, List.replicate_succ']
  · intro v G' H' acc st hv e
    rw [rangeD_len] at e
    refine ⟨G', List.replicate n true, ?_, st.s, ?_⟩
    · rw [List.map_replicate, ← e.2]
      exact hv
    · have : (List.replicate n true).all id = true := by
        rw [List.all_eq_true]
        intro b hb
        exact (List.mem_replicate.mp hb).2
      rw [this]
      exact k H'
end
/-- what the top has written -/
structure Txt (K : PySem.W.Frag) (mg : Str → Option Value) (CD CH : Addr) : Prop where
  B : Blt mg
  bl : mg "bool" = none
  L : Glb K mg
  DD : ClsD K CD
  DH : ClsH K CH
  mD : mg "HallDraft" = some (.ref CD)
  mkD : PySem.W.makesIn K CD = true
  kpD : PySem.W.keepIn K (.ref CD) = true
  mH : mg "Hall" = some (.ref CH)
  mkH : PySem.W.makesIn K CH = true
  kpH : PySem.W.keepIn K (.ref CH) = true
  mDI : TopM K CD "__init__" "HallDraft.__init__" mDraftInit ["self"]
  mHI : TopM K CH "__init__" "Hall.__init__" mHallInit ["self", "text"]
  mHL : TopM K CH "__len__" "Hall.__len__" mHallLen ["self"]
  kwLv : Kws K mg "story_levels" ["hall", "weaving"] ["hall", "weaving"] [0, 1]
  f_is_integer : Top1 K mg "is_integer" t_is_integer ["value"]
  f_is_below : Top1 K mg "is_below" t_is_below ["value", "many"]
  isname : Top1 K mg "is_name" sIsName ["value"]
  isasc : Top1 K mg "is_ascending" sIsAsc ["values"]
  f_is_meeting : Top1 K mg "is_meeting" t_is_meeting ["hall", "value"]
  called : Top1 K mg "may_be_called" sCalled ["word"]
  standing : Top1 K mg "standing_told" sStanding ["holders"]
  tline : Top1 K mg "takes_line" sTakesLine ["draft", "words"]
  thands : Top1 K mg "takes_hands" sTakesHands ["draft", "words"]
  ttaken : Top1 K mg "takes_taken" sTakesTaken ["draft", "words"]
  tright : Top1 K mg "takes_right" sTakesRight ["draft", "words"]
  tmeet : Top1 K mg "takes_meet" sTakesMeet ["draft", "words"]
  ct : Top1 K mg "comers_told" sComersTold ["hands", "words"]
  together : Top1 K mg "may_come_together" sTogether ["comers", "begins", "ends", "gives"]
  lot : Top1 K mg "lot_told" sLotTold ["kind"]
  f_told_refusal : Top1 K mg "told_refusal" t_told_refusal ["hall", "holders", "kind"]
  f_hand_out_of_reach : Top1 K mg "hand_out_of_reach" t_hand_out_of_reach ["hall", "holders", "kind"]
  f_holders_behind : Top1 K mg "holders_behind" t_holders_behind ["hall", "holders", "kind"]
  f_walked : Top1 K mg "walked" t_walked ["hall", "weaving"]
  f_holders_of : Top1 K mg "holders_of" t_holders_of ["hall", "weaving"]
  f_story_levels : Top1 K mg "story_levels" t_story_levels ["hall", "weaving"]
  pot : Top1 K mg "_law_pot" sPot ["script", "place"]
  take : Top1 K mg "_law_take" sTake ["pot", "upto"]
  of_ : Top1 K mg "_law_of" sOf ["pot", "some"]
  some_ : Top1 K mg "_law_some" sSome ["pot", "pool", "many"]
  cells : Top1 K mg "_law_cells" sCells ["script", "most"]
  name : Top1 K mg "_law_name" sName ["pot", "used"]
  names : Top1 K mg "_law_names" sNames ["pot", "many", "used"]
  shape : Top1 K mg "_law_shape" sShape ["pot", "many"]
  still : Top1 K mg "_law_still" sStill ["pot", "most"]
  others : Top1 K mg "_law_others" sOthers ["pot", "many", "barred", "most"]
  moves : Top1 K mg "_law_moves" sMoves ["pot", "many", "hand", "keeper"]
  moving : Top1 K mg "_law_moving" sMoving ["pot", "most"]
  hall : Top1 K mg "_law_hall" sLawHall ["pot", "most"]
  kline : Top1 K mg "_law_kind_line" sKindLine ["own", "kind"]
  htext : Top1 K mg "_law_hall_text" sHallText ["own"]
  first : Top1 K mg "_law_first" sFirst ["own"]
  f_law_refused : Top1 K mg "_law_refused" t_law_refused ["own", "here", "kind"]
  f_law_behind : Top1 K mg "_law_behind" t_law_behind ["own", "here", "kind"]
  f_law_next : Top1 K mg "_law_next" t_law_next ["own", "here"]
  f_law_lot : Top1 K mg "_law_lot" t_law_lot ["own", "kind"]
  f_law_are_apart : Top1 K mg "_law_are_apart" t_law_are_apart ["own", "one", "other"]
  f_law_load : Top1 K mg "_law_load" t_law_load ["pot", "way", "number"]
  f_law_picked : Top1 K mg "_law_picked" t_law_picked ["pot", "some", "lots", "manner", "number", "silent"]
  f_law_weaving : Top1 K mg "_law_weaving" t_law_weaving ["pot", "own", "many"]
  f_law_woven_anew : Top1 K mg "_law_woven_anew" t_law_woven_anew ["pot", "own", "weaving", "many"]
  f_law_hand_rows : Top1 K mg "_law_hand_rows" t_law_hand_rows ["own", "weaving"]
  f_law_levels : Top1 K mg "_law_levels" t_law_levels ["own", "weaving"]
  f_law_right : Top1 K mg "_law_right" t_law_right ["pot"]
  f_law : Top1 K mg "law" t_law ["script"]
theorem law_all {P : Program} {w : World} {K : PySem.W.Frag} {mg : Str → Option Value} {base : Heap} {CD CH : Addr} (T : Txt K mg CD CH) : HasG P w K mg base "law" 9 1 (spLaw K) := by
  have hT := has_take (P := P) (w := w) (base := base) T.take T.B
  have hO := has_of T.of_ T.B hT
  have hSm := has_some T.some_ T.B hT
  have hN := has_name T.name T.B hT hO
  have hNs := has_names T.names T.B hN
  have hOth := has_others T.others T.B hT hSm
  have hSh := has_shape T.shape T.B hT hO hSm
  have hStill := has_still T.still T.B hT hO hSm hSh hNs
  have hMv := has_moves T.moves T.B hT hO hSm hOth
  have hMov := has_moving T.moving T.B hT hO hSm hNs hMv
  have hLH := has_lawhall T.hall T.B hT hStill hMov
  have hKL := has_kindline (P := P) (w := w) (base := base) T.kline T.B
  have hHT := has_halltext T.htext T.B hKL
  have hIN := has_isname (P := P) (w := w) (base := base) T.isname T.B T.L
  have hIA := has_isasc (P := P) (w := w) (base := base) T.isasc T.B
  have hCa := has_called T.called T.B T.L hIN
  have hLot := has_lottold (P := P) (w := w) (base := base) T.lot T.B
  have hSt := has_standing (P := P) (w := w) (base := base) T.standing T.B T.L
  have hTog := has_together (P := P) (w := w) (base := base) T.together T.B T.L
  have hCT := has_comerstold T.ct T.B hTog
  have h1 := has_thands T.DD T.thands T.B T.L hCa
  have h2 := has_ttaken T.DD T.ttaken T.B T.L hIA
  have h3 := has_tright (P := P) (w := w) (base := base) T.DD T.tright T.B T.L
  have h4 := has_tmeet T.DD T.tmeet T.B T.L hCa hCT
  have hTL := has_tline T.DD T.tline T.B h1 h2 h3 h4
  have hFi := has_first (P := P) (w := w) (base := base) T.first T.B
  have hD := has_dinit (P := P) (w := w) (base := base) T.DD T.mDI T.mD T.mkD T.kpD
  have hH := has_hinit T.DD T.DH T.mHI T.mH T.mkH T.kpH T.B hD hTL hSt hLot
  have hLen := has_hlen (P := P) (w := w) (base := base) T.DH T.mHL T.B
  have hII := has_isint (P := P) (w := w) (base := base) T.f_is_integer T.B T.bl
  have hIB := has_below T.f_is_below T.B hII
  have hIM := has_ismet T.f_is_meeting T.B hII hIB hLen
  have hRc := has_reach (P := P) (w := w) (base := base) T.DH T.f_hand_out_of_reach T.B
  have hTR := has_tref T.DH T.L T.f_told_refusal T.B hRc
  have hBd := has_behind (P := P) (w := w) (base := base) T.DH T.L T.f_holders_behind T.B
  have hWk := has_walked T.DH T.f_walked T.B hIM hTR hBd
  have hHo := has_holdersof T.f_holders_of T.B hWk
  have hLv := has_lv T.DH T.f_story_levels T.B hHo
  have hLR := has_refd (P := P) (w := w) (base := base) T.f_law_refused T.B
  have hLB := has_beh (P := P) (w := w) (base := base) T.f_law_behind T.B
  have hLN := has_next T.f_law_next T.B hLR
  have hLL := has_lot (P := P) (w := w) (base := base) T.f_law_lot T.B
  have hLD := has_load T.f_law_load T.B hT hO
  have hLP := has_picked T.f_law_picked T.B hT hO
  have hLW := has_wv T.f_law_weaving T.B hT hLP hLD hLL hLN hLB hFi
  have hAp := has_apart T.f_law_are_apart T.B hLL
  have hWA := has_wa T.f_law_woven_anew T.B hT hAp
  have hHR := has_hr T.f_law_hand_rows T.B hLL
  have hLv2 := has_ll T.f_law_levels T.B hLL
  have hR := has_right T.f_law_right T.B hT hLH hHT hH hLW hWA hLv2 hHR hLv T.kwLv
  exact has_law T.f_law T.B (has_pot T.pot T.B) (has_cells T.cells T.B) hR
theorem walkG {l : PySem.W.OpenLaw} {q : Program} {loose : List Str} {XP : (Str → Option Value) → Heap → Prop} {YP : World → Heap → Prop} {d : DefRec} {K : Params → PySem.W.Frag} (hn : l.most = some 63) (hdf : d.params.defaults = []) (hnm : d.name = "law")
    (hY : ∀ (w : World) (h : Heap), YP w h → (K w.params).In h)
    (F : ∀ (w : World) (mg : Str → Option Value) (h : Heap), (K w.params).In h → h.Ns mainGlobals mg → ∃ CD CH, Txt (K w.params) mg CD CH) :
    PySem.W.WalkO q loose XP YP l.row.toRowW d [] (fun f vs => PySem.call f vs) := by
  refine Att.attach_callB hn hdf fun w s₀ s₁ mg mb fa o pm cd doc a vs ns G Y ho hd hcd hmg hobj hints hlen hbits hg => ?_
  have KX := hY w _ Y
  obtain ⟨CD, CH, T⟩ := F w mg _ KX G.T.g
  refine callG (k := 9) (sp := spLaw (K w.params)) KX G.T.g G.T.b G.T.builtins G.T.nolimit hg hobj hints (Nat.le_trans hlen (by decide)) ⟨rfl, by decide, by decide⟩ (fun base _ _ => ?_) fun H hS => ⟨a, ns, rfl, hS, hlen, fun _ => rfl⟩
  obtain ⟨f, fd, ps, h0, h1, h2, h3, h4⟩ := (law_all (P := l.prog) (w := w) (base := base) T).ex
  rw [hnm] at hmg
  obtain rfl : fa = f := by
    have := hmg.symm.trans h1
    injection this with this
    injection this
  exact ⟨fd, ps, h0, h3, h4⟩
end Mb
namespace Mb
open PySem PySem.Spec PyProof.Rows L2 TL
theorem glb_mk {K : PySem.W.Frag} {h : Heap} {mg : Str → Option Value} {x : Str} {u : Value} {v : V} (X : K.In h) (G : h.Ns mainGlobals mg) (e : PySem.W.nsIn K mainGlobals x = some (some u)) (r : RelV v u) : ∃ u, mg x = some u ∧ RelV v u := ⟨u, PySem.W.mg_of X G e, r⟩
theorem exT_mk {K : PySem.W.Frag} {mg : Str → Option Value} {CD CH : Addr} (aCD : PySem.W.nsIn K mainGlobals "HallDraft" = some (some (.ref CD))) (aCH : PySem.W.nsIn K mainGlobals "Hall" = some (some (.ref CH))) (T : Txt K mg CD CH) : ∃ CD CH, Txt K mg CD CH := ⟨CD, CH, T⟩
theorem kws_mk {K : PySem.W.Frag} {h : Heap} {mg : Str → Option Value} {x : Str} {st : Stmt} {ps ks : List Str} {perm : List Nat} {f : Addr} {od an : Option Addr} {sl : Array (Option Value)} {oc kV dc pm cd ct : Value} (X : K.In h) (G : h.Ns mainGlobals mg)
    (a : PySem.W.nsIn K mainGlobals x = some (some (.ref f))) (l : K.lookup f = some ⟨oc, od, .func (PySem.W.fnOf x x (defArgs st) (defBody st) (defScope st) .none kV dc pm an cd ct), sl⟩)
    (b : ∀ (kV doc pm : Value) (an : Option Addr) (cdv ct : Value) (ws : List Value), ws.length = ks.length → bindArgs (PySem.W.fnOf x x (defArgs st) (defBody st) (defScope st) .none kV doc pm an cdv ct) ⟨[], ks.zip ws⟩ = pure (ps.zip (gP perm ws))) : Kws K mg x ps ks perm :=
  ⟨f, _, _, _, _, PySem.W.mg_of X G a, l, fun s ws hl => BindsTo.of_eq (b _ _ _ _ _ _ ws hl)⟩
end Mb

set_option Elab.async false
set_option linter.all false
set_option maxRecDepth 100000
open PySem PySem.W PyProof.Rows Mb L2 in
set_option maxRecDepth 100000 in
set_option maxHeartbeats 0 in
theorem PySem.Challenge.cw_meetbooks_k09_levels_by_an_own_going_holds : PySem.Challenge.rw_meetbooks_k09_levels_by_an_own_going.Holds := by
  w_on; o_law; k_head; (case hw => w_witness2)
  k_fill
  refine Mb.walkG (l := PySem.Challenge.rw_meetbooks_k09_levels_by_an_own_going) rfl rfl rfl (fun w h Y => PySem.W.kIn_of Y) ?F
  case F =>
    intro w mg h KX G
    refine' Mb.exT_mk ?aCD ?aCH ?T
    (case aCD => k_is)
    (case aCH => k_is)
    refine' ⟨?B, ?bl, ?L, ?DD, ?DH, ?mD, ?mkD, ?kpD, ?mH, ?mkH, ?kpH, ?mDI, ?mHI, ?mHL, ?kwLv, ?f_is_integer, ?f_is_below, ?isname, ?isasc, ?f_is_meeting, ?called, ?standing, ?tline, ?thands, ?ttaken, ?tright, ?tmeet, ?ct, ?together, ?lot, ?f_told_refusal, ?f_hand_out_of_reach, ?f_holders_behind, ?f_walked, ?f_holders_of, ?f_story_levels, ?pot, ?take, ?of_, ?some_, ?cells, ?name, ?names, ?shape, ?still, ?others, ?moves, ?moving, ?hall, ?kline, ?htext, ?first, ?f_law_refused, ?f_law_behind, ?f_law_next, ?f_law_lot, ?f_law_are_apart, ?f_law_load, ?f_law_picked, ?f_law_weaving, ?f_law_woven_anew, ?f_law_hand_rows, ?f_law_levels, ?f_law_right, ?f_law⟩
    case B =>
      refine' ⟨PySem.W.mg_none_of KX G ?b0_1_0, PySem.W.mg_none_of KX G ?b1_1_0, PySem.W.mg_none_of KX G ?b2_1_0, PySem.W.mg_none_of KX G ?b3_1_0, PySem.W.mg_none_of KX G ?b4_1_0, PySem.W.mg_none_of KX G ?b5_1_0, PySem.W.mg_none_of KX G ?b6_1_0, PySem.W.mg_none_of KX G ?b7_1_0, PySem.W.mg_none_of KX G ?b8_1_0, PySem.W.mg_none_of KX G ?b9_1_0, PySem.W.mg_none_of KX G ?b10_1_0, PySem.W.mg_none_of KX G ?b11_1_0, PySem.W.mg_none_of KX G ?b12_1_0, PySem.W.mg_none_of KX G ?b13_1_0, PySem.W.mg_none_of KX G ?b14_1_0, PySem.W.mg_none_of KX G ?b15_1_0, PySem.W.mg_none_of KX G ?b16_1_0, PySem.W.mg_none_of KX G ?b17_1_0, PySem.W.mg_none_of KX G ?b18_1_0⟩
      (case b0_1_0 => k_is)
      (case b1_1_0 => k_is)
      (case b2_1_0 => k_is)
      (case b3_1_0 => k_is)
      (case b4_1_0 => k_is)
      (case b5_1_0 => k_is)
      (case b6_1_0 => k_is)
      (case b7_1_0 => k_is)
      (case b8_1_0 => k_is)
      (case b9_1_0 => k_is)
      (case b10_1_0 => k_is)
      (case b11_1_0 => k_is)
      (case b12_1_0 => k_is)
      (case b13_1_0 => k_is)
      (case b14_1_0 => k_is)
      (case b15_1_0 => k_is)
      (case b16_1_0 => k_is)
      (case b17_1_0 => k_is)
      (case b18_1_0 => k_is)
    case bl =>
      refine' PySem.W.mg_none_of KX G ?bl_1
      (case bl_1 => k_is)
    case L =>
      refine' ⟨?letters, ?longest, ?reserved, ?here, ?fewest, ?mostH, ?mostK, ?mostC⟩
      case letters =>
        refine' glb_mk KX G ?a_2_1 ?r_2_1
        (case a_2_1 => k_is)
        (case r_2_1 => first | rfl | exact ⟨_, rfl⟩ | exact ⟨_, by kernel_rfl⟩)
      case longest =>
        refine' glb_mk KX G ?a_2_2 ?r_2_2
        (case a_2_2 => k_is)
        (case r_2_2 => first | rfl | exact ⟨_, rfl⟩ | exact ⟨_, by kernel_rfl⟩)
      case here =>
        refine' glb_mk KX G ?a_2_3 ?r_2_3
        (case a_2_3 => k_is)
        (case r_2_3 => first | rfl | exact ⟨_, rfl⟩ | exact ⟨_, by kernel_rfl⟩)
      case fewest =>
        refine' glb_mk KX G ?a_2_4 ?r_2_4
        (case a_2_4 => k_is)
        (case r_2_4 => first | rfl | exact ⟨_, rfl⟩ | exact ⟨_, by kernel_rfl⟩)
      case mostH =>
        refine' glb_mk KX G ?a_2_5 ?r_2_5
        (case a_2_5 => k_is)
        (case r_2_5 => first | rfl | exact ⟨_, rfl⟩ | exact ⟨_, by kernel_rfl⟩)
      case mostK =>
        refine' glb_mk KX G ?a_2_6 ?r_2_6
        (case a_2_6 => k_is)
        (case r_2_6 => first | rfl | exact ⟨_, rfl⟩ | exact ⟨_, by kernel_rfl⟩)
      case mostC =>
        refine' glb_mk KX G ?a_2_7 ?r_2_7
        (case a_2_7 => k_is)
        (case r_2_7 => first | rfl | exact ⟨_, rfl⟩ | exact ⟨_, by kernel_rfl⟩)
      case reserved =>
        refine' reserved_mk KX G ?a_2_8 ?l_2_8
        (case a_2_8 => k_is)
        (case l_2_8 => k_is)
    case DD =>
      refine' ⟨⟨?pg_3_0, ?hd_3_0, ?po_3_0, ?sa_3_0⟩, ?a0_3_0, ?a1_3_0, ?a2_3_0⟩
      (case pg_3_0 => k_is)
      (case hd_3_0 => k_is)
      (case po_3_0 => k_is)
      (case sa_3_0 => k_is)
      (case a0_3_0 => show PySem.W.findIn _ _ _ = some none; k_is)
      (case a1_3_0 => show PySem.W.findIn _ _ _ = some none; k_is)
      (case a2_3_0 => show PySem.W.findIn _ _ _ = some none; k_is)
    case DH =>
      refine' ⟨⟨?pg_4_0, ?hd_4_0, ?po_4_0, ?sa_4_0⟩, ?a0_4_0, ?a1_4_0, ?a2_4_0, ?a3_4_0, ?a4_4_0, ?a5_4_0, ?a6_4_0⟩
      (case pg_4_0 => k_is)
      (case hd_4_0 => k_is)
      (case po_4_0 => k_is)
      (case sa_4_0 => k_is)
      (case a0_4_0 => show PySem.W.findIn _ _ _ = some none; k_is)
      (case a1_4_0 => show PySem.W.findIn _ _ _ = some none; k_is)
      (case a2_4_0 => show PySem.W.findIn _ _ _ = some none; k_is)
      (case a3_4_0 => show PySem.W.findIn _ _ _ = some none; k_is)
      (case a4_4_0 => show PySem.W.findIn _ _ _ = some none; k_is)
      (case a5_4_0 => show PySem.W.findIn _ _ _ = some none; k_is)
      (case a6_4_0 => show PySem.W.findIn _ _ _ = some none; k_is)
    case mD =>
      refine' PySem.W.mg_of KX G ?a_6_0
      (case a_6_0 => k_is)
    case mkD => k_is
    case kpD => k_is
    case mH =>
      refine' PySem.W.mg_of KX G ?a_9_0
      (case a_9_0 => k_is)
    case mkH => k_is
    case kpH => k_is
    case mDI =>
      refine' topM_mk ?a_12_0 ?i_12_0 ?l_12_0 ?c_12_0 ?k_12_0 fun _ _ _ _ _ _ us hl => match us, hl with | [_], _ => rfl
      (case a_12_0 => k_is)
      (case i_12_0 => k_is)
      (case l_12_0 => k_is)
      (case c_12_0 => k_is)
      (case k_12_0 => k_is)
    case mHI =>
      refine' topM_mk ?a_13_0 ?i_13_0 ?l_13_0 ?c_13_0 ?k_13_0 fun _ _ _ _ _ _ us hl => match us, hl with | [_, _], _ => rfl
      (case a_13_0 => k_is)
      (case i_13_0 => k_is)
      (case l_13_0 => k_is)
      (case c_13_0 => k_is)
      (case k_13_0 => k_is)
    case mHL =>
      refine' topM_mk ?a_14_0 ?i_14_0 ?l_14_0 ?c_14_0 ?k_14_0 fun _ _ _ _ _ _ us hl => match us, hl with | [_], _ => rfl
      (case a_14_0 => k_is)
      (case i_14_0 => k_is)
      (case l_14_0 => k_is)
      (case c_14_0 => k_is)
      (case k_14_0 => k_is)
    case kwLv =>
      refine' kws_mk (st := t_story_levels) KX G ?a_101 ?l_101 fun _ _ _ _ _ _ us hl => match us, hl with | [_, _], _ => rfl
      (case a_101 => k_is)
      (case l_101 => k_is)
    case f_is_integer =>
      refine' top_mk KX G ?a_102 ?l_102 ?c_102 ?k_102 fun _ _ _ _ _ _ us hl => match us, hl with | [_], _ => rfl
      (case a_102 => k_is)
      (case l_102 => k_is)
      (case c_102 => k_is)
      (case k_102 => k_is)
    case f_is_below =>
      refine' top_mk KX G ?a_103 ?l_103 ?c_103 ?k_103 fun _ _ _ _ _ _ us hl => match us, hl with | [_, _], _ => rfl
      (case a_103 => k_is)
      (case l_103 => k_is)
      (case c_103 => k_is)
      (case k_103 => k_is)
    case isname =>
      refine' top_mk KX G ?a_104 ?l_104 ?c_104 ?k_104 fun _ _ _ _ _ _ us hl => match us, hl with | [_], _ => rfl
      (case a_104 => k_is)
      (case l_104 => k_is)
      (case c_104 => k_is)
      (case k_104 => k_is)
    case isasc =>
      refine' top_mk KX G ?a_105 ?l_105 ?c_105 ?k_105 fun _ _ _ _ _ _ us hl => match us, hl with | [_], _ => rfl
      (case a_105 => k_is)
      (case l_105 => k_is)
      (case c_105 => k_is)
      (case k_105 => k_is)
    case f_is_meeting =>
      refine' top_mk KX G ?a_106 ?l_106 ?c_106 ?k_106 fun _ _ _ _ _ _ us hl => match us, hl with | [_, _], _ => rfl
      (case a_106 => k_is)
      (case l_106 => k_is)
      (case c_106 => k_is)
      (case k_106 => k_is)
    case called =>
      refine' top_mk KX G ?a_107 ?l_107 ?c_107 ?k_107 fun _ _ _ _ _ _ us hl => match us, hl with | [_], _ => rfl
      (case a_107 => k_is)
      (case l_107 => k_is)
      (case c_107 => k_is)
      (case k_107 => k_is)
    case standing =>
      refine' top_mk KX G ?a_108 ?l_108 ?c_108 ?k_108 fun _ _ _ _ _ _ us hl => match us, hl with | [_], _ => rfl
      (case a_108 => k_is)
      (case l_108 => k_is)
      (case c_108 => k_is)
      (case k_108 => k_is)
    case tline =>
      refine' top_mk KX G ?a_109 ?l_109 ?c_109 ?k_109 fun _ _ _ _ _ _ us hl => match us, hl with | [_, _], _ => rfl
      (case a_109 => k_is)
      (case l_109 => k_is)
      (case c_109 => k_is)
      (case k_109 => k_is)
    case thands =>
      refine' top_mk KX G ?a_110 ?l_110 ?c_110 ?k_110 fun _ _ _ _ _ _ us hl => match us, hl with | [_, _], _ => rfl
      (case a_110 => k_is)
      (case l_110 => k_is)
      (case c_110 => k_is)
      (case k_110 => k_is)
    case ttaken =>
      refine' top_mk KX G ?a_111 ?l_111 ?c_111 ?k_111 fun _ _ _ _ _ _ us hl => match us, hl with | [_, _], _ => rfl
      (case a_111 => k_is)
      (case l_111 => k_is)
      (case c_111 => k_is)
      (case k_111 => k_is)
    case tright =>
      refine' top_mk KX G ?a_112 ?l_112 ?c_112 ?k_112 fun _ _ _ _ _ _ us hl => match us, hl with | [_, _], _ => rfl
      (case a_112 => k_is)
      (case l_112 => k_is)
      (case c_112 => k_is)
      (case k_112 => k_is)
    case tmeet =>
      refine' top_mk KX G ?a_113 ?l_113 ?c_113 ?k_113 fun _ _ _ _ _ _ us hl => match us, hl with | [_, _], _ => rfl
      (case a_113 => k_is)
      (case l_113 => k_is)
      (case c_113 => k_is)
      (case k_113 => k_is)
    case ct =>
      refine' top_mk KX G ?a_114 ?l_114 ?c_114 ?k_114 fun _ _ _ _ _ _ us hl => match us, hl with | [_, _], _ => rfl
      (case a_114 => k_is)
      (case l_114 => k_is)
      (case c_114 => k_is)
      (case k_114 => k_is)
    case together =>
      refine' top_mk KX G ?a_115 ?l_115 ?c_115 ?k_115 fun _ _ _ _ _ _ us hl => match us, hl with | [_, _, _, _], _ => rfl
      (case a_115 => k_is)
      (case l_115 => k_is)
      (case c_115 => k_is)
      (case k_115 => k_is)
    case lot =>
      refine' top_mk KX G ?a_116 ?l_116 ?c_116 ?k_116 fun _ _ _ _ _ _ us hl => match us, hl with | [_], _ => rfl
      (case a_116 => k_is)
      (case l_116 => k_is)
      (case c_116 => k_is)
      (case k_116 => k_is)
    case f_told_refusal =>
      refine' top_mk KX G ?a_117 ?l_117 ?c_117 ?k_117 fun _ _ _ _ _ _ us hl => match us, hl with | [_, _, _], _ => rfl
      (case a_117 => k_is)
      (case l_117 => k_is)
      (case c_117 => k_is)
      (case k_117 => k_is)
    case f_hand_out_of_reach =>
      refine' top_mk KX G ?a_118 ?l_118 ?c_118 ?k_118 fun _ _ _ _ _ _ us hl => match us, hl with | [_, _, _], _ => rfl
      (case a_118 => k_is)
      (case l_118 => k_is)
      (case c_118 => k_is)
      (case k_118 => k_is)
    case f_holders_behind =>
      refine' top_mk KX G ?a_119 ?l_119 ?c_119 ?k_119 fun _ _ _ _ _ _ us hl => match us, hl with | [_, _, _], _ => rfl
      (case a_119 => k_is)
      (case l_119 => k_is)
      (case c_119 => k_is)
      (case k_119 => k_is)
    case f_walked =>
      refine' top_mk KX G ?a_120 ?l_120 ?c_120 ?k_120 fun _ _ _ _ _ _ us hl => match us, hl with | [_, _], _ => rfl
      (case a_120 => k_is)
      (case l_120 => k_is)
      (case c_120 => k_is)
      (case k_120 => k_is)
    case f_holders_of =>
      refine' top_mk KX G ?a_121 ?l_121 ?c_121 ?k_121 fun _ _ _ _ _ _ us hl => match us, hl with | [_, _], _ => rfl
      (case a_121 => k_is)
      (case l_121 => k_is)
      (case c_121 => k_is)
      (case k_121 => k_is)
    case f_story_levels =>
      refine' top_mk KX G ?a_122 ?l_122 ?c_122 ?k_122 fun _ _ _ _ _ _ us hl => match us, hl with | [_, _], _ => rfl
      (case a_122 => k_is)
      (case l_122 => k_is)
      (case c_122 => k_is)
      (case k_122 => k_is)
    case pot =>
      refine' top_mk KX G ?a_123 ?l_123 ?c_123 ?k_123 fun _ _ _ _ _ _ us hl => match us, hl with | [_, _], _ => rfl
      (case a_123 => k_is)
      (case l_123 => k_is)
      (case c_123 => k_is)
      (case k_123 => k_is)
    case take =>
      refine' top_mk KX G ?a_124 ?l_124 ?c_124 ?k_124 fun _ _ _ _ _ _ us hl => match us, hl with | [_, _], _ => rfl
      (case a_124 => k_is)
      (case l_124 => k_is)
      (case c_124 => k_is)
      (case k_124 => k_is)
    case of_ =>
      refine' top_mk KX G ?a_125 ?l_125 ?c_125 ?k_125 fun _ _ _ _ _ _ us hl => match us, hl with | [_, _], _ => rfl
      (case a_125 => k_is)
      (case l_125 => k_is)
      (case c_125 => k_is)
      (case k_125 => k_is)
    case some_ =>
      refine' top_mk KX G ?a_126 ?l_126 ?c_126 ?k_126 fun _ _ _ _ _ _ us hl => match us, hl with | [_, _, _], _ => rfl
      (case a_126 => k_is)
      (case l_126 => k_is)
      (case c_126 => k_is)
      (case k_126 => k_is)
    case cells =>
      refine' top_mk KX G ?a_127 ?l_127 ?c_127 ?k_127 fun _ _ _ _ _ _ us hl => match us, hl with | [_, _], _ => rfl
      (case a_127 => k_is)
      (case l_127 => k_is)
      (case c_127 => k_is)
      (case k_127 => k_is)
    case name =>
      refine' top_mk KX G ?a_128 ?l_128 ?c_128 ?k_128 fun _ _ _ _ _ _ us hl => match us, hl with | [_, _], _ => rfl
      (case a_128 => k_is)
      (case l_128 => k_is)
      (case c_128 => k_is)
      (case k_128 => k_is)
    case names =>
      refine' top_mk KX G ?a_129 ?l_129 ?c_129 ?k_129 fun _ _ _ _ _ _ us hl => match us, hl with | [_, _, _], _ => rfl
      (case a_129 => k_is)
      (case l_129 => k_is)
      (case c_129 => k_is)
      (case k_129 => k_is)
    case shape =>
      refine' top_mk KX G ?a_130 ?l_130 ?c_130 ?k_130 fun _ _ _ _ _ _ us hl => match us, hl with | [_, _], _ => rfl
      (case a_130 => k_is)
      (case l_130 => k_is)
      (case c_130 => k_is)
      (case k_130 => k_is)
    case still =>
      refine' top_mk KX G ?a_131 ?l_131 ?c_131 ?k_131 fun _ _ _ _ _ _ us hl => match us, hl with | [_, _], _ => rfl
      (case a_131 => k_is)
      (case l_131 => k_is)
      (case c_131 => k_is)
      (case k_131 => k_is)
    case others =>
      refine' top_mk KX G ?a_132 ?l_132 ?c_132 ?k_132 fun _ _ _ _ _ _ us hl => match us, hl with | [_, _, _, _], _ => rfl
      (case a_132 => k_is)
      (case l_132 => k_is)
      (case c_132 => k_is)
      (case k_132 => k_is)
    case moves =>
      refine' top_mk KX G ?a_133 ?l_133 ?c_133 ?k_133 fun _ _ _ _ _ _ us hl => match us, hl with | [_, _, _, _], _ => rfl
      (case a_133 => k_is)
      (case l_133 => k_is)
      (case c_133 => k_is)
      (case k_133 => k_is)
    case moving =>
      refine' top_mk KX G ?a_134 ?l_134 ?c_134 ?k_134 fun _ _ _ _ _ _ us hl => match us, hl with | [_, _], _ => rfl
      (case a_134 => k_is)
      (case l_134 => k_is)
      (case c_134 => k_is)
      (case k_134 => k_is)
    case hall =>
      refine' top_mk KX G ?a_135 ?l_135 ?c_135 ?k_135 fun _ _ _ _ _ _ us hl => match us, hl with | [_, _], _ => rfl
      (case a_135 => k_is)
      (case l_135 => k_is)
      (case c_135 => k_is)
      (case k_135 => k_is)
    case kline =>
      refine' top_mk KX G ?a_136 ?l_136 ?c_136 ?k_136 fun _ _ _ _ _ _ us hl => match us, hl with | [_, _], _ => rfl
      (case a_136 => k_is)
      (case l_136 => k_is)
      (case c_136 => k_is)
      (case k_136 => k_is)
    case htext =>
      refine' top_mk KX G ?a_137 ?l_137 ?c_137 ?k_137 fun _ _ _ _ _ _ us hl => match us, hl with | [_], _ => rfl
      (case a_137 => k_is)
      (case l_137 => k_is)
      (case c_137 => k_is)
      (case k_137 => k_is)
    case first =>
      refine' top_mk KX G ?a_138 ?l_138 ?c_138 ?k_138 fun _ _ _ _ _ _ us hl => match us, hl with | [_], _ => rfl
      (case a_138 => k_is)
      (case l_138 => k_is)
      (case c_138 => k_is)
      (case k_138 => k_is)
    case f_law_refused =>
      refine' top_mk KX G ?a_139 ?l_139 ?c_139 ?k_139 fun _ _ _ _ _ _ us hl => match us, hl with | [_, _, _], _ => rfl
      (case a_139 => k_is)
      (case l_139 => k_is)
      (case c_139 => k_is)
      (case k_139 => k_is)
    case f_law_behind =>
      refine' top_mk KX G ?a_140 ?l_140 ?c_140 ?k_140 fun _ _ _ _ _ _ us hl => match us, hl with | [_, _, _], _ => rfl
      (case a_140 => k_is)
      (case l_140 => k_is)
      (case c_140 => k_is)
      (case k_140 => k_is)
    case f_law_next =>
      refine' top_mk KX G ?a_141 ?l_141 ?c_141 ?k_141 fun _ _ _ _ _ _ us hl => match us, hl with | [_, _], _ => rfl
      (case a_141 => k_is)
      (case l_141 => k_is)
      (case c_141 => k_is)
      (case k_141 => k_is)
    case f_law_lot =>
      refine' top_mk KX G ?a_142 ?l_142 ?c_142 ?k_142 fun _ _ _ _ _ _ us hl => match us, hl with | [_, _], _ => rfl
      (case a_142 => k_is)
      (case l_142 => k_is)
      (case c_142 => k_is)
      (case k_142 => k_is)
    case f_law_are_apart =>
      refine' top_mk KX G ?a_143 ?l_143 ?c_143 ?k_143 fun _ _ _ _ _ _ us hl => match us, hl with | [_, _, _], _ => rfl
      (case a_143 => k_is)
      (case l_143 => k_is)
      (case c_143 => k_is)
      (case k_143 => k_is)
    case f_law_load =>
      refine' top_mk KX G ?a_144 ?l_144 ?c_144 ?k_144 fun _ _ _ _ _ _ us hl => match us, hl with | [_, _, _], _ => rfl
      (case a_144 => k_is)
      (case l_144 => k_is)
      (case c_144 => k_is)
      (case k_144 => k_is)
    case f_law_picked =>
      refine' top_mk KX G ?a_145 ?l_145 ?c_145 ?k_145 fun _ _ _ _ _ _ us hl => match us, hl with | [_, _, _, _, _, _], _ => rfl
      (case a_145 => k_is)
      (case l_145 => k_is)
      (case c_145 => k_is)
      (case k_145 => k_is)
    case f_law_weaving =>
      refine' top_mk KX G ?a_146 ?l_146 ?c_146 ?k_146 fun _ _ _ _ _ _ us hl => match us, hl with | [_, _, _], _ => rfl
      (case a_146 => k_is)
      (case l_146 => k_is)
      (case c_146 => k_is)
      (case k_146 => k_is)
    case f_law_woven_anew =>
      refine' top_mk KX G ?a_147 ?l_147 ?c_147 ?k_147 fun _ _ _ _ _ _ us hl => match us, hl with | [_, _, _, _], _ => rfl
      (case a_147 => k_is)
      (case l_147 => k_is)
      (case c_147 => k_is)
      (case k_147 => k_is)
    case f_law_hand_rows =>
      refine' top_mk KX G ?a_148 ?l_148 ?c_148 ?k_148 fun _ _ _ _ _ _ us hl => match us, hl with | [_, _], _ => rfl
      (case a_148 => k_is)
      (case l_148 => k_is)
      (case c_148 => k_is)
      (case k_148 => k_is)
    case f_law_levels =>
      refine' top_mk KX G ?a_149 ?l_149 ?c_149 ?k_149 fun _ _ _ _ _ _ us hl => match us, hl with | [_, _], _ => rfl
      (case a_149 => k_is)
      (case l_149 => k_is)
      (case c_149 => k_is)
      (case k_149 => k_is)
    case f_law_right =>
      refine' top_mk KX G ?a_150 ?l_150 ?c_150 ?k_150 fun _ _ _ _ _ _ us hl => match us, hl with | [_], _ => rfl
      (case a_150 => k_is)
      (case l_150 => k_is)
      (case c_150 => k_is)
      (case k_150 => k_is)
    case f_law =>
      refine' top_mk KX G ?a_151 ?l_151 ?c_151 ?k_151 fun _ _ _ _ _ _ us hl => match us, hl with | [_], _ => rfl
      (case a_151 => k_is)
      (case l_151 => k_is)
      (case c_151 => k_is)
      (case k_151 => k_is)
#print axioms PySem.Challenge.cw_meetbooks_k09_levels_by_an_own_going_holds
