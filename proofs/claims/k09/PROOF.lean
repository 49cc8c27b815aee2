import PyProof.Rows.All
import Wide.All
import OpenK.AllK
import Wide.FinOn
import HandS.ForMost
import HandS.ForExc
import HandS.Codes
import HandS.Lambda
import HandS.EndTab
import HandS.IsInst
import HandS.ExcIs
import HandS.Wide
import HandS.SetFor
import HandS.TupMul
import HandS.Conv
import HandS.Zip
import KE.SortData
import HandS.SetBool
import HandS.Strs
import PySem.Challenge.RW_windowdog_k09_levels
set_option Elab.async false
set_option linter.all false
set_option maxRecDepth 100000
set_option maxHeartbeats 4000000
/-! The readings step by step; heaps in which one list (the drawing's) changes. -/
namespace Wd
open PySem PySem.Spec PyProof.Rows L2

/-! ### rules -/
section
variable {X : Cx} {a b c d : Expr} {ta tb tc td : TE} {pos : Pos}
def tChain3 (r r' r2 : R2) (ta tb tc td : TE) : TE := fun σ H Q => ta σ H fun x H1 => tb σ H1 fun y H2 => r x y H2 fun z H3 => ∃ k, z = .bl k ∧
  (if k = true then tc σ H3 fun w' H4 => r' y w' H4 fun z2 H5 => ∃ k2, z2 = .bl k2 ∧ (if k2 = true then td σ H5 fun w2 H6 => r2 w' w2 H6 Q else Q (.bl false) H5) else Q (.bl false) H3)
theorem pe_chain3 {op op' op2 : CmpOp} {r r' r2 : R2} (ho : OpR X (compareOp op) r) (ho' : OpR X (compareOp op') r') (ho2 : OpR X (compareOp op2) r2) (ha : PE X a ta) (hb : PE X b tb) (hc : PE X c tc) (hd : PE X d td)
    (hm : lastMarks [op, op', op2] [b, c, d] = false := by with_unfolding_all rfl) : PE X (.Compare a [op, op', op2] [b, c, d] pos) (tChain3 r r' r2 ta tb tc td) := by
  refine ⟨fun pins s σ H Q I h => ?_⟩
  refine Compare_chain (thn (ha.run pins s σ H _ I h) fun v s1 ⟨x, H1, I1, r1, q1⟩ => chain_link (thn (hb.run pins s1 σ H1 _ I1 q1) fun u s2 ⟨y, H2, I2, r2, q2⟩ =>
    thn (ho pins s2 σ H2 x y v u _ I2 r1 r2 q2) fun d s3 ⟨z, H3, I3, r3, k, e, q3⟩ => ?_)) hm
  subst e
  cases r3
  refine wpAny_truthy_bool ?_
  cases k with
  | false => exact ite_ff ⟨.bl false, H3, I3, rfl, q3⟩
  | true =>
    refine ite_tt (chain_link (thn (hc.run pins s3 σ H3 _ I3 q3) fun w' s4 ⟨z', H4, I4, r4, q4⟩ => thn (ho' pins s4 σ H4 y z' u w' _ I4 r2 r4 q4) fun d5 s5 ⟨z5, H5, I5, r5, k5, e5, q5⟩ => ?_))
    subst e5
    cases r5
    refine wpAny_truthy_bool ?_
    cases k5 with
    | false => exact ite_ff ⟨.bl false, H5, I5, rfl, q5⟩
    | true => exact ite_tt (chain_last (thn (hd.run pins s5 σ H5 _ I5 q5) fun w6 s6 ⟨z6, H6, I6, r6, q6⟩ => ho2 pins s6 σ H6 z' z6 w' w6 Q I6 r4 r6 q6))
end

section
variable {X : Cx} {K : PySem.W.Frag} {name : Str} {T id : String} {r : V → List V → Hp → VK → Prop} {o e : Expr} {es : List Expr} {to : TE} {t : TA} {apos cpos : Pos}
theorem pe_bmK (hK : X.K = K) (pa : PlainAttrs T) (slot : Slot T name id) (hty : typeOf (.builtin id) = pure (.type "method_descriptor")) (hm : MtR X id r) (ho : PE X o to) (ha : PA X (e :: es) t)
    (hbase : attributeBase o name X.env (eval o X.env) = eval o X.env := by rfl)
    (hfew : ((backTo cpos (starEach (e :: es) X.env)).all (fun x => !x.1) && (backToKw cpos (keywordEach [] X.env)).all (fun x => x.1.isSome)
      && decide ((e :: es).length + ([] : List Keyword).length + (if ([] : List Keyword).isEmpty then 0 else 1) < 30)) = true := by rfl)
    (hline : (apos.endLine == cpos.line) = true := by rfl) (hs : starEach (e :: es) X.env = (false, eval e X.env) :: starEach es X.env := by rfl) (hplain : (backTo cpos (starEach es X.env)).any (·.1) = false := by rfl) : PE X (.Call (.Attribute o name apos) (e :: es) [] cpos) (tBM K T r to t) := by
  subst hK; exact pe_bm pa slot hty hm ho ha hbase hfew hline hs hplain
theorem pe_bm0K (hK : X.K = K) (pa : PlainAttrs T) (slot : Slot T name id) (hty : typeOf (.builtin id) = pure (.type "method_descriptor")) (hm : MtR X id r) (ho : PE X o to)
    (hbase : attributeBase o name X.env (eval o X.env) = eval o X.env := by rfl) (hline : (apos.endLine == cpos.line) = true := by rfl) : PE X (.Call (.Attribute o name apos) [] [] cpos) (tBM0 K T r to) := by
  subst hK; exact pe_bm0 pa slot hty hm ho hbase hline
end

/-- a def of the module that may let an exception out -/
structure CalX (P : Program) (w : World) (K : PySem.W.Frag) (mg : Str → Option Value) (base : Heap) (k : Nat) (x : Str) (sp : Sp) : Prop where
  ex : ∃ (f : Addr) (fd : FuncData) (ps : List Str), FnOk P w K mg base (L2.CX P w) k f fd ps sp ∧ mg x = some (.ref f) ∧ PySem.W.keepIn K (.ref f) = true ∧ Binds K fd ps []
section
variable {X : Cx} {k j : Nat} {x : Str} {sp : Sp} {p pos : Pos} {e : Expr} {es : List Expr} {t : TA} {E : L2.St → XK}
theorem pe_cX (c : CalX X.prog X.w X.K X.mg X.base k x sp) (hr : Room j X.A) (hk : k ≤ j) (hg : Gl X x) (hx : ∀ σ, PassesAt (L2.CX X.prog X.w) X σ (E σ)) (ha : PA X (e :: es) t)
    (hdb : (x == ("__debug__" : Str)) = false := by decide) (he : starEach (e :: es) X.env = (false, eval e X.env) :: starEach es X.env := by rfl) (hpl : (backTo pos (starEach es X.env)).any (·.1) = false := by rfl) :
    PE X (.Call (.Name x p) (e :: es) [] pos) (tCallS sp E t) := by
  obtain ⟨f, fd, ps, F, hm, kp, b⟩ := c.ex
  exact pe_callS F (hr.mono hk) hg hm kp b hx ha hdb he hpl
end
section
variable {P : Program} {w : World} {K : PySem.W.Frag} {mg : Str → Option Value} {base : Heap}
/-- a def by its body, which may let an exception out -/
theorem calX {x : Str} {st : Stmt} {f : Addr} {fd : FuncData} {N ps : List Str} {k : Nat} {sp : Sp} (F : C8.Def K mg x st f fd) (b : Binds K fd ps []) (S : FnScope N ps (C8.fnScope st)) (len : ∀ vs H Q E, sp vs H Q E → vs.length = ps.length)
    (hbody : ∀ (cdv : Value) (A : Around) (outer : List Env) (s : Shared) (H : Hp) (vs : List V) (Q : VK) (E : XK), Room k (A.deeper (envOfC x (C8.fnScope st) s.heap.objs.size f cdv)) → sp vs H Q E →
      ∃ t, PSs (cxOf (L2.CX P w) P w K mg base N x (C8.fnScope st) f cdv A outer s H E) (C8.fnBody st) t ∧ t { nx := fun _ H' => Q .non H', rt := Q } (L2.start N vs) H) : CalX P w K mg base (k + 1) x sp := by
  refine ⟨f, fd, ps, ?_, F.mgf, F.kp, b⟩
  obtain ⟨oc, od, dV, kV, doc, pm, an, cdv, ct, osl, rfl, lk, hcd⟩ := F.fn.ex
  exact fn_of lk hcd S len fun A outer s H vs Q E hr hsp => hbody cdv A outer s H vs Q E hr hsp
end

/-! ### list.count of flat items -/
section
variable {X : Cx}
theorem count_eqU {x : V} : ∀ {xs : List V} {us : List Value}, Vals xs us → xs.all flatV = true → us.countP (eqU x) = xs.countP fun y => eqV y x
  | _, _, .nil, _ => rfl
  | y :: xs, u :: us, .cons r t, f => by
    rw [List.all_cons, Bool.and_eq_true] at f
    rw [List.countP_cons, List.countP_cons, eqU_of r f.1, count_eqU t f.2]
def rCntV (K : PySem.W.Frag) : V → List V → Hp → VK → Prop := fun x xs H Q => ∃ (p : Addr) (ys : List V) (y : V), x = .ref p ∧ xs = [y] ∧ SqL K H p ys ∧ flatV y = true ∧ ys.all flatV = true ∧ Q (.int ((ys.countP fun z => eqV z y : Nat) : Int)) H
theorem mt_lcountV : MtR X "list.count" (rCntV X.K) := by
  intro pins s σ H x xs v us Q I rx rxs h
  obtain ⟨p, ys, y, rfl, rfl, hs, fy, fys, q⟩ := h
  cases rx
  obtain ⟨u, rfl, ru⟩ := rxs.one
  obtain ⟨its, rv, ⟨⟨cls, dd, data, sl⟩, n, ho, hc, hdn, hd⟩, hlen⟩ := I.list hs
  simp only at hc hd
  subst hc hd
  refine call_meets PySem.F.slot_list_count ⟨_, ho, rfl⟩ PySem.F.entry_list_count (PySem.F.args_list_count_2 _ _)
    (SeqAt.list_countAt p its.toArray n dd sl u (eqU y)) ⟨ho, fun u' hu' => mem_eqAt ru fy rv fys u' (by simpa using hu'), ?_⟩
  have ec : its.toArray.toList.countP (eqU y) = ys.countP fun z => eqV z y := count_eqU rv fys
  refine ⟨.int (ys.countP fun z => eqV z y : Nat), H, I.tok _, ⟨s.toks, ?_⟩, q⟩
  show Value.int ((its.toArray.toList.countP (eqU y) : Nat) : Int) s.toks = Value.int ((ys.countP fun z => eqV z y : Nat) : Int) s.toks
  rw [ec]
end

/-! ### isinstance of a caught error, its class told by the reading -/
def rIsE2 (K : PySem.W.Frag) (cls : Value) (d : Option Addr) (a : Addr) : List V → Hp → VK → Prop := fun xs H Q => ∃ (D : Addr) (c : V) (cv : Value) (b : Bool), cls = .ref D ∧ d = none ∧ ExcC K D ∧ xs = [.ref a, c] ∧ (∀ u, RelV c u → u = cv) ∧ PySem.W.kitOne K (.ref D) cv = some b ∧ Q (.bl b) H
theorem call_isE2 {X : Cx} {a : Addr} {cls : Value} {d : Option Addr} {oe : Obj} {pn : List (Addr × Obj)} (hz : Zc cls d oe) (hf : ∃ vs, oe.data = .fields vs) : CallR (X.suite a ((a, oe) :: pn)) (.builtin "isinstance") (rIsE2 X.K cls d a) := by
  intro pins s σ H xs us Q I r h
  obtain ⟨D, c, cv, b, rfl, rfl, C, e, hcv, hk, q⟩ := h
  exact call_isE C hz hf pins s σ H xs us Q I r ⟨c, cv, b, e, hcv, hk, q⟩

/-- where an exception is, the slots are as many as the names -/
theorem takes_len {X : Cx} {W : WX} (t : Takes X W) : Takes X (fun c d σ H => σ.length = X.N.length → W c d σ H) := fun u s' x => by
  obtain ⟨a, B, sI, pins, σ, H, cls, d, e, I, x1, x2, x3, x4, x5, x6, q⟩ := x
  exact t u s' ⟨a, B, sI, pins, σ, H, cls, d, e, I, x1, x2, x3, x4, x5, x6, q I.len⟩

/-! ### built-ins by name -/
def rLen (K : PySem.W.Frag) : List V → Hp → VK → Prop := fun xs H Q => ∃ p ys, xs = [.ref p] ∧ (SqL K H p ys ∨ SqT K H p ys) ∧ Q (.int ys.length) H
theorem call_len1 {X : Cx} : CallR X (.builtin "len") (rLen X.K) := call_len_seq
def rListOf (K : PySem.W.Frag) : List V → Hp → VK → Prop := fun xs H Q => ∃ p ys, xs = [.ref p] ∧ (SqL K H p ys ∨ SqT K H p ys) ∧ ∀ l, H l = none → Q (.ref l) (upd H l (.lst ys))
theorem call_list1 {X : Cx} : CallR X (.type "list") (rListOf X.K) := call_list_of
def rMax2 : List V → Hp → VK → Prop := fun xs H Q => ∃ i j, xs = [.int i, .int j] ∧ Q (.int (if j > i then j else i)) H
theorem call_max1 {X : Cx} (hc : X.calm = true) : CallR X (.builtin "max") rMax2 := call_max2 hc
def rMin2 : List V → Hp → VK → Prop := fun xs H Q => ∃ i j, xs = [.int i, .int j] ∧ Q (.int (if j < i then j else i)) H
theorem call_min1 {X : Cx} (hc : X.calm = true) : CallR X (.builtin "min") rMin2 := call_min2 hc
def rInt1 : List V → Hp → VK → Prop := fun xs H Q => (∃ i, xs = [.int i] ∧ Q (.int i) H) ∨ ∃ k, xs = [.bl k] ∧ Q (.int (if k then 1 else 0)) H
theorem call_intB {X : Cx} : CallR X (.type "int") rInt1 := call_int1

def rIsN : R2 := fun x y H Q => y = .non ∧ Q (.bl (decide (x = .non))) H
theorem op_isN1 {X : Cx} : OpR X (compareOp .Is) rIsN := op_isN
def rNotN : R2 := fun x y H Q => y = .non ∧ Q (.bl (!decide (x = .non))) H
theorem op_notN1 {X : Cx} : OpR X (compareOp .IsNot) rNotN := op_notN

/-! ### steps -/
section
variable {σ : L2.St} {H : Hp} {Q : VK} {QB : Bool → Hp → Prop} {QA : List V → Hp → Prop} {i : Nat} {v x y : V} {ta tb tc te : TE} {t u : TT} {ts us : TS} {D : Ends} {n m : Int} {K : PySem.W.Frag} {r r' r2 : R2}
theorem g_var (h : σ[i]? = some (some v)) (q : Q v H) : tVar i σ H Q := ⟨v, h, q⟩
theorem g_c (q : Q v H) : tC v σ H Q := q
theorem g_op (h : ta σ H fun x H1 => tb σ H1 fun y H2 => r x y H2 Q) : tOp r ta tb σ H Q := h
theorem g_un {r : V → Hp → VK → Prop} (h : ta σ H fun x H1 => r x H1 Q) : tUn r ta σ H Q := h
theorem g_I0 {g : Int → Int → V} (q : Q (g n m) H) : rI0 g (.int n) (.int m) H Q := ⟨n, m, rfl, rfl, q⟩
theorem g_I {C : Int → Int → Prop} {g : Int → Int → V} (c : C n m) (q : Q (g n m) H) : rI C g (.int n) (.int m) H Q := ⟨n, m, rfl, rfl, c, q⟩
theorem g_U {g : Int → V} (q : Q (g n) H) : rU g (.int n) H Q := ⟨n, rfl, q⟩
theorem g_eqI (q : Q (.bl (decide (n = m))) H) : rEq (.int n) (.int m) H Q := ⟨rfl, by
  have e : decide (V.int n = V.int m) = decide (n = m) := by by_cases h : n = m <;> simp [h]
  rw [e]; exact q⟩
theorem g_neI (q : Q (.bl (!decide (n = m))) H) : rNe (.int n) (.int m) H Q := ⟨rfl, by
  have e : decide (V.int n = V.int m) = decide (n = m) := by by_cases h : n = m <;> simp [h]
  rw [e]; exact q⟩
theorem g_eqS {a b : Str} (q : Q (.bl (decide (a = b))) H) : rEq (.str a) (.str b) H Q := ⟨rfl, by
  have e : decide (V.str a = V.str b) = decide (a = b) := by by_cases h : a = b <;> simp [h]
  rw [e]; exact q⟩
theorem g_neS {a b : Str} (q : Q (.bl (!decide (a = b))) H) : rNe (.str a) (.str b) H Q := ⟨rfl, by
  have e : decide (V.str a = V.str b) = decide (a = b) := by by_cases h : a = b <;> simp [h]
  rw [e]; exact q⟩
theorem g_eqB {a b : Bool} (q : Q (.bl (a == b)) H) : rEq (.bl a) (.bl b) H Q := ⟨rfl, by
  have e : decide (V.bl a = V.bl b) = (a == b) := by cases a <;> cases b <;> rfl
  rw [e]; exact q⟩
theorem g_neB {a b : Bool} (q : Q (.bl (a != b)) H) : rNe (.bl a) (.bl b) H Q := ⟨rfl, by
  have e : (!decide (V.bl a = V.bl b)) = (a != b) := by cases a <;> cases b <;> rfl
  rw [e]; exact q⟩
theorem g_isN (q : Q (.bl (decide (x = .non))) H) : rIsN x .non H Q := ⟨rfl, q⟩
theorem g_notN (q : Q (.bl (!decide (x = .non))) H) : rNotN x .non H Q := ⟨rfl, q⟩
theorem g_test (h : te σ H fun x H' => ∃ k, x = .bl k ∧ QB k H') : tTest te σ H QB := h
theorem g_tB (h : te σ H fun x H' => ∃ k, x = .bl k ∧ QB k H') : tB te σ H QB := h
theorem g_bl {b : Bool} (q : QB b H) : ∃ k, V.bl b = .bl k ∧ QB k H := ⟨b, rfl, q⟩
theorem g_and (h : t σ H fun c H1 => if c = true then u σ H1 QB else QB false H1) : tAnd t u σ H QB := h
theorem g_or (h : t σ H fun c H1 => if c = true then QB true H1 else u σ H1 QB) : tOr t u σ H QB := h
theorem g_not (h : t σ H fun c H1 => QB (!c) H1) : tNot t σ H QB := h
theorem g_andV (h : ta σ H fun x H1 => ∃ c, x = .bl c ∧ if c = true then tb σ H1 Q else Q (.bl false) H1) : tAndV ta tb σ H Q := h
theorem g_orV (h : ta σ H fun x H1 => ∃ c, x = .bl c ∧ if c = true then Q (.bl true) H1 else tb σ H1 Q) : tOrV ta tb σ H Q := h
theorem g_notV (h : ta σ H fun x H1 => ∃ c, x = .bl c ∧ Q (.bl (!c)) H1) : tNotV ta σ H Q := h
theorem g_blI {b : Bool} {p : Bool → Prop} (q : p b) : ∃ k, V.bl b = .bl k ∧ p k := ⟨b, rfl, q⟩
theorem g_if (h : t σ H fun c H1 => if c = true then ta σ H1 Q else tb σ H1 Q) : tIf t ta tb σ H Q := h
theorem g_chain (h : ta σ H fun x H1 => tb σ H1 fun y H2 => r x y H2 fun z H3 => ∃ k, z = .bl k ∧ (if k = true then tc σ H3 fun w' H4 => r' y w' H4 Q else Q (.bl false) H3)) : tChain r r' ta tb tc σ H Q := h
theorem g_chain3 {td : TE} (h : ta σ H fun x H1 => tb σ H1 fun y H2 => r x y H2 fun z H3 => ∃ k, z = .bl k ∧
  (if k = true then tc σ H3 fun w' H4 => r' y w' H4 fun z2 H5 => ∃ k2, z2 = .bl k2 ∧ (if k2 = true then td σ H5 fun w2 H6 => r2 w' w2 H6 Q else Q (.bl false) H5) else Q (.bl false) H3)) : tChain3 r r' r2 ta tb tc td σ H Q := h
theorem g_nil (q : QA [] H) : tNil σ H QA := q
theorem g_cons {tr : TA} (h : ta σ H fun x H1 => tr σ H1 fun xs H2 => QA (x :: xs) H2) : tCons ta tr σ H QA := h
theorem g_tup {tr : TA} (h : tr σ H fun xs H1 => xs.length ≤ sizeLine ∧ ∀ p, H1 p = none → Q (.ref p) (upd H1 p (.tup xs))) : tTup tr σ H Q := h
theorem g_lst {tr : TA} (h : tr σ H fun xs H1 => xs.length ≤ sizeLine ∧ ∀ p, H1 p = none → Q (.ref p) (upd H1 p (.lst xs))) : tLst tr σ H Q := h
theorem g_CB {r : List V → Hp → VK → Prop} {tr : TA} (h : tr σ H fun vs H1 => r vs H1 Q) : tCB r tr σ H Q := h
theorem g_call {sp : Sp} {dvs : List V} {E : XK} {tr : TA} (h : tr σ H fun vs H1 => sp (vs ++ dvs) H1 Q E) : tCall sp dvs E tr σ H Q := h
theorem g_callS {sp : Sp} {E : L2.St → XK} {tr : TA} (h : tr σ H fun vs H1 => sp vs H1 Q (E σ)) : tCallS sp E tr σ H Q := h
theorem g_bm {T : String} {r : V → List V → Hp → VK → Prop} {tr : TA} (h : ta σ H fun x H1 => tyV K T x H1 ∧ tr σ H1 fun xs H2 => r x xs H2 Q) : tBM K T r ta tr σ H Q := h
theorem g_bm0 {T : String} {r : V → List V → Hp → VK → Prop} (h : ta σ H fun x H1 => tyV K T x H1 ∧ r x [] H1 Q) : tBM0 K T r ta σ H Q := h
theorem g_sl {r : V → Option Int → Option Int → Hp → VK → Prop} {tl th : TO} (h : te σ H fun x H1 => tl σ H1 fun l H2 => th σ H2 fun u H3 => r x l u H3 Q) : tSl r te tl th σ H Q := h
theorem g_part {QO : Option Int → Hp → Prop} (h : te σ H fun x H1 => ∃ i, x = .int i ∧ QO (some i) H1) : tPart te σ H QO := h
theorem g_part1 {p : Int → Prop} (h : p n) : ∃ i, V.int n = .int i ∧ p i := ⟨n, rfl, h⟩
theorem g_noPart {QO : Option Int → Hp → Prop} (h : QO none H) : tNoPart σ H QO := h
-- statements
theorem g_seq {a : L2.St → Hp → Prop} {b : VK} {c d : L2.St → Hp → Prop} (h : ts ⟨us ⟨a, b, c, d⟩, b, c, d⟩ σ H) : tSeq ts us ⟨a, b, c, d⟩ σ H := h
theorem g_fit {xs : List V} {R : Addr → Prop} (hl : Nat.ble xs.length 1000 = true) (q : ∀ p, H p = none → R p) : xs.length ≤ sizeLine ∧ ∀ p, H p = none → R p := ⟨Nat.le_trans (Nat.le_of_ble_eq_true hl) (by decide), q⟩
theorem g_next (h : D.nx σ H) : tNext D σ H := h
theorem g_asg {g : TG} (h : te σ H fun x H1 => g x σ H1 D.nx) : tAsg te g D σ H := h
theorem g_name {Qg : L2.St → Hp → Prop} (h : Qg (σ.set i (some v)) H) : gName i v σ H Qg := h
theorem g_sub {to ti : TE} {t : TSet} {Qg : L2.St → Hp → Prop} (h : to σ H fun o H1 => ti σ H1 fun i H2 => t o i v H2 fun H3 => Qg σ H3) : gSub to ti t v σ H Qg := h
theorem g_gnil {Qg : L2.St → Hp → Prop} (h : Qg σ H) : gNil [] σ H Qg := ⟨rfl, h⟩
theorem g_gcons {tg : TG} {ug : TGs} {vs : List V} {Qg : L2.St → Hp → Prop} (h : tg v σ H fun σ' H' => ug vs σ' H' Qg) : gCons tg ug (v :: vs) σ H Qg := ⟨v, vs, rfl, h⟩
theorem g_drop (h : te σ H fun _ H1 => D.nx σ H1) : tDrop te D σ H := h
theorem g_ret (h : te σ H D.rt) : tRet te D σ H := h
theorem g_retN (h : D.rt .non H) : tRetN D σ H := h
theorem g_brk (h : D.bk σ H) : tBreak D σ H := h
theorem g_cont (h : D.ct σ H) : tCont D σ H := h
theorem g_ifS (h : t σ H fun b H1 => if b = true then ts D σ H1 else us D σ H1) : tIfS t ts us D σ H := h
theorem g_nx {a : L2.St → Hp → Prop} {b : VK} {c d : L2.St → Hp → Prop} (h : a σ H) : Ends.nx ⟨a, b, c, d⟩ σ H := h
theorem g_bk {a : L2.St → Hp → Prop} {b : VK} {c d : L2.St → Hp → Prop} (h : c σ H) : Ends.bk ⟨a, b, c, d⟩ σ H := h
theorem g_ct {a : L2.St → Hp → Prop} {b : VK} {c d : L2.St → Hp → Prop} (h : d σ H) : Ends.ct ⟨a, b, c, d⟩ σ H := h
theorem g_rt {a : L2.St → Hp → Prop} {b : VK} {c d : L2.St → Hp → Prop} (h : b v H) : Ends.rt ⟨a, b, c, d⟩ v H := h
theorem g_rng1 {tr : TA} {R : It → Hp → Prop} (h : tr σ H fun vs H1 => ∃ j : Int, vs = [.int j] ∧ -(2 ^ 62) ≤ j ∧ j < 2 ^ 62 ∧ R (Itr 0 j.toNat) H1) : iRng1 tr σ H R := h
theorem g_rng2 {tr : TA} {R : It → Hp → Prop} (h : tr σ H fun vs H1 => ∃ i j : Int, vs = [.int i, .int j] ∧ (-(2 ^ 62) ≤ i ∧ i < 2 ^ 62 ∧ -(2 ^ 62) ≤ j ∧ j < 2 ^ 62) ∧ R (Itr i (j - i).toNat) H1) : iRng2 tr σ H R := h
theorem g_iList {R : It → Hp → Prop} (h : te σ H fun x H1 => ∃ a, x = .ref a ∧ (∃ xs, SqL K H1 a xs) ∧ R (Itl K a) H1) : iList K te σ H R := h
theorem g_iTup {R : It → Hp → Prop} (h : te σ H fun x H1 => ∃ a, x = .ref a ∧ (∃ xs, SqT K H1 a xs) ∧ R (Itt K a) H1) : iTup K te σ H R := h
def ForEnd (g : TG) (tb : TS) (a : L2.St → Hp → Prop) (b : VK) (σ : L2.St) (J : It) (H1 : Hp) : Prop := ∃ W : Nat → Nat → L2.St → Hp → Prop, (∃ m, W 0 m σ H1) ∧ ∀ i m σ H, W i m σ H →
  (J.stop i H ∧ a σ H) ∨ (J.go i H ∧ ∃ N : L2.St → Hp → Prop, (∀ σ' H', N σ' H' → ∃ m', m' < m ∧ W (i + 1) m' σ' H') ∧ ∀ x H', J.yld i H x H' → g x σ H' fun σ2 H2 => tb ⟨N, b, a, N⟩ σ2 H2)
theorem g_for {a : L2.St → Hp → Prop} {b : VK} {c d : L2.St → Hp → Prop} {wi : TI} {g : TG} {tb : TS} (h : wi σ H (ForEnd g tb a b σ)) : tFor wi g tb ⟨a, b, c, d⟩ σ H := h
theorem w_list {a : L2.St → Hp → Prop} {b : VK} {g : TG} {tb : TS} {p : Addr} {xs : List V} (Pv : Nat → L2.St → Hp → Prop) (h0 : Pv 0 σ H) (hl : ∀ i σ H, i ≤ xs.length → Pv i σ H → SqL K H p xs)
    (hs : ∀ i x σ H, xs[i]? = some x → Pv i σ H → g x σ H fun σ2 H2 => tb ⟨Pv (i + 1), b, a, Pv (i + 1)⟩ σ2 H2) (hd : ∀ σ H, Pv xs.length σ H → a σ H) : ∃ q, V.ref p = .ref q ∧ (∃ xs, SqL K H q xs) ∧ ForEnd g tb a b σ (Itl K q) H :=
  ⟨p, rfl, ⟨xs, hl 0 σ H (Nat.zero_le _) h0⟩, for_list (D := ⟨a, b, fun _ _ => False, fun _ _ => False⟩) Pv h0 hl hs hd⟩
theorem w_tup {a : L2.St → Hp → Prop} {b : VK} {g : TG} {tb : TS} {p : Addr} {xs : List V} (Pv : Nat → L2.St → Hp → Prop) (h0 : Pv 0 σ H) (hl : ∀ i σ H, i ≤ xs.length → Pv i σ H → SqT K H p xs)
    (hs : ∀ i x σ H, xs[i]? = some x → Pv i σ H → g x σ H fun σ2 H2 => tb ⟨Pv (i + 1), b, a, Pv (i + 1)⟩ σ2 H2) (hd : ∀ σ H, Pv xs.length σ H → a σ H) : ∃ q, V.ref p = .ref q ∧ (∃ xs, SqT K H q xs) ∧ ForEnd g tb a b σ (Itt K q) H :=
  ⟨p, rfl, ⟨xs, hl 0 σ H (Nat.zero_le _) h0⟩, for_tup (D := ⟨a, b, fun _ _ => False, fun _ _ => False⟩) Pv h0 hl hs hd⟩
/-- range(n) -/
theorem w_range {a : L2.St → Hp → Prop} {b : VK} {g : TG} {tb : TS} {n : Int} (h1 : -(2 ^ 62) ≤ n) (h2 : n < 2 ^ 62) (Pv : Nat → L2.St → Hp → Prop) (h0 : Pv 0 σ H)
    (hs : ∀ i σ H, i < n.toNat → Pv i σ H → g (.int i) σ H fun σ2 H2 => tb ⟨Pv (i + 1), b, a, Pv (i + 1)⟩ σ2 H2) (hd : ∀ σ H, Pv n.toNat σ H → a σ H) :
    ∃ j : Int, [V.int n] = [.int j] ∧ -(2 ^ 62) ≤ j ∧ j < 2 ^ 62 ∧ ForEnd g tb a b σ (Itr 0 j.toNat) H :=
  ⟨n, rfl, h1, h2, for_range (D := ⟨a, b, fun _ _ => False, fun _ _ => False⟩) Pv h0 (fun i σ H hi p => by have q := hs i σ H hi p; rw [Int.zero_add]; exact q) hd⟩
theorem w_while {a : L2.St → Hp → Prop} {b : VK} {c d : L2.St → Hp → Prop} {tc : TT} {tb : TS} (Pv : L2.St → Hp → Prop) (μ : L2.St → Hp → Nat) (h0 : Pv σ H)
    (hs : ∀ σ H, Pv σ H → tc σ H fun b' H1 => if b' = true then tb ⟨fun σ' H' => Pv σ' H' ∧ μ σ' H' < μ σ H, b, a, fun σ' H' => Pv σ' H' ∧ μ σ' H' < μ σ H⟩ σ H1 else a σ H1)
    (mono : ∀ σ H Q Q', (∀ b H1, Q b H1 → Q' b H1) → tc σ H Q → tc σ H Q') : tWhile tc tb ⟨a, b, c, d⟩ σ H := while_by Pv μ h0 hs mono
theorem g_itT {b : Bool} {A B : Prop} (h : b = true) (q : A) : if b = true then A else B := by rw [h]; exact iteT q
theorem g_itF {b : Bool} {A B : Prop} (h : b = false) (q : B) : if b = true then A else B := by rw [h]; exact iteF q
theorem g_ite {c : Prop} [Decidable c] {A B : Prop} (h1 : c → A) (h2 : ¬ c → B) : if decide c = true then A else B := by
  by_cases h : c
  · rw [decide_eq_true h]; exact iteT (h1 h)
  · rw [decide_eq_false h]; exact iteF (h2 h)
theorem g_iteN {c : Prop} [Decidable c] {A B : Prop} (h1 : ¬ c → A) (h2 : c → B) : if (!decide c) = true then A else B := by
  by_cases h : c
  · rw [decide_eq_true h]; exact iteF (h2 h)
  · rw [decide_eq_false h]; exact iteT (h1 h)
theorem g_len {p : Addr} {xs : List V} (h : SqL K H p xs ∨ SqT K H p xs) (q : Q (.int xs.length) H) : rLen K [.ref p] H Q := ⟨p, xs, rfl, h, q⟩
theorem g_ixL {p : Addr} {xs : List V} (h : SqL K H p xs) (ha : atI xs n = some v) (q : Q v H) : rIxL K (.ref p) (.int n) H Q := ⟨p, xs, n, v, rfl, rfl, h, ha, q⟩
theorem g_ixT {p : Addr} {xs : List V} (h : SqT K H p xs) (ha : atI xs n = some v) (q : Q v H) : rIxT K (.ref p) (.int n) H Q := ⟨p, xs, n, v, rfl, rfl, h, ha, q⟩
theorem g_setL {p : Addr} {xs : List V} {j : Nat} {q : Hp → Prop} (h : H p = some (.lst xs)) (hj : ixN xs.length n = some j) (k : q (upd H p (.lst (xs.set j v)))) : rSetL (.ref p) (.int n) v H q := ⟨p, xs, n, j, rfl, rfl, h, hj, k⟩
theorem mulW_small {i j : Int} (h1 : 0 ≤ i) (h2 : i < 2147483648) (h3 : 0 ≤ j) (h4 : j < 2147483648) : CMulW i j := wide_mul (a := 31) (b := 31) (by show _ < 2147483648; omega) (by show _ < 2147483648; omega) (by decide) (by decide) (by decide)
theorem divW_small {i j : Int} (h1 : 0 < j) (h2 : j < 10 ^ 38) : CDivW i j := wide_div (b := 127) h1 (by show _ < (2 : Nat) ^ 127; omega) (by decide) (by decide)
theorem g_append {p : Addr} {xs : List V} (h : H p = some (.lst xs)) (hl : xs.length < 100000) (q : Q .non (upd H p (.lst (xs ++ [v])))) : rAppend (.ref p) [v] H Q := ⟨p, xs, v, rfl, rfl, h, Nat.lt_of_lt_of_le hl (by decide), q⟩
theorem g_tyL {p : Addr} {xs : List V} {R : Prop} (h : H p = some (.lst xs)) (q : R) : tyV K "list" (.ref p) H ∧ R := ⟨.inl ⟨rfl, _, SqL.of h⟩, q⟩
theorem g_listOf {p : Addr} {xs : List V} (h : SqL K H p xs) (q : ∀ l, H l = none → Q (.ref l) (upd H l (.lst xs))) : rListOf K [.ref p] H Q := ⟨p, xs, rfl, .inl h, q⟩
theorem g_listOfT {p : Addr} {xs : List V} (h : SqT K H p xs) (q : ∀ l, H l = none → Q (.ref l) (upd H l (.lst xs))) : rListOf K [.ref p] H Q := ⟨p, xs, rfl, .inr h, q⟩
theorem g_int1B {b : Bool} (q : Q (.int (if b then 1 else 0)) H) : rInt1 [.bl b] H Q := .inr ⟨b, rfl, q⟩
theorem g_gtup {p : Addr} {xs : List V} {k : Nat} {tg : TGs} {Qg : L2.St → Hp → Prop} (h : SqT K H p xs) (hl : xs.length = k) (q : tg xs σ H Qg) : gTup K k tg (.ref p) σ H Qg := ⟨p, xs, rfl, h, hl, q⟩
theorem g_isi {c : V} {tv uv : Value} {b : Bool} (h1 : ClsV c uv) (h2 : TyX K H x tv) (h3 : PySem.W.kitOne K tv uv = some b) (q : Q (.bl b) H) : rIsi K [x, c] H Q := ⟨x, c, tv, uv, b, rfl, h1, h2, h3, q⟩
theorem g_max2 (q : Q (.int (if m > n then m else n)) H) : rMax2 [.int n, .int m] H Q := ⟨n, m, rfl, q⟩
theorem g_min2 (q : Q (.int (if m < n then m else n)) H) : rMin2 [.int n, .int m] H Q := ⟨n, m, rfl, q⟩
end

/-! ### heaps in which the list at S changes -/
def Frm (S : Addr) (H H' : Hp) : Prop := ∀ b o, b ≠ S → H b = some o → H' b = some o
theorem Frm.refl (S : Addr) (H : Hp) : Frm S H H := fun _ _ _ h => h
theorem Frm.trans {S : Addr} {H H1 H2 : Hp} (a : Frm S H H1) (b : Frm S H1 H2) : Frm S H H2 := fun c o n h => b c o n (a c o n h)
theorem Frm.of {S : Addr} {H H' : Hp} (e : Same H H') : Frm S H H' := fun b o _ h => e b o h
theorem Frm.set {S : Addr} {H : Hp} {o : HO} : Frm S H (upd H S o) := fun b u n h => by rw [upd_ne n]; exact h
theorem same_new {H : Hp} {p : Addr} {o : HO} (h : H p = none) : Same H (upd H p o) := fun b u e => by rw [upd_ne (ne_of_none e h)]; exact e
/-- what may be read at a, whatever becomes of S -/
def ScL (K : PySem.W.Frag) (S : Addr) (H : Hp) (a : Addr) (xs : List V) : Prop := (a ≠ S ∧ Rd H a (.lst xs)) ∨ ∀ H', SqL K H' a xs
theorem ScL.sq {K : PySem.W.Frag} {S : Addr} {H : Hp} {a : Addr} {xs : List V} (h : ScL K S H a xs) : SqL K H a xs := by
  rcases h with ⟨_, h⟩ | h
  · exact .inl h
  · exact h H
theorem ScL.frm {K : PySem.W.Frag} {S : Addr} {H H' : Hp} {a : Addr} {xs : List V} (h : ScL K S H a xs) (f : Frm S H H') : ScL K S H' a xs := by
  rcases h with ⟨n, h⟩ | h
  · refine .inl ⟨n, ?_⟩
    rcases h with h | ⟨o, h⟩
    · exact .inl (f _ _ n h)
    · exact .inr ⟨o, f _ _ n h⟩
  · exact .inr h
theorem ScL.of {K : PySem.W.Frag} {S : Addr} {H H' : Hp} {a : Addr} {xs : List V} (h : SqL K H a xs) (e : Same H H') (n : H S = none) : ScL K S H' a xs := by
  rcases h with h | h
  · rcases h with h | ⟨o, h⟩
    · exact .inl ⟨ne_of_none h n, .inl (e _ _ h)⟩
    · exact .inl ⟨ne_of_none h n, .inr ⟨o, e _ _ h⟩⟩
  · exact .inr fun H' => .inr h
/-- the drawing's state at S; what B tracks stands as it stood -/
def Dst (K : PySem.W.Frag) (B H : Hp) (S : Addr) : Prop := ∃ (sc : Addr) (ns : List Int) (c m r : Int), H S = some (.lst [.ref sc, .int c, .int m, .int r]) ∧ ScL K S B sc (ns.map V.int) ∧ Frm S B H ∧ ns.length ≤ 63 ∧ 0 ≤ c ∧ 0 ≤ m ∧ m < 2147483647
theorem Dst.same {K : PySem.W.Frag} {B H H' : Hp} {S : Addr} (d : Dst K B H S) (e : Same H H') : Dst K B H' S := by
  obtain ⟨sc, ns, c, m, r, h1, h2, h3, h4⟩ := d
  exact ⟨sc, ns, c, m, r, e _ _ h1, h2, h3.trans (.of e), h4⟩
theorem Dst.has {K : PySem.W.Frag} {B H : Hp} {S : Addr} (d : Dst K B H S) : H S ≠ none := by
  obtain ⟨sc, ns, c, m, r, h1, _⟩ := d
  rw [h1]; exact fun z => nomatch z
theorem Dst.ne {K : PySem.W.Frag} {B H : Hp} {S p : Addr} (d : Dst K B H S) (h : H p = none) : p ≠ S := fun e => d.has (e ▸ h)
theorem Dst.fresh {K : PySem.W.Frag} {B H : Hp} {S p : Addr} (d : Dst K B H S) (h : H p = none) : B p = none := by
  have n := d.ne h
  obtain ⟨sc, ns, c, m, r, h1, h2, h3, h4⟩ := d
  cases e : B p with
  | none => rfl
  | some o => rw [h3 p o n e] at h; cases h
/-- a thing that B does not know changes -/
theorem Dst.mut {K : PySem.W.Frag} {B H : Hp} {S p : Addr} {o : HO} (d : Dst K B H S) (n : p ≠ S) (h : B p = none) : Dst K B (upd H p o) S := by
  obtain ⟨sc, ns, c, m, r, h1, h2, h3, h4⟩ := d
  refine ⟨sc, ns, c, m, r, ?_, h2, fun b u hb e => ?_, h4⟩
  · rw [upd_ne n.symm]; exact h1
  · rw [upd_ne (ne_of_none e h)]; exact h3 b u hb e
theorem Frm.mut {S p : Addr} {H H' : Hp} {o : HO} (f : Frm S H H') (h : H p = none) : Frm S H (upd H' p o) := fun b u n e => by
  rw [upd_ne (ne_of_none e h)]; exact f b u n e
theorem Frm.new {S p : Addr} {H : Hp} {o : HO} (h : H p = none) : Frm S H (upd H p o) := .of (same_new h)
theorem Frm.back {S p : Addr} {H H' : Hp} (f : Frm S H H') (n : p ≠ S) (h : H' p = none) : H p = none := by
  cases e : H p with
  | none => rfl
  | some o => rw [f p o n e] at h; cases h
theorem Same.back {H H' : Hp} {p : Addr} (f : Same H H') (h : H' p = none) : H p = none := by
  cases e : H p with
  | none => rfl
  | some o => rw [f p o e] at h; cases h
theorem Same.mut {H H' : Hp} {p : Addr} {o : HO} (f : Same H H') (h : H p = none) : Same H (upd H' p o) := fun b u e => by
  rw [upd_ne (ne_of_none e h)]; exact f b u e
theorem pow_small {i j : Int} (h0 : 0 ≤ j) (h1 : j ≤ 1000) (h2 : i.natAbs < 2 ^ 32) : CPow i j := ⟨h0, by omega, Nat.lt_trans h2 (by decide)⟩
theorem atI_mem {xs : List V} {z : Int} (h0 : 0 ≤ z) (h1 : z < xs.length) : ∃ x, x ∈ xs ∧ atI xs z = some x := by
  have hl : z.toNat < xs.length := by omega
  exact ⟨xs[z.toNat], List.getElem_mem hl, at_of (j := z.toNat) (by omega) (List.getElem?_eq_getElem hl)⟩
theorem map_at {ns : List Int} {i : Nat} {x : V} (h : (ns.map V.int)[i]? = some x) : ∃ n, ns[i]? = some n ∧ x = V.int n := by
  rw [List.getElem?_map] at h
  cases hq : ns[i]? with
  | none => rw [hq] at h; cases h
  | some z => rw [hq] at h; exact ⟨z, rfl, (Option.some.inj h).symm⟩
/-- what stands beside S -/
def Live (S : Addr) (H : Hp) (L : List (Addr × HO)) : Prop := ∀ p ∈ L, p.1 ≠ S ∧ H p.1 = some p.2
theorem Live.nil {S : Addr} {H : Hp} : Live S H [] := fun _ h => (List.not_mem_nil h).elim
theorem Live.frm {S : Addr} {H H' : Hp} {L : List (Addr × HO)} (l : Live S H L) (f : Frm S H H') : Live S H' L := fun p h => ⟨(l p h).1, f _ _ (l p h).1 (l p h).2⟩
theorem Live.cons {S : Addr} {H : Hp} {L : List (Addr × HO)} {a : Addr} {o : HO} (l : Live S H L) (n : a ≠ S) (h : H a = some o) : Live S H ((a, o) :: L) := fun p hp => by
  rcases List.mem_cons.mp hp with e | e
  · subst e; exact ⟨n, h⟩
  · exact l p e
theorem Live.get {S : Addr} {H : Hp} {L : List (Addr × HO)} (l : Live S H L) (i : Nat) {a : Addr} {o : HO} (h : L[i]? = some (a, o)) : H a = some o := (l _ (List.mem_of_getElem? h)).2
theorem Live.ne {S : Addr} {H : Hp} {L : List (Addr × HO)} (l : Live S H L) (i : Nat) {a : Addr} {o : HO} (h : L[i]? = some (a, o)) : a ≠ S := (l _ (List.mem_of_getElem? h)).1
/-- a new object is laid -/
theorem Live.new {S : Addr} {H : Hp} {L : List (Addr × HO)} {p : Addr} {o : HO} (l : Live S H L) (hp : H p = none) (hS : H S ≠ none) : Live S (upd H p o) ((p, o) :: L) :=
  (l.frm (.of (same_new hp))).cons (fun e => hS (e ▸ hp)) upd_same

/-! ### == of data -/
section
variable {K : PySem.W.Frag} {H : Hp} {Q : VK}
theorem dpAll_ints : ∀ ns : List Int, DpAll K H (ns.map V.int) (ns.map PyData.int)
  | [] => .nil
  | n :: ns => .cons (.int n) (dpAll_ints ns)
theorem dp_ints {a : Addr} {ns : List Int} (h : SqL K H a (ns.map V.int)) : Dp K H (.ref a) (.list (ns.map PyData.int)) := .lst h (dpAll_ints ns)
theorem eqvAll_ints : ∀ ns ms : List Int, PyData.eqvAll (ns.map PyData.int) (ms.map PyData.int) = decide (ns = ms)
  | [], [] => by simp [PyData.eqvAll]
  | [], _ :: _ => by simp [PyData.eqvAll]
  | _ :: _, [] => by simp [PyData.eqvAll]
  | n :: ns, m :: ms => by
    have ih := eqvAll_ints ns ms
    simp only [List.map_cons, PyData.eqvAll, ih, PyData.eqv]
    by_cases h1 : n = m <;> by_cases h2 : ns = ms <;> simp [h1, h2]
theorem eqv_ints (ns ms : List Int) : PyData.eqv (.list (ns.map PyData.int)) (.list (ms.map PyData.int)) = decide (ns = ms) := by
  rw [PyData.eqv]; exact eqvAll_ints ns ms
theorem g_eqLI {a b : Addr} {ns ms : List Int} (h1 : SqL K H a (ns.map V.int)) (h2 : SqL K H b (ms.map V.int)) (q : Q (.bl (decide (ns = ms))) H) : rEqD K (.ref a) (.ref b) H Q :=
  ⟨_, _, dp_ints h1, dp_ints h2, PySem.W.ke_shaped_ints ns, PySem.W.ke_shaped_ints ms, by rw [eqv_ints]; exact q⟩
theorem g_neLI {a b : Addr} {ns ms : List Int} (h1 : SqL K H a (ns.map V.int)) (h2 : SqL K H b (ms.map V.int)) (q : Q (.bl (!decide (ns = ms))) H) : rNeD K (.ref a) (.ref b) H Q :=
  ⟨_, _, dp_ints h1, dp_ints h2, PySem.W.ke_shaped_ints ns, PySem.W.ke_shaped_ints ms, by rw [eqv_ints]; exact q⟩
end
section
variable {σ : L2.St} {H : Hp}
/-- a while, by an invariant that bears its measure -/
theorem w_loop {a : L2.St → Hp → Prop} {b : VK} {c d : L2.St → Hp → Prop} {tc : TT} {tb : TS} (Pv : Nat → L2.St → Hp → Prop) (m0 : Nat) (h0 : Pv m0 σ H)
    (hs : ∀ m σ H, Pv m σ H → tc σ H fun b' H1 => if b' = true then ∃ N : L2.St → Hp → Prop, (∀ σ' H', N σ' H' → ∃ m', m' < m ∧ Pv m' σ' H') ∧ tb ⟨N, b, a, N⟩ σ H1 else a σ H1) : tWhile tc tb ⟨a, b, c, d⟩ σ H := ⟨Pv, ⟨m0, h0⟩, hs⟩
end
section
variable {K : PySem.W.Frag} {H : Hp} {Q : VK}
theorem g_slL {a : Addr} {xs : List V} {lo hi : Option Int} (h : SqL K H a xs) (q : ∀ p, H p = none → Q (.ref p) (upd H p (.lst (cutV xs lo hi)))) : rSlL K (.ref a) lo hi H Q := ⟨a, xs, rfl, h, q⟩
theorem cut1 (xs : List V) : cutV xs (some 1) none = xs.drop 1 := by
  unfold cutV
  rw [show (some (1 : Int)) = some ((1 : Nat) : Int) from rfl, HT.sIx_nat, HT.sIx_none]
  cases xs with
  | nil => rfl
  | cons x xs =>
    have e : min 1 (x :: xs).length = 1 := by simp
    rw [e]
    show List.take ((x :: xs).length - 1) xs = xs
    simp
end
theorem tup_same {K : PySem.W.Frag} {H H' : Hp} {a : Addr} {xs : List V} (e : Same H H') (h : SqT K H a xs) : SqT K H' a xs := by
  rcases h with (h | ⟨o, h⟩) | h
  · exact .inl (.inl (e _ _ h))
  · exact .inl (.inr ⟨o, e _ _ h⟩)
  · exact .inr h

/-! ### data: kinds, and as they stand later -/
section
variable {K : PySem.W.Frag} {H H' : Hp} {Q : VK} {σ : L2.St}
theorem ty_list {a : Addr} {xs : List V} (h : SqL K H a xs) : TyX K H (.ref a) (.type "list") := by
  rcases h with (h | ⟨o, h⟩) | h
  · exact .base (.lst h)
  · exact .base (.frz h)
  · obtain ⟨o, items, n, h1, h2, _⟩ := h
    exact .kList h1 h2
theorem ty_tup {a : Addr} {xs : List V} (h : SqT K H a xs) : TyX K H (.ref a) (.type "tuple") := by
  rcases h with (h | ⟨o, h⟩) | h
  · exact .base (.tup h)
  · exact .fTuple h
  · obtain ⟨o, items, n, h1, h2, _⟩ := h
    exact .kTuple h1 h2
theorem list_same {a : Addr} {xs : List V} (e : Same H H') (h : SqL K H a xs) : SqL K H' a xs := e.seq h
mutual
theorem Dp_same (e : Same H H') : ∀ (d : PyData) (v : V), Dp K H v d → Dp K H' v d
  | .none, _, h => by cases h; exact .non
  | .bool b, _, h => by cases h; exact .bl b
  | .int i, _, h => by cases h; exact .int i
  | .str x, _, h => by cases h; exact .str x
  | .list ds, _, h => by
    cases h with
    | lst hs ha => exact .lst (list_same e hs) (DpAll_same e ds _ ha)
  | .tuple ds, _, h => by
    cases h with
    | tup hs ha => exact .tup (tup_same e hs) (DpAll_same e ds _ ha)
  | .dict _, _, h => by cases h
theorem DpAll_same (e : Same H H') : ∀ (ds : List PyData) (vs : List V), DpAll K H vs ds → DpAll K H' vs ds
  | [], _, h => by cases h; exact .nil
  | d :: ds, _, h => by
    cases h with
    | cons h1 h2 => exact .cons (Dp_same e d _ h1) (DpAll_same e ds _ h2)
end
theorem DpAll.len : ∀ {vs : List V} {ds : List PyData}, DpAll K H vs ds → vs.length = ds.length
  | [], [], _ => rfl
  | _ :: _, _ :: _, .cons _ h => by rw [List.length_cons, List.length_cons, DpAll.len h]
theorem DpAll.at : ∀ {vs : List V} {ds : List PyData} {i : Nat} {d : PyData}, DpAll K H vs ds → ds[i]? = some d → ∃ v, vs[i]? = some v ∧ Dp K H v d
  | _, _, 0, d, .cons h _, e => by cases e; exact ⟨_, rfl, h⟩
  | _, _, i + 1, d, .cons _ h, e => DpAll.at (i := i) h e
/-- small data of the four flat kinds, lists and tuples, at most so deep -/
inductive OkD : Nat → PyData → Prop
  | non {n : Nat} : OkD n .none
  | bl {n : Nat} (b : Bool) : OkD n (.bool b)
  | int {n : Nat} (i : Int) : OkD n (.int i)
  | str {n : Nat} (x : Str) : OkD n (.str x)
  | lst {n : Nat} {ds : List PyData} : ds.length ≤ 100000 → (∀ d ∈ ds, OkD n d) → OkD (n + 1) (.list ds)
  | tup {n : Nat} {ds : List PyData} : ds.length ≤ 100000 → (∀ d ∈ ds, OkD n d) → OkD (n + 1) (.tuple ds)
theorem g_isiT {x : V} {tp : Addr} {cs : List V} {t : Value} {us : List Value} {b : Bool} (hT : H tp = some (.tup cs)) (hc : Paired ClsV cs us) (ty : TyX K H x t) (hk : PySem.W.kitAny K t us = some b) (q : Q (.bl b) H) : rIsiT K [x, .ref tp] H Q :=
  ⟨x, tp, cs, t, us, b, rfl, hT, hc, ty, hk, q⟩
/-- t is one of two built-in types, or none of them -/
theorem kit2 {t a b : String} {r1 r2 : Bool} (h1 : kitB t a = some r1) (h2 : kitB t b = some r2) : PySem.W.kitAny K (.type t) [.type a, .type b] = some (r1 || r2) := by
  refine kitAny_cons (kit_ty h1) (fun e => ?_) (fun e => by rw [e]; rfl)
  rw [e]
  exact kitAny_cons (kit_ty h2) (fun e2 => by rw [e2]; rfl) (fun e2 => by rw [e2]; rfl)
theorem g_isiB {x c : V} {tn cn : String} {b : Bool} (h1 : ClsV c (.type cn)) (h2 : TyX K H x (.type tn)) (h3 : kitB tn cn = some b) (q : Q (.bl b) H) : rIsi K [x, c] H Q := ⟨x, c, .type tn, .type cn, b, rfl, h1, h2, kit_ty h3, q⟩
def LcEnd (g : TG) (tt : TT) (te : TE) (vs : List Nat) (σ : L2.St) (Q : VK) (J : It) (H1 : Hp) : Prop := ∀ D, H1 D = none → ∃ W : Nat → Nat → Hp → Prop, (∃ m, W 0 m (upd H1 D (.lst []))) ∧ ∀ i m H, W i m H →
  (J.stop i H ∧ Q (.ref D) H) ∨ (J.go i H ∧ ∃ Nx : Hp → Prop, (∀ H', Nx H' → ∃ m', m' < m ∧ W (i + 1) m' H') ∧ ∀ x H', J.yld i H x H' → g x (wipe σ vs) H' fun σ2 H2 => wipe σ2 vs = wipe σ vs ∧ tt σ2 H2 fun b H3 =>
    if b = true then te σ2 H3 fun y H4 => ∃ acc, H4 D = some (.lst acc) ∧ acc.length < sizeLine ∧ Nx (upd H4 D (.lst (acc ++ [y]))) else Nx H3)
theorem g_lc {wi : TI} {g : TG} {tt : TT} {te : TE} {vs : List Nat} (h : wi σ H (LcEnd g tt te vs σ Q)) : tLc wi g tt te vs σ H Q := h
theorem g_yes {QB : Bool → Hp → Prop} (q : QB true H) : tYes σ H QB := q
theorem w_lcRange {g : TG} {tt : TT} {te : TE} {vs : List Nat} {n : Int} (h1 : -(2 ^ 62) ≤ n) (h2 : n < 2 ^ 62) (Pv : Addr → Nat → Hp → Prop) (h0 : ∀ D, H D = none → Pv D 0 (upd H D (.lst [])))
    (hs : ∀ D i H', H D = none → i < n.toNat → Pv D i H' → g (.int i) (wipe σ vs) H' fun σ2 H2 => wipe σ2 vs = wipe σ vs ∧ tt σ2 H2 fun b H3 =>
      if b = true then te σ2 H3 fun y H4 => ∃ acc, H4 D = some (.lst acc) ∧ acc.length < sizeLine ∧ Pv D (i + 1) (upd H4 D (.lst (acc ++ [y]))) else Pv D (i + 1) H3) (hd : ∀ D H', H D = none → Pv D n.toNat H' → Q (.ref D) H') :
    ∃ j : Int, [V.int n] = [.int j] ∧ -(2 ^ 62) ≤ j ∧ j < 2 ^ 62 ∧ LcEnd g tt te vs σ Q (Itr 0 j.toNat) H :=
  ⟨n, rfl, h1, h2, fun D hD => lc_range (Pv D) (h0 D hD) (fun i H' hi p => by have q := hs D i H' hD hi p; rw [Int.zero_add]; exact q) (fun H' p => hd D H' hD p)⟩
end

/-! ### tables of code objects beside the drawing -/
/-- H without its tables -/
def noT (H : Hp) : Hp := fun b => match H b with
  | some (.tbl _) => none
  | o => o
theorem noT_some {H : Hp} {b : Addr} {o : HO} (h : noT H b = some o) : H b = some o ∧ ∀ ps, o ≠ .tbl ps := by
  unfold noT at h
  split at h
  · cases h
  · rename_i n
    exact ⟨h, fun ps e => n ps (by rw [h, e])⟩
theorem noT_of {H : Hp} {b : Addr} {o : HO} (h : H b = some o) (n : ∀ ps, o ≠ .tbl ps) : noT H b = some o := by
  unfold noT
  split
  · rename_i ps e
    rw [h] at e
    exact absurd (Option.some.inj e) (n ps)
  · exact h
theorem noT_same (H : Hp) : Same (noT H) H := fun _ _ h => (noT_some h).1
theorem noT_list {K : PySem.W.Frag} {H : Hp} {a : Addr} {xs : List V} (h : SqL K H a xs) : SqL K (noT H) a xs := by
  rcases h with (h | ⟨o, h⟩) | h
  · exact .inl (.inl (noT_of h (fun _ z => nomatch z)))
  · exact .inl (.inr ⟨o, noT_of h (fun _ z => nomatch z)⟩)
  · exact .inr h
/-- all but S and the tables stays -/
theorem Dst.ext {K : PySem.W.Frag} {H0 H H' : Hp} {S : Addr} (d : Dst K (noT H0) H S) (e : LamX.ExtN H H') : Dst K (noT H0) H' S := by
  obtain ⟨sc, ns, c, m, r, h1, h2, h3, h4⟩ := d
  exact ⟨sc, ns, c, m, r, e _ _ h1 (fun _ z => nomatch z), h2, fun b o n h => e _ _ (h3 b o n h) (noT_some h).2, h4⟩
theorem tabs_frm {K : PySem.W.Frag} {B H H' : Hp} {S : Addr} {T : List (Addr × Str)} (t : LamX.Tabs T H) (d : Dst K B H S) (f : Frm S H H') : LamX.Tabs T H' := fun p hp => by
  obtain ⟨sc, ns, c, m, r, hS, _⟩ := d
  obtain ⟨ps, h1, h2, h3⟩ := t p hp
  refine ⟨ps, f _ _ (ne_of h1 hS (fun z => nomatch z)) h1, h2, fun pos cv hc => ?_⟩
  obtain ⟨c', e1, e2⟩ := h3 pos cv hc
  exact ⟨c', e1, f _ _ (ne_of e2 hS (fun z => nomatch z)) e2⟩
theorem tabs_same {H H' : Hp} {T : List (Addr × Str)} (t : LamX.Tabs T H) (e : Same H H') : LamX.Tabs T H' := t.ext e
section
variable {P : Program} {w : World} {K : PySem.W.Frag} {mg : Str → Option Value} {base : Heap}
/-- a def whose code object is told -/
theorem fn_code {k : Nat} {f : Addr} {name qual : Str} {params : Arguments} {body : List Stmt} {scope : Scope} {dV kV doc pm cdv ct oc : Value} {an od : Option Addr} {osl : Array (Option Value)} {N ps : List Str} {sp : Sp}
    (lk : K.lookup f = some ⟨oc, od, .func (PySem.W.fnOf name qual params body scope dV kV doc pm an cdv ct), osl⟩) (hcd : PySem.W.codeIn K cdv qual = true) (S : FnScope N ps scope) (len : ∀ vs H Q E, sp vs H Q E → vs.length = ps.length)
    (hbody : ∀ (A : Around) (outer : List Env) (s : Shared) (H : Hp) (vs : List V) (Q : VK) (E : XK), Room k (A.deeper (envOfC qual scope s.heap.objs.size f cdv)) → sp vs H Q E →
      ∃ t, PSs (cxOf C8.CX0 P w K mg base N qual scope f cdv A outer s H E).nox body t ∧ t { nx := fun _ H' => Q .non H', rt := Q } (L2.start N vs) H) :
    FnOk P w K mg base C8.CX0 (k + 1) f (PySem.W.fnOf name qual params body scope dV kV doc pm an cdv ct) ps sp :=
  fn_of lk hcd S len fun A outer s H vs Q E hr hsp => (hbody A outer s H vs Q E hr hsp).elim fun t h => ⟨t, h.1.nox, h.2⟩
end
theorem g_lam {T : List (Addr × Str)} {TT : (XK → Hp → VK → Prop) → Hp → VK → Prop} {t : XK → TE} {σ : L2.St} {H : Hp} {Q : VK} (h : LamX.Tabs T H) (q : ∀ H1, LamX.ExtN H H1 → LamX.Tabs T H1 → TT (fun E H' Q' => t E σ H' Q') H1 Q) : LamX.tLam T TT t σ H Q := ⟨h, q⟩
end Wd
local macro_rules | `(tactic| walk_at "go") => `(tactic| repeat (first
  | with_reducible refine Wd.g_seq ?_
  | with_reducible refine Wd.g_nx ?_
  | with_reducible refine Wd.g_asg ?_
  | ((with_reducible refine' Wd.g_var ?h1 ?_); (case h1 => exact rfl))
  | with_reducible refine Wd.g_c ?_
  | with_reducible refine Wd.g_op ?_
  | with_reducible refine Wd.g_un ?_
  | with_reducible refine Wd.g_I0 ?_
  | with_reducible refine Wd.g_U ?_
  | with_reducible refine Wd.g_eqI ?_
  | with_reducible refine Wd.g_neI ?_
  | with_reducible refine Wd.g_eqS ?_
  | with_reducible refine Wd.g_neS ?_
  | with_reducible refine Wd.g_eqB ?_
  | with_reducible refine Wd.g_neB ?_
  | with_reducible refine Wd.g_isN ?_
  | with_reducible refine Wd.g_notN ?_
  | with_reducible refine Wd.g_lc ?_
  | with_reducible refine Wd.g_yes ?_
  | with_reducible refine Wd.g_test ?_
  | with_reducible refine Wd.g_tB ?_
  | with_reducible refine Wd.g_bl ?_
  | with_reducible refine Wd.g_blI ?_
  | with_reducible refine Wd.g_and ?_
  | with_reducible refine Wd.g_or ?_
  | with_reducible refine Wd.g_not ?_
  | with_reducible refine Wd.g_andV ?_
  | with_reducible refine Wd.g_orV ?_
  | with_reducible refine Wd.g_notV ?_
  | with_reducible refine Wd.g_if ?_
  | with_reducible refine Wd.g_chain ?_
  | with_reducible refine Wd.g_chain3 ?_
  | with_reducible refine Wd.g_nil ?_
  | with_reducible refine Wd.g_cons ?_
  | with_reducible refine Wd.g_tup ?_
  | with_reducible refine Wd.g_lst ?_
  | with_reducible refine Wd.g_CB ?_
  | with_reducible refine Wd.g_call ?_
  | with_reducible refine Wd.g_callS ?_
  | with_reducible refine Wd.g_bm ?_
  | with_reducible refine Wd.g_bm0 ?_
  | with_reducible refine Wd.g_sl ?_
  | with_reducible refine Wd.g_part ?_
  | with_reducible refine Wd.g_part1 ?_
  | with_reducible refine Wd.g_noPart ?_
  | with_reducible refine Wd.g_next ?_
  | with_reducible refine Wd.g_name ?_
  | with_reducible refine Wd.g_sub ?_
  | with_reducible refine Wd.g_gnil ?_
  | with_reducible refine Wd.g_gcons ?_
  | with_reducible refine Wd.g_drop ?_
  | with_reducible refine Wd.g_ret ?_
  | with_reducible refine Wd.g_retN ?_
  | with_reducible refine Wd.g_brk ?_
  | with_reducible refine Wd.g_cont ?_
  | with_reducible refine Wd.g_ifS ?_
  | with_reducible refine Wd.g_bk ?_
  | with_reducible refine Wd.g_ct ?_
  | with_reducible refine Wd.g_rt ?_
  | with_reducible refine Wd.g_for ?_
  | with_reducible refine Wd.g_rng1 ?_
  | with_reducible refine Wd.g_rng2 ?_
  | with_reducible refine Wd.g_iList ?_
  | with_reducible refine Wd.g_iTup ?_
  | ((with_reducible refine Wd.g_fit ?h1 ?_); (case h1 => exact rfl))
  | with_reducible refine Wd.g_max2 ?_
  | with_reducible refine Wd.g_min2 ?_
  | with_reducible refine Wd.g_int1B ?_
  | with_reducible refine L2.iteT ?_
  | with_reducible refine L2.iteF ?_
  | ((with_reducible refine Wd.g_itT ?h1 ?_); (case h1 => exact rfl))
  | ((with_reducible refine Wd.g_itF ?h1 ?_); (case h1 => exact rfl))))
/-! Plans as data; tuples that are repeated, made of lists; lists within comprehensions. -/
namespace Wd
open PySem PySem.Spec PyProof.Rows L2

/-! ### t * k, k from 0 on -/
theorem mul_once (l : Addr) (items : Array Value) (n : Nat) (dd : Option Addr) (sl : Array (Option Value)) (u : Tok) :
    Meets (Builtin.«tuple.__mul__» ⟨[.ref l, .int 1 u], []⟩) (fun _ R s => s.heap.get? l = some { cls := .type "tuple", dict := dd, data := .seq items n, slots := sl } ∧ R (.ok (.ret (Value.ref l))) s) :=
  .of_wp fun prog w A R s h => by
    obtain ⟨hp, g, d, tk, os⟩ := s
    obtain ⟨hl, q⟩ := h
    have one := AutoSeq1.idx_int
    wp_walk using AutoSeq1.wpAny_loadPart' hl
    exact ⟨_, rfl, q⟩
theorem mul_none (l : Addr) (items : Array Value) (n : Nat) (dd : Option Addr) (sl : Array (Option Value)) (u : Tok) (h2 : items.isEmpty = false) :
    Meets (Builtin.«tuple.__mul__» ⟨[.ref l, .int 0 u], []⟩) (fun _ R s => s.heap.get? l = some { cls := .type "tuple", dict := dd, data := .seq items n, slots := sl } ∧
      R (.ok (.ret (Value.ref s.heap.objs.size))) { s with heap := s.heap.push { cls := Value.type "tuple", data := Data.seq #[] }, toks := s.toks }) :=
  .of_wp fun prog w A R s h => by
    obtain ⟨hp, g, d, tk, os⟩ := s
    obtain ⟨hl, q⟩ := h
    have one := AutoSeq1.idx_int
    wp_walk using AutoSeq1.wpAny_loadPart' hl
    exact ⟨_, rfl, q⟩
def rRepU (K : PySem.W.Frag) : R2 := fun x y H Q => ∃ (l : Addr) (k : Int) (xs : List V), x = .ref l ∧ y = .int k ∧ SqT K H l xs ∧ xs ≠ [] ∧ 0 ≤ k ∧ k ≤ 1000 ∧ xs.length ≤ 1000 ∧ (k = 1 → Q (.ref l) H) ∧
  (k ≠ 1 → ∀ p, H p = none → Q (.ref p) (upd H p (.tup (List.replicate k.toNat xs).flatten)))
section
variable {X : Cx}
theorem op_repU : OpR X (binaryOp .Mult) (rRepU X.K) := by
  intro pins s σ H x y v u Q I rx ry h
  obtain ⟨l, k, xs, rfl, rfl, hT, hne, h0, h1, hz, q1, q2⟩ := h
  by_cases c2 : 2 ≤ k
  · exact op_repT pins s σ H _ _ _ _ Q I rx ry ⟨l, k, xs, rfl, rfl, hT, hne, c2, h1, hz, q2 (by omega)⟩
  · cases rx
    obtain ⟨t, rfl⟩ := ry
    obtain ⟨its, r, ⟨⟨cls, dd, data, sl⟩, ho, hc, n, hd⟩, hs⟩ := I.tuple hT
    simp only at hc hd
    subst hc hd
    have c01 : k = 0 ∨ k = 1 := by omega
    rcases c01 with rfl | rfl
    · have hem : its.toArray.isEmpty = false := by
        cases r with
        | nil => exact absurd rfl hne
        | cons _ _ => rfl
      refine wpAny_binaryOp_repeat_ref (T := "tuple") (U := "int") (by decide) ⟨_, ho, rfl⟩ (fun s' => typeIs_int s' 0 t) noFill_tuple_mul F.fills_int_mul F.slot_int_rmul repeat_tuple F.slot_int_index.lookup (call_meets F.slot_int_rmul (typeIs_int s 0 t) F.entry_int_rmul (F.args_int_rmul_2 _ _)
        (int_rmul_tuple 0 t l its.toArray n dd sl) ⟨ho, rfl, ⟨_, ho, rfl⟩, call_meets F.slot_tuple_mul ⟨_, ho, rfl⟩ F.entry_tuple_mul (F.args_tuple_mul_2 _ _) (mul_none l its.toArray n dd sl t hem) ⟨ho, ?_⟩⟩)
      refine ⟨.ref s.heap.objs.size, _, I.laid (t' := s.toks) (o := .tup []) (fun b ob z => Heap.get?_push_of_some _ z) (Nat.le_refl _) ?_, rfl, q2 (by decide) _ (I.hok.fresh (Nat.le_refl _))⟩
      exact ⟨Nat.zero_le _, [], .nil, IsTup.new _ _⟩
    · refine wpAny_binaryOp_repeat_ref (T := "tuple") (U := "int") (by decide) ⟨_, ho, rfl⟩ (fun s' => typeIs_int s' 1 t) noFill_tuple_mul F.fills_int_mul F.slot_int_rmul repeat_tuple F.slot_int_index.lookup (call_meets F.slot_int_rmul (typeIs_int s 1 t) F.entry_int_rmul (F.args_int_rmul_2 _ _)
        (int_rmul_tuple 1 t l its.toArray n dd sl) ⟨ho, rfl, ⟨_, ho, rfl⟩, call_meets F.slot_tuple_mul ⟨_, ho, rfl⟩ F.entry_tuple_mul (F.args_tuple_mul_2 _ _) (mul_once l its.toArray n dd sl t) ⟨ho, ?_⟩⟩)
      exact ⟨.ref l, H, I, rfl, q1 rfl⟩
end

/-! ### more steps -/
def rTupOf (K : PySem.W.Frag) : List V → Hp → VK → Prop := fun xs H Q => ∃ p ys, xs = [.ref p] ∧ ((SqL K H p ys ∧ ∀ l, H l = none → Q (.ref l) (upd H l (.tup ys))) ∨ (SqT K H p ys ∧ Q (.ref p) H))
theorem call_tuple1 {X : Cx} : CallR X (.type "tuple") (rTupOf X.K) := call_tuple_of
section
variable {K : PySem.W.Frag} {H H' : Hp} {Q : VK} {σ : L2.St} {x : V}
theorem g_tupOf {p : Addr} {ys : List V} (h : SqL K H p ys) (q : ∀ l, H l = none → Q (.ref l) (upd H l (.tup ys))) : rTupOf K [.ref p] H Q := ⟨p, ys, rfl, .inl ⟨h, q⟩⟩
theorem g_inT {p : Addr} {xs : List V} (h : SqT K H p xs) (fx : flatV x = true) (fs : xs.all flatV = true) (q : Q (.bl (inV x xs)) H) : rIn K false x (.ref p) H Q := ⟨p, xs, rfl, .inr h, fx, fs, q⟩
theorem g_notInT {p : Addr} {xs : List V} (h : SqT K H p xs) (fx : flatV x = true) (fs : xs.all flatV = true) (q : Q (.bl (!inV x xs)) H) : rIn K true x (.ref p) H Q := ⟨p, xs, rfl, .inr h, fx, fs, q⟩
theorem g_sum {a : Addr} {ns : List Int} (h : SqL K H a (ns.map V.int)) (q : Q (.int ns.sum) H) : rSum K [.ref a] H Q := ⟨a, ns, rfl, h, q⟩
theorem g_pop {l : Addr} {xs : List V} {y : V} (h : H l = some (.lst xs)) (hy : xs[xs.length - 1]? = some y) (q : Q y (upd H l (.lst xs.dropLast))) : rPop (.ref l) [] H Q := ⟨l, xs, y, rfl, rfl, h, hy, q⟩
theorem w_lcTup {g : TG} {tt : TT} {te : TE} {vs : List Nat} {p : Addr} {xs : List V} (hp : SqT K H p xs) (Pv : Addr → Nat → Hp → Prop) (h0 : ∀ D, H D = none → Pv D 0 (upd H D (.lst []))) (hl : ∀ D i H', H D = none → i ≤ xs.length → Pv D i H' → SqT K H' p xs)
    (hs : ∀ D i y H', H D = none → xs[i]? = some y → Pv D i H' → g y (wipe σ vs) H' fun σ2 H2 => wipe σ2 vs = wipe σ vs ∧ tt σ2 H2 fun b H3 =>
      if b = true then te σ2 H3 fun y H4 => ∃ acc, H4 D = some (.lst acc) ∧ acc.length < sizeLine ∧ Pv D (i + 1) (upd H4 D (.lst (acc ++ [y]))) else Pv D (i + 1) H3) (hd : ∀ D H', H D = none → Pv D xs.length H' → Q (.ref D) H') :
    ∃ q, V.ref p = .ref q ∧ (∃ xs, SqT K H q xs) ∧ LcEnd g tt te vs σ Q (Itt K q) H :=
  ⟨p, rfl, ⟨xs, hp⟩, fun D hD => lc_tup (Pv D) (h0 D hD) (fun i H' hi q => hl D i H' hD hi q) (fun i y H' hy q => hs D i y H' hD hy q) (fun H' q => hd D H' hD q)⟩
/-- the end of a comprehension's turn -/
theorem g_lcput {D : Addr} {acc : List V} {y : V} {N : Hp → Prop} (h : H D = some (.lst acc)) (hl : acc.length < 100000) (q : N (upd H D (.lst (acc ++ [y])))) : ∃ acc, H D = some (.lst acc) ∧ acc.length < sizeLine ∧ N (upd H D (.lst (acc ++ [y]))) := ⟨acc, h, Nat.lt_of_lt_of_le hl (by decide), q⟩
end

/-! ### plans -/
inductive Pl where
  | pat
  | work (a b : Int)
  | row (ps : List Pl)
  | either (ps : List Pl)
  | loop (a b : Int) (p : Pl)
/-- tuples stay -/
def KeepT (H H' : Hp) : Prop := ∀ b xs, H b = some (.tup xs) → H' b = some (.tup xs)
theorem KeepT.refl (H : Hp) : KeepT H H := fun _ _ h => h
theorem KeepT.trans {H H1 H2 : Hp} (a : KeepT H H1) (b : KeepT H1 H2) : KeepT H H2 := fun c xs h => b c xs (a c xs h)
theorem keepT_same {H H' : Hp} (e : Same H H') : KeepT H H' := fun b xs h => e b _ h
theorem keepT_new {H : Hp} {p : Addr} {o : HO} (h : H p = none) : KeepT H (upd H p o) := keepT_same (same_new h)
theorem keepT_lst {H : Hp} {p : Addr} {o : HO} {xs : List V} (h : H p = some (.lst xs)) : KeepT H (upd H p o) := fun b ys e => by rw [upd_ne (ne_of e h (fun z => nomatch z))]; exact e
theorem keepT_frm {K : PySem.W.Frag} {B H H' : Hp} {S : Addr} (d : Dst K B H S) (f : Frm S H H') : KeepT H H' := fun b xs h => by
  obtain ⟨sc, ns, c, m, r, hS, _⟩ := d
  exact f b _ (ne_of h hS (fun z => nomatch z)) h
mutual
inductive PlA (H : Hp) : V → Pl → Prop
  | pat {a : Addr} : H a = some (.tup [.str "pat"]) → PlA H (.ref a) .pat
  | work {a : Addr} {x y : Int} : H a = some (.tup [.str "work", .int x, .int y]) → PlA H (.ref a) (.work x y)
  | row {a b : Addr} {vs : List V} {ps : List Pl} : H a = some (.tup [.str "row", .ref b]) → H b = some (.tup vs) → PlAs H vs ps → PlA H (.ref a) (.row ps)
  | either {a b : Addr} {vs : List V} {ps : List Pl} : H a = some (.tup [.str "either", .ref b]) → H b = some (.tup vs) → PlAs H vs ps → PlA H (.ref a) (.either ps)
  | loop {a : Addr} {x y : Int} {u : V} {p : Pl} : H a = some (.tup [.str "loop", .int x, .int y, u]) → PlA H u p → PlA H (.ref a) (.loop x y p)
inductive PlAs (H : Hp) : List V → List Pl → Prop
  | nil : PlAs H [] []
  | cons {v : V} {vs : List V} {p : Pl} {ps : List Pl} : PlA H v p → PlAs H vs ps → PlAs H (v :: vs) (p :: ps)
end
mutual
theorem PlA_keep {H H' : Hp} (e : KeepT H H') : ∀ (p : Pl) (v : V), PlA H v p → PlA H' v p
  | .pat, _, h => by cases h with | pat h => exact .pat (e _ _ h)
  | .work _ _, _, h => by cases h with | work h => exact .work (e _ _ h)
  | .row ps, _, h => by cases h with | row h1 h2 h3 => exact .row (e _ _ h1) (e _ _ h2) (PlAs_keep e ps _ h3)
  | .either ps, _, h => by cases h with | either h1 h2 h3 => exact .either (e _ _ h1) (e _ _ h2) (PlAs_keep e ps _ h3)
  | .loop _ _ p, _, h => by cases h with | loop h1 h2 => exact .loop (e _ _ h1) (PlA_keep e p _ h2)
theorem PlAs_keep {H H' : Hp} (e : KeepT H H') : ∀ (ps : List Pl) (vs : List V), PlAs H vs ps → PlAs H' vs ps
  | [], _, h => by cases h; exact .nil
  | p :: ps, _, h => by cases h with | cons h1 h2 => exact .cons (PlA_keep e p _ h1) (PlAs_keep e ps _ h2)
end
theorem PlAs.len {H : Hp} : ∀ {vs : List V} {ps : List Pl}, PlAs H vs ps → vs.length = ps.length
  | [], [], _ => rfl
  | _ :: _, _ :: _, .cons _ h => by rw [List.length_cons, List.length_cons, PlAs.len h]
theorem PlAs.at {H : Hp} : ∀ {vs : List V} {ps : List Pl} {i : Nat} {v : V}, PlAs H vs ps → vs[i]? = some v → ∃ p, ps[i]? = some p ∧ PlA H v p
  | _, _, 0, _, .cons h _, e => by cases e; exact ⟨_, rfl, h⟩
  | _, _, i + 1, _, .cons _ h, e => PlAs.at (i := i) h e
theorem PlAs.snoc {H : Hp} : ∀ {vs : List V} {ps : List Pl} {v : V} {p : Pl}, PlAs H vs ps → PlA H v p → PlAs H (vs ++ [v]) (ps ++ [p])
  | _, _, _, _, .nil, h => .cons h .nil
  | _, _, _, _, .cons a b, h => .cons a (PlAs.snoc b h)
theorem PlAs.rep {H : Hp} {v : V} {p : Pl} (h : PlA H v p) : ∀ n : Nat, PlAs H (List.replicate n [v]).flatten (List.replicate n p)
  | 0 => .nil
  | n + 1 => .cons h (PlAs.rep h n)
mutual
/-- how many tuples are plans; how deep; how many loops within one another; its bounds as they should be -/
def cnt : Pl → Nat
  | .pat => 1
  | .work _ _ => 1
  | .row ps => 1 + cnts ps
  | .either ps => 1 + cnts ps
  | .loop _ _ p => 1 + cnt p
def cnts : List Pl → Nat
  | [] => 0
  | p :: ps => cnt p + cnts ps
end
mutual
def okP : Nat → Nat → Pl → Prop
  | _, _, .pat => True
  | _, _, .work a b => 0 ≤ a ∧ a ≤ b ∧ b ≤ 1000
  | 0, _, .row _ => False
  | d + 1, l, .row ps => 0 < ps.length ∧ ps.length ≤ 20 ∧ okPs d l ps
  | 0, _, .either _ => False
  | d + 1, l, .either ps => 0 < ps.length ∧ ps.length ≤ 20 ∧ okPs d l ps
  | 0, _, .loop _ _ _ => False
  | _ + 1, 0, .loop _ _ _ => False
  | d + 1, l + 1, .loop a b p => 0 ≤ a ∧ a ≤ b ∧ b ≤ 9 ∧ okP d l p
def okPs : Nat → Nat → List Pl → Prop
  | _, _, [] => True
  | d, l, p :: ps => okP d l p ∧ okPs d l ps
end
theorem okPs_at {d l : Nat} : ∀ {ps : List Pl} {i : Nat} {p : Pl}, okPs d l ps → ps[i]? = some p → okP d l p
  | _ :: _, 0, _, h, e => by cases e; exact h.1
  | _ :: ps, i + 1, _, h, e => okPs_at (ps := ps) (i := i) h.2 e
theorem okPs_snoc {d l : Nat} : ∀ {ps : List Pl} {p : Pl}, okPs d l ps → okP d l p → okPs d l (ps ++ [p])
  | [], _, _, h => ⟨h, trivial⟩
  | _ :: ps, _, h1, h => ⟨h1.1, okPs_snoc h1.2 h⟩
theorem okPs_rep {d l : Nat} {p : Pl} (h : okP d l p) : ∀ n : Nat, okPs d l (List.replicate n p)
  | 0 => trivial
  | n + 1 => ⟨h, okPs_rep h n⟩
theorem cnt_pos : ∀ p : Pl, 1 ≤ cnt p
  | .pat => Nat.le_refl 1
  | .work _ _ => Nat.le_refl 1
  | .row _ => Nat.le_add_right 1 _
  | .either _ => Nat.le_add_right 1 _
  | .loop _ _ _ => Nat.le_add_right 1 _
theorem small_lt {n : Nat} (h : n < 100000) : n < sizeLine := Nat.lt_of_lt_of_le h (by decide)
end Wd
/-! zip; comprehensions over lists. -/
namespace Wd
open PySem PySem.Spec PyProof.Rows L2
section
variable {σ : L2.St} {H : Hp} {Q : VK} {K : PySem.W.Frag}
theorem w_zip {a : L2.St → Hp → Prop} {b : VK} {g : TG} {tb : TS} {p r : Addr} {xs ys : List V} (hl : xs.length = ys.length) (Pv : Nat → L2.St → Hp → Prop) (h0 : Pv 0 σ H) (hq : ∀ i σ H, Pv i σ H → SqL K H p xs ∧ SqL K H r ys)
    (hs : ∀ i x y T σ H, xs[i]? = some x → ys[i]? = some y → Pv i σ H → H T = none → g (.ref T) σ (upd H T (.tup [x, y])) fun σ2 H2 => tb ⟨Pv (i + 1), b, a, Pv (i + 1)⟩ σ2 H2) (hd : ∀ σ H, Pv xs.length σ H → a σ H) :
    ∃ a' b' xs ys, [V.ref p, .ref r] = [V.ref a', .ref b'] ∧ SqL K H a' xs ∧ SqL K H b' ys ∧ ForEnd g tb a b σ (Itz K a' b') H :=
  ⟨p, r, xs, ys, rfl, (hq 0 σ H h0).1, (hq 0 σ H h0).2, RZ.for_zipL (D := ⟨a, b, fun _ _ => False, fun _ _ => False⟩) hl Pv h0 hq hs hd⟩
theorem w_lcZip {g : TG} {tt : TT} {te : TE} {vs : List Nat} {p r : Addr} {xs ys : List V} (hl : xs.length = ys.length) (hp : SqL K H p xs) (hr : SqL K H r ys) (Pv : Addr → Nat → Hp → Prop) (h0 : ∀ D, H D = none → Pv D 0 (upd H D (.lst [])))
    (hq : ∀ D i H', H D = none → Pv D i H' → SqL K H' p xs ∧ SqL K H' r ys)
    (hs : ∀ D i x y T H', H D = none → xs[i]? = some x → ys[i]? = some y → Pv D i H' → H' T = none → g (.ref T) (wipe σ vs) (upd H' T (.tup [x, y])) fun σ2 H2 => wipe σ2 vs = wipe σ vs ∧ tt σ2 H2 fun b H3 =>
      if b = true then te σ2 H3 fun y H4 => ∃ acc, H4 D = some (.lst acc) ∧ acc.length < sizeLine ∧ Pv D (i + 1) (upd H4 D (.lst (acc ++ [y]))) else Pv D (i + 1) H3) (hd : ∀ D H', H D = none → Pv D xs.length H' → Q (.ref D) H') :
    ∃ a' b' xs ys, [V.ref p, .ref r] = [V.ref a', .ref b'] ∧ SqL K H a' xs ∧ SqL K H b' ys ∧ LcEnd g tt te vs σ Q (Itz K a' b') H := by
  refine ⟨p, r, xs, ys, rfl, hp, hr, fun D hD => ?_⟩
  refine ⟨fun i m H' => m = xs.length - i ∧ i ≤ xs.length ∧ Pv D i H', ⟨xs.length, by simp, Nat.zero_le _, h0 D hD⟩, ?_⟩
  rintro i m H' ⟨rfl, hi, pv⟩
  obtain ⟨qx, qy⟩ := hq D i H' hD pv
  by_cases hlt : i < xs.length
  · have hx : xs[i]? = some xs[i] := List.getElem?_eq_getElem hlt
    have hlt2 : i < ys.length := by omega
    have hy : ys[i]? = some ys[i] := List.getElem?_eq_getElem hlt2
    refine .inr ⟨⟨xs, ys, _, _, qx, qy, hx, hy⟩, Pv D (i + 1), fun H' p' => ⟨xs.length - (i + 1), by omega, rfl, hlt, p'⟩, fun v H'' y => ?_⟩
    obtain ⟨T, x', y', rfl, hT, rfl, f1, f2⟩ := y
    exact hs D i x' y' T H' hD (f1 xs qx) (f2 ys qy) pv hT
  · have e : i = xs.length := by omega
    subst e
    exact .inl ⟨⟨xs, ys, qx, qy, Or.inl (Nat.le_refl _)⟩, hd D H' hD pv⟩
theorem w_lcList {g : TG} {tt : TT} {te : TE} {vs : List Nat} {p : Addr} {xs : List V} (hp : SqL K H p xs) (Pv : Addr → Nat → Hp → Prop) (h0 : ∀ D, H D = none → Pv D 0 (upd H D (.lst []))) (hl : ∀ D i H', H D = none → i ≤ xs.length → Pv D i H' → SqL K H' p xs)
    (hs : ∀ D i y H', H D = none → xs[i]? = some y → Pv D i H' → g y (wipe σ vs) H' fun σ2 H2 => wipe σ2 vs = wipe σ vs ∧ tt σ2 H2 fun b H3 =>
      if b = true then te σ2 H3 fun y H4 => ∃ acc, H4 D = some (.lst acc) ∧ acc.length < sizeLine ∧ Pv D (i + 1) (upd H4 D (.lst (acc ++ [y]))) else Pv D (i + 1) H3) (hd : ∀ D H', H D = none → Pv D xs.length H' → Q (.ref D) H') :
    ∃ q, V.ref p = .ref q ∧ (∃ xs, SqL K H q xs) ∧ LcEnd g tt te vs σ Q (Itl K q) H :=
  ⟨p, rfl, ⟨xs, hp⟩, fun D hD => lc_list (Pv D) (h0 D hD) (fun i H' hi q => hl D i H' hD hi q) (fun i y H' hy q => hs D i y H' hD hy q) (fun H' q => hd D H' hD q)⟩
theorem g_zip {ta : TA} {R : It → Hp → Prop} (h : ta σ H fun vs H1 => ∃ a b xs ys, vs = [.ref a, .ref b] ∧ SqL K H1 a xs ∧ SqL K H1 b ys ∧ R (Itz K a b) H1) : iZip K ta σ H R := h
end
end Wd
/-! sorted of data; self.a, self.b = .. -/
namespace Wd
open PySem PySem.Spec PyProof.Rows L2
def rSortD (K : PySem.W.Frag) : List V → Hp → VK → Prop := fun vs H Q => ∃ (a : Addr) (ps : List (V × PyData)), vs = [.ref a] ∧ SqL K H a (ps.map (·.1)) ∧ (∀ p ∈ ps, Dp K H p.1 p.2) ∧ PySem.W.AllAlike (ps.map (·.2)) ∧ PySem.W.Sortable (ps.map (·.2)) ∧ (∀ p ∈ ps, p.2.depth ≤ 10) ∧
  ∀ p, H p = none → Q (.ref p) (upd H p (.lst ((ps.mergeSort (PySem.W.dataLe false (·.2))).map (·.1))))
theorem each_vals : ∀ {ps : List (V × PyData)} {us : List Value}, Vals (ps.map (·.1)) us → PySem.W.EachIs (fun v (b : V × PyData) => RelV b.1 v) us ps
  | [], _, .nil => .nil
  | p :: ps, _, .cons r t => .cons r (each_vals t)
theorem vals_each : ∀ {ps : List (V × PyData)} {us : List Value}, PySem.W.EachIs (fun v (b : V × PyData) => RelV b.1 v) us ps → Vals (ps.map (·.1)) us
  | [], _, .nil => .nil
  | p :: ps, _, .cons r t => .cons r (vals_each t)
theorem each_reads {X : Cx} {pins : List (Addr × Obj)} {σ : L2.St} {H : Hp} {s : Shared} (I : Inv X pins σ H s) : ∀ {ps : List (V × PyData)} {us : List Value}, (∀ p ∈ ps, Dp X.K H p.1 p.2) → Vals (ps.map (·.1)) us → PySem.W.EachIs (fun v (b : V × PyData) => ∃ as, Reads s.heap v b.2 as) us ps
  | [], _, _, .nil => .nil
  | p :: ps, _, h, .cons r t => .cons (Dp.reads I p.2 p.1 _ (h p List.mem_cons_self) r) (each_reads I (fun y hy => h y (List.mem_cons_of_mem _ hy)) t)
section
variable {X : Cx}
theorem cr_sortedD (hu : X.A.units + 64 < cLine) : CallR X (.builtin "sorted") (rSortD X.K) := by
  intro pins s σ H vs us Q I r h
  obtain ⟨a, ps, rfl, hs, hd, hal, hk, hdep, q⟩ := h
  obtain ⟨its, rv, hl, hz⟩ := I.list hs
  obtain ⟨u, rfl, ru⟩ := vals1 r
  obtain rfl : u = Value.ref a := ru
  have hlen : ps.length ≤ sizeLine := by rw [List.length_map] at hz; exact hz
  refine PySem.W.sorted_data (vs := its) (bs := ps) (enc := (·.2)) (R := fun v b => RelV b.1 v) hl.isList (each_vals rv) (each_reads I hd rv) hal hk hlen (fun b hb => by have := hdep b hb; omega) fun out ho hout => ?_
  obtain ⟨n, hn⟩ := sortedAll_at s.heap its out.toArray
  have hv := vals_each hout
  refine ⟨.ref (s.heap.objs.size + 1), _, I.laid (t' := s.toks) (fun b o z => sortedAll_old z) (Nat.le_succ _) (o := .lst ((ps.mergeSort (PySem.W.dataLe false (·.2))).map (·.1))) ⟨?_, out, n, hv, hn⟩, rfl, q _ (I.hok.fresh (Nat.le_succ _))⟩
  rw [List.length_map, List.length_mergeSort]
  exact hlen
theorem pe_fldK {K : PySem.W.Frag} {e : Expr} {f : Str} {pos : Pos} {ta : TE} (hK : X.K = K) (he : PE X e ta) (hb : attributeBase e f X.env (eval e X.env) = eval e X.env) : PE X (.Attribute e f pos) (tFld K ta f) := by
  subst hK; exact pe_fld he hb
/-- an attribute as a target -/
def gAtt (K : PySem.W.Frag) (to : TE) (f : Str) : TG := fun y σ H Q => to σ H fun x H2 => ∃ a C dx fs, x = .ref a ∧ H2 a = some (.ins C dx fs) ∧ Cls K C ∧ NoAttr K C f ∧ fs.length < 1000 ∧ Q σ (upd H2 a (.ins C dx (putF f y fs)))
theorem pg_att {o : Expr} {f : Str} {pos : Pos} {to : TE} (ho : PE X o to)
    (ha : ∀ v, assign (.Attribute o f pos) X.env v = (do
      let ov ← holding [v] (eval o X.env)
      standAt pos.atName
      holding [v, ov] (setAttr ov f v)
      release [v, ov] []) := by intro _; rfl) : PG X (.Attribute o f pos) (gAtt X.K to f) := by
  refine ⟨fun pins s σ H v u Q I r h => ?_⟩
  rw [ha]
  refine wpAny_bind (wpAny_holding (thn (ho.run pins s σ H _ I h) fun ov s1 ⟨x, H1, I1, rx, a, C, dx, fs, ex, ea, c, n, l, q⟩ => ?_))
  subst ex
  obtain rfl : ov = Value.ref a := rx
  refine wpAny_bind (wpAny_standAt (wpAny_bind (wpAny_holding (setattr_ok I1 ea c n l r fun s2 I2 => ?_))))
  exact wpAny_release ⟨σ, _, I2, q⟩
end
end Wd
/-! A set comprehension of two fors, its members whole numbers. -/
namespace Wd
open PySem PySem.Spec PyProof.Rows L2
/-- the comprehension that is meant -/
abbrev sc2 (elt t0 i0 t1 i1 : Expr) (f0 f1 : List Expr) (sco : Scope) (pos : Pos) : Expr := .SetComp elt [⟨t0, i0, f0, 0⟩, ⟨t1, i1, f1, 0⟩] sco pos
section
variable {prg : Program} {w : World} {A : Around} {R : Result → Shared → Prop} {elt t0 i0 t1 i1 : Expr} {f0 f1 : List Expr} {sco : Scope} {pos : Pos} {it acc : Value} {env : Env}
theorem sc2_turn0 : compTurn (sc2 elt t0 i0 t1 i1 f0 f1 sco pos) 0 it acc env = (do
    standAt i0.pos
    match ← pyNext it with
    | none => pure (.done .next)
    | some v =>
      letOwnedTupleGo t0 it v
      assign t0 env v
      let mut go := true
      for c in f0 do
        if go then go ← isTrue c env (eval c env)
      if go then
        let y ← eval i1 env
        standAt i1.pos
        let y ← foldedSetIterable i1 env y
        let _ ← runOwn (.compStart (sc2 elt t0 i0 t1 i1 f0 f1 sco pos) 1 (← holding [y] (pyIter y)) acc env) env
      again (.compLoop (sc2 elt t0 i0 t1 i1 f0 f1 sco pos) 0 it acc env)) := by rfl
theorem sc2_turn1 : compTurn (sc2 elt t0 i0 t1 i1 f0 f1 sco pos) 1 it acc env = (do
    standAt i1.pos
    match ← pyNext it with
    | none => pure (.done .next)
    | some v =>
      letOwnedTupleGo t1 it v
      assign t1 env v
      let mut go := true
      for c in f1 do
        if go then go ← isTrue c env (eval c env)
      if go then
        (do let v ← eval elt env; standAt elt.pos; let _ ← call (.builtin "set.add") [acc, v])
      again (.compLoop (sc2 elt t0 i0 t1 i1 f0 f1 sco pos) 1 it acc env)) := by rfl
/-- where an exception of the turn goes -/
abbrev offs (prg : Program) (w : World) (A : Around) (env : Env) (R : Result → Shared → Prop) : Value → Shared → Prop := notedBy (model prg w) A env fun e s' => R (.error e) s'
abbrev tests2 (fs : List Expr) (env : Env) : Sem Bool := forIn fs true fun c r => if r = true then do let ok ← isTrue c env (eval c env); pure (ForInStep.yield ok) else pure (ForInStep.yield r)
theorem sc2_loop0 (hs : ∀ x, foldedSetIterable i1 env x = pure x) (J : Nat → Shared → Prop)
    (turn : ∀ n s, J n s → wpAny (model prg w) A (pyNext it) (fun r sa => match r with
      | none => R (.ok .next) sa
      | some v => wpAny (model prg w) A (letOwnedTupleGo t0 it v) (fun _ sb => wpAny (model prg w) A (assign t0 env v) (fun _ sc => wpAny (model prg w) A (tests2 f0 env) (fun go sd =>
            if go = true then wpAny (model prg w) A (eval i1 env) (fun x se => wpAny (model prg w) A (pyIter x) (fun jt sf => codeAny (model prg w) A (.compStart (sc2 elt t0 i0 t1 i1 f0 f1 sco pos) 1 jt acc env) (fun r sg => match r with
                | .ok _ => ∃ m, m < n ∧ J m sg
                | .error _ => False) sf) (offs prg w A env R) se) (offs prg w A env R) sd
            else ∃ m, m < n ∧ J m sd) (offs prg w A env R) sc) (offs prg w A env R) sb) (offs prg w A env R) sa) (offs prg w A env R) s)
    (n : Nat) {s : Shared} (h : J n s) : codeAny (model prg w) A (.compLoop (sc2 elt t0 i0 t1 i1 f0 f1 sco pos) 0 it acc env) R s := by
  refine codeAny_loop rfl J (fun n s hJ => ?_) n h
  show wpAny _ A ((compTurn (sc2 elt t0 i0 t1 i1 f0 f1 sco pos) 0 it acc env).onRaise (fun x => do noteFrame x env; theTreesLotGoes x)) _ _ s
  refine wpAny_noted ?_
  rw [sc2_turn0]
  refine wpAny_bind (wpAny_standAt (wpAny_bind (wpAny_mono (turn n s hJ) (fun r sa ha => ?_) fun _ _ z => z)))
  match r, ha with
  | none, ha => exact wpAny_pure ha
  | some v, ha =>
    refine wpAny_bind (wpAny_mono ha (fun _ sb hb => ?_) fun _ _ z => z)
    refine wpAny_bind (wpAny_mono hb (fun _ sc hc => ?_) fun _ _ z => z)
    refine wpAny_bind (wpAny_mono hc (fun go sd hd => ?_) fun _ _ z => z)
    cases go with
    | false => exact wpAny_pure ⟨rfl, hd⟩
    | true =>
      refine wpAny_bind (wpAny_mono hd (fun x se he => ?_) fun _ _ z => z)
      refine wpAny_bind (wpAny_standAt (wpAny_bind (wpAny_of_eq (hs x) ?_)))
      refine wpAny_bind (wpAny_holding (wpAny_mono he (fun jt sf hf => ?_) fun _ _ z => z))
      refine wpAny_bind (wpAny_runOwn ?_)
      rw [Around.mark_none]
      refine codeAny_mono hf fun r sg hg => ?_
      match r, hg with
      | .ok _, hg =>
        first
          | exact wpAny_pure ⟨rfl, hg⟩
          | exact wpAny_bind (wpAny_pure (wpAny_pure ⟨rfl, hg⟩))
      | .error _, hg => exact hg.elim
theorem sc2_loop1 (J : Nat → Shared → Prop)
    (turn : ∀ n s, J n s → wpAny (model prg w) A (pyNext it) (fun r sa => match r with
      | none => R (.ok .next) sa
      | some v => wpAny (model prg w) A (letOwnedTupleGo t1 it v) (fun _ sb => wpAny (model prg w) A (assign t1 env v) (fun _ sc => wpAny (model prg w) A (tests2 f1 env) (fun go sd =>
            if go = true then wpAny (model prg w) A (eval elt env) (fun x se => wpAny (model prg w) A (call (.builtin "set.add") [acc, x]) (fun _ sf => ∃ m, m < n ∧ J m sf) (offs prg w A env R) se) (offs prg w A env R) sd
            else ∃ m, m < n ∧ J m sd) (offs prg w A env R) sc) (offs prg w A env R) sb) (offs prg w A env R) sa) (offs prg w A env R) s)
    (n : Nat) {s : Shared} (h : J n s) : codeAny (model prg w) A (.compLoop (sc2 elt t0 i0 t1 i1 f0 f1 sco pos) 1 it acc env) R s := by
  refine codeAny_loop rfl J (fun n s hJ => ?_) n h
  show wpAny _ A ((compTurn (sc2 elt t0 i0 t1 i1 f0 f1 sco pos) 1 it acc env).onRaise (fun x => do noteFrame x env; theTreesLotGoes x)) _ _ s
  refine wpAny_noted ?_
  rw [sc2_turn1]
  refine wpAny_bind (wpAny_standAt (wpAny_bind (wpAny_mono (turn n s hJ) (fun r sa ha => ?_) fun _ _ z => z)))
  match r, ha with
  | none, ha => exact wpAny_pure ha
  | some v, ha =>
    refine wpAny_bind (wpAny_mono ha (fun _ sb hb => ?_) fun _ _ z => z)
    refine wpAny_bind (wpAny_mono hb (fun _ sc hc => ?_) fun _ _ z => z)
    refine wpAny_bind (wpAny_mono hc (fun go sd hd => ?_) fun _ _ z => z)
    cases go with
    | false => exact wpAny_pure ⟨rfl, hd⟩
    | true =>
      refine wpAny_bind (wpAny_bind (wpAny_mono hd (fun x se he => ?_) fun _ _ z => z))
      refine wpAny_bind (wpAny_standAt (wpAny_bind (wpAny_mono he (fun _ sf hf => ?_) fun _ _ z => z)))
      exact wpAny_pure (wpAny_pure ⟨rfl, hf⟩)
theorem sc2_start1 {s : Shared} (h0 : codeAny (model prg w) A (.compLoop (sc2 elt t0 i0 t1 i1 f0 f1 sco pos) 1 it acc env) R s)
    (h : wpAny (model prg w) A (pyIter it) (fun jt s' => codeAny (model prg w) A (.compLoop (sc2 elt t0 i0 t1 i1 f0 f1 sco pos) 1 jt acc env) R s') (offs prg w A env R) s) :
    codeAny (model prg w) A (.compStart (sc2 elt t0 i0 t1 i1 f0 f1 sco pos) 1 it acc env) R s := by
  refine codeAny_of_tree ?_
  show wpAny _ _ ((compStart (sc2 elt t0 i0 t1 i1 f0 f1 sco pos) 1 it acc env).onRaise (fun x => do noteFrame x env; standAt theWindowsPlace)) _ _ s
  refine wpAny_notedAt ?_
  unfold compStart
  show wpAny _ _ (ask >>= _) _ _ s
  refine wpAny_bind (wpAny_askSetting (wpAny_ite ?_))
  have hb : wpAny (model prg w) A (pyIter it) (fun jt s' => wpAny (model prg w) A (pure jt) (fun jt s' => codeAny (model prg w) A (.compLoop (sc2 elt t0 i0 t1 i1 f0 f1 sco pos) 1 jt acc env) R s') (offs prg w A env R) s') (offs prg w A env R) s := wpAny_mono h (fun _ _ z => wpAny_pure z) fun _ _ z => z
  split
  · first
      | exact wpAny_bind (wpAny_pure (wpAny_pure ⟨rfl, h0⟩))
      | exact wpAny_pure ⟨rfl, h0⟩
  · refine wpAny_bind (wpAny_rule ?_)
    first
      | exact wpAny_bind (wpAny_standAt (wpAny_bind (wpAny_mono h (fun _ _ z => wpAny_pure ⟨rfl, z⟩) fun _ _ z => z)))
      | (show wpAny _ _ (standAt i1.pos >>= _) _ _ s; exact wpAny_bind (wpAny_standAt (wpAny_bind (wpAny_mono h (fun _ _ z => wpAny_pure ⟨rfl, z⟩) fun _ _ z => z))))
end
/-- the second for, to the end of its list; D the set that is filled -/
def InS (w : World) (g1 : TG) (tt1 : TT) (te : TE) (vs1 : List Nat) (σ2 : L2.St) (D : Addr) (N : Hp → Prop) (J1 : It) (H4 : Hp) : Prop := ∃ W1 : Nat → Nat → Hp → Prop, (∃ m, W1 0 m H4) ∧ ∀ j k H, W1 j k H → (J1.stop j H ∧ N H) ∨
  (J1.go j H ∧ ∃ M : Hp → Prop, (∀ H', M H' → ∃ k', k' < k ∧ W1 (j + 1) k' H') ∧ ∀ x H', J1.yld j H x H' → g1 x (wipe σ2 vs1) H' fun σ3 H5 => wipe σ3 vs1 = wipe σ2 vs1 ∧ tt1 σ3 H5 fun b H6 =>
    if b = true then te σ3 H6 fun y H7 => ∃ (c : Int) (S : Int → Bool) (n : Nat), y = .int c ∧ H7 D = some (SetO w D S n) ∧ n + 1 < scanBound ∧ M (upd H7 D (SetO w D (fun j => S j || decide (j = c)) (if S c = true then n else n + 1))) else M H6)
def Sc2End (w : World) (g : TG) (tt : TT) (wi1 : TI) (g1 : TG) (tt1 : TT) (te : TE) (vs vs1 : List Nat) (σ : L2.St) (Q : VK) (J : It) (H1 : Hp) : Prop := ∀ D, H1 D = none → ∃ W : Nat → Nat → Hp → Prop, (∃ m, W 0 m (upd H1 D (SetO w D (fun _ => false) 0))) ∧ ∀ i m H, W i m H → (J.stop i H ∧ Q (.ref D) H) ∨
  (J.go i H ∧ ∃ M : Hp → Prop, (∀ H', M H' → ∃ m', m' < m ∧ W (i + 1) m' H') ∧ ∀ x H', J.yld i H x H' → g x (wipe σ vs) H' fun σ2 H2 => wipe σ2 vs = wipe σ vs ∧ tt σ2 H2 fun b H3 => if b = true then wi1 σ2 H3 (InS w g1 tt1 te vs1 σ2 D M) else M H3)
def tSc2 (w : World) (wi : TI) (g : TG) (tt : TT) (wi1 : TI) (g1 : TG) (tt1 : TT) (te : TE) (vs vs1 : List Nat) : TE := fun σ H Q => wi σ H (Sc2End w g tt wi1 g1 tt1 te vs vs1 σ Q)
section
variable {X : Cx} {elt t0 i0 t1 i1 : Expr} {f0 f1 : List Expr} {sco : Scope} {own : List (Str × Nat)} {vs1 : List Nat} {pos : Pos} {wi wi1 : TI} {g g1 : TG} {tt tt1 : TT} {te : TE}
theorem pe_sc2 (hc : X.calm = true) (hN : X.N.Nodup) (hi : PI X t0 i0 wi) (ok : BlkOk X.N X.env.scope sco own) (hv : ∀ i ∈ vs1, i ∈ own.map (·.2))
    (hg : ∀ (s : Shared) (H : Hp) (C : Addr) (cl : List (Str × Addr)) (fp : List Addr), PG (X.blk s H sco (compEnvC sco cl C X.env) fp) t0 g)
    (ht : ∀ (s : Shared) (H : Hp) (C : Addr) (cl : List (Str × Addr)) (fp : List Addr), PTs (X.blk s H sco (compEnvC sco cl C X.env) fp) f0 tt)
    (hi1 : ∀ (s : Shared) (H : Hp) (C : Addr) (cl : List (Str × Addr)) (fp : List Addr), PI (X.blk s H sco (compEnvC sco cl C X.env) fp) t1 i1 wi1)
    (hg1 : ∀ (s : Shared) (H : Hp) (C : Addr) (cl : List (Str × Addr)) (fp : List Addr), PG (X.blk s H sco (compEnvC sco cl C X.env) fp) t1 g1)
    (ht1 : ∀ (s : Shared) (H : Hp) (C : Addr) (cl : List (Str × Addr)) (fp : List Addr), PTs (X.blk s H sco (compEnvC sco cl C X.env) fp) f1 tt1)
    (he : ∀ (s : Shared) (H : Hp) (C : Addr) (cl : List (Str × Addr)) (fp : List Addr), PE (X.blk s H sco (compEnvC sco cl C X.env) fp) elt te)
    (hs : ∀ x, foldedSetIterable i0 X.env x = pure x := by intro _; rfl) (hs1 : ∀ env x, foldedSetIterable i1 env x = pure x := by intro _ _; rfl) :
    PE X (sc2 elt t0 i0 t1 i1 f0 f1 sco pos) (tSc2 X.w wi g tt wi1 g1 tt1 te (own.map (·.2)) vs1) := by
  refine ⟨fun pins s σ H Q I h => ?_⟩
  rw [PpSet.eval_SetComp]
  have hfree : ∀ y ∈ sco.names, y.2 = .free → ∃ c, X.env.cells.lookup y.1 = some c := fun y hy e => (ok.free y hy e).elim (fun k => I.ok.has _ (.inl k)) (fun k => I.ok.has _ (.inr k))
  refine wpAny_comprehension_free (use := none) rfl hs (closure_ok hfree) ok.kind (fun y hy e => by rw [ok.uniq y hy, e]) ?_
  refine thn (hi.run pins s σ H _ I h) fun xv sa hx => thn hx fun itv sb hb => ?_
  obtain ⟨it, fp, tn, J, Hb, e, Ib, T, stb, fb, q⟩ := hb
  subst e
  refine PpSet.newSet_ok (newEnv_comp ?_)
  generalize hD : sb.heap.objs.size = D
  obtain ⟨W, ⟨m0, w0⟩, turn⟩ := q D (Ib.hok.fresh (Nat.le_of_eq hD))
  generalize hE : SetO X.w D (fun _ => false) 0 = eo at w0
  have hDb : Hb D = none := Ib.hok.fresh (Nat.le_of_eq hD)
  generalize hsc : ({ sb with heap := sb.heap.push { cls := .type "set", dict := none, data := .set #[] 0 (.fresh 0 0 (!X.w.params.followText "set-order")) } } : Shared) = sc
  have hpush : sc.heap = sb.heap.push { cls := .type "set", dict := none, data := .set #[] 0 (.fresh 0 0 (!X.w.params.followText "set-order")) } := by rw [← hsc]
  have old : ∀ b o, sb.heap.get? b = some o → sc.heap.get? b = some o := fun b o e => by rw [hpush]; exact Heap.get?_push_of_some _ e
  have Ic : Inv X pins σ (upd Hb D eo) sc := by
    rw [← hsc, ← hE]
    refine Ib.laid (t' := sb.toks) (fun b o e => Heap.get?_push_of_some _ e) (Nat.le_of_eq hD) ?_
    rw [← hD]
    exact setO_new (setR_fresh X.w)
  have below : ∀ b ∈ fp, b < sb.heap.objs.size := fun b hb => by
    obtain ⟨o, e, _⟩ := T.obj _ _ stb b hb
    exact Heap.lt_size e
  have fc : ∀ b ∈ fp, FpOk X pins (upd Hb D eo) b ∧ b < sc.heap.objs.size := fun b hb => by
    have lt := below b hb
    have ne : b ≠ D := by rw [← hD]; exact Nat.ne_of_lt lt
    exact ⟨⟨by rw [upd_ne ne]; exact (fb b hb).1, (fb b hb).2⟩, by rw [hpush, Heap.size_push]; exact Nat.lt_succ_of_lt lt⟩
  have stc : tn 0 sc.heap := T.keep _ _ _ stb fun b _ o e => old b o e
  have Id := block_start Ic ok hN fc
  generalize hHc : upd Hb D eo = Hc at w0 Ic Id fc
  generalize hcl : cellsFrom (sc.heap.objs.size + 1) sco.names (cloFrom X.env.cells sco.names []) = cl at Id
  have pg := hg sc Hc sc.heap.objs.size cl fp
  have pt := ht sc Hc sc.heap.objs.size cl fp
  have pe := he sc Hc sc.heap.objs.size cl fp
  have pi1 := hi1 sc Hc sc.heap.objs.size cl fp
  have pg1 := hg1 sc Hc sc.heap.objs.size cl fp
  have pt1 := ht1 sc Hc sc.heap.objs.size cl fp
  show codeAny _ _ (.compStart (sc2 elt t0 i0 t1 i1 f0 f1 sco pos) 0 (.ref it) (.ref D) (compEnvC sco cl sc.heap.objs.size X.env)) (compPost (model X.prog X.w) X.A X.xe none (EP X pins σ Q) (.ref D) sc.heap.objs.size) { sc with heap := pushCells (sc.heap.push { cls := .type "dict", data := .dict #[] }) sco.names }
  generalize hen : compEnvC sco cl sc.heap.objs.size X.env = en at Id pg pt pe pi1 pg1 pt1 ⊢
  have enL : en.locals = sc.heap.objs.size := by subst hen; rfl
  generalize hsd : ({ sc with heap := pushCells (sc.heap.push { cls := .type "dict", data := .dict #[] }) sco.names } : Shared) = sd at Id ⊢
  have std : tn 0 sd.heap := T.keep _ _ _ stc fun b _ o e => by rw [← hsd]; exact pushCells_keeps _ _ _ _ (Heap.get?_push_of_some _ e)
  have at0 : ∀ {σ' : L2.St} {H' : Hp} {s' : Shared}, Inv (X.blk sc Hc sco en fp) [] σ' H' s' → (∀ b ∈ fp, H' b = none) → ∀ b ∈ fp, FpOk (X.blk sc Hc sco en fp) [] H' b := by
    intro σ' H' s' I' hn b hb
    have x1 := I'.ok.exf b hb
    refine ⟨hn b hb, x1.1, I'.ok.exfs b hb, .inl hb, fun x c e => x1.2 x c e, fun p hp => ?_⟩
    exact absurd hp (by simp)
  generalize hw : wipe σ (own.map (·.2)) = σw at Id turn
  have lw : σw.length = σ.length := by rw [← hw, wipe_length]
  have main : codeAny (model X.prog X.w) X.A (.compLoop (sc2 elt t0 i0 t1 i1 f0 f1 sco pos) 0 (.ref it) (.ref D) en) (compPost (model X.prog X.w) X.A X.xe none (EP X pins σ Q) (.ref D) sc.heap.objs.size) sd := by
    refine sc2_loop0 (hs1 en) (fun n s' => ∃ i H', Inv (X.blk sc Hc sco en fp) [] σw H' s' ∧ tn i s'.heap ∧ (∀ b ∈ fp, H' b = none) ∧ W i n H') ?_ m0 ⟨0, Hc, Id, std, fun b hb => (fc b hb).1.1, w0⟩
    rintro n s5 ⟨i, H5, I5, st5, n5, w5⟩
    rcases turn i n H5 w5 with ⟨stop, qq⟩ | ⟨go, M, hM, step⟩
    · refine thnF (T.done (X.blk sc Hc sco en fp) rfl rfl rfl hc i [] s5 _ H5 (fun _ _ => False) I5 (at0 I5 n5) st5 stop) fun r s6 ⟨hr, I6⟩ => ?_
      subst hr
      have I7 : Inv X pins σ H5 s6 := by
        refine Ic.call' (ch := fp) I6.os I6.base I6.hok I6.bare fun b hb => ?_
        obtain ⟨_, y1, y2, y3, y4, y5⟩ := (fc b hb).1
        exact ⟨y3, y1, y4, y5⟩
      have nC : H5 sc.heap.objs.size = none := by
        have z : H5 en.locals = none := I6.free
        rw [enL] at z
        exact z
      obtain ⟨m, hn, _⟩ := I6.loc
      have hn2 : s6.heap.Ns en.locals m := hn
      rw [enL] at hn2
      refine ⟨m, hn2, fun h'' eb => ?_⟩
      obtain ⟨y0, y1, y2, y3, y4, y5⟩ := Ic.fpOk (Nat.le_refl _) nC
      exact ⟨.ref D, H5, I7.turned (t' := s6.toks) (fun b o hb e => (eb.2 b hb).trans e) y0 y1 y3 y4 y5, rfl, qq⟩
    · refine thnF (T.item (X.blk sc Hc sco en fp) rfl rfl rfl hc i [] s5 _ H5 (fun _ _ => False) I5 (at0 I5 n5) st5 go) fun r s6 ⟨u, hr, h6⟩ => ?_
      subst hr
      refine thnF h6 fun _ s7 ⟨x, H7, I7, r7, y7, st7, n7⟩ => ?_
      refine thnF (pg.run _ s7 _ H7 x u _ (I7.pinned (at0 I7 n7) (T.obj _ _ st7)) r7 (step x H7 y7)) fun _ s8 ⟨σ8, H8, I8, hw8, q8⟩ => ?_
      refine thnF (pt.run _ s8 σ8 H8 _ I8 q8) fun b s9 ⟨H9, I9, q9⟩ => ?_
      have l8 : σw.length = σ8.length := by rw [lw, ← wipe_length σ (own.map (·.2)), hw, ← hw8, wipe_length]
      have k8 : ∀ (j : Nat) v, σw[j]? = some (some v) → σ8[j]? = some (some v) := fun j v e => by
        rw [← hw8] at e
        exact (wipe_some e).1
      -- behind a turn: what the outer loop knows
      have back : ∀ {σ9 : L2.St} {s' : Shared} {H' : Hp}, Inv (X.blk sc Hc sco en fp) ([] ++ pinsAt fp s7.heap) σ9 H' s' → σw.length = σ9.length → (∀ (j : Nat) v, σw[j]? = some (some v) → σ9[j]? = some (some v)) → M H' →
          ∃ m, m < n ∧ ∃ i H', Inv (X.blk sc Hc sco en fp) [] σw H' s' ∧ tn i s'.heap ∧ (∀ b ∈ fp, H' b = none) ∧ W i m H' := by
        intro σ9 s' H' I' hl hk nx
        obtain ⟨m', hm, w'⟩ := hM H' nx
        have stay : ∀ b ∈ fp, ∀ o, s7.heap.get? b = some o → s'.heap.get? b = some o ∧ H' b = none := by
          intro b hb o e
          have z := I'.pin (b, o) (List.mem_append_right _ (List.mem_append_right _ (mem_pinsAt hb e)))
          exact ⟨z.1, z.2.1⟩
        refine ⟨m', hm, i + 1, H', (I'.unpinned (pins := [])).weak hl hk, ?_, fun b hb => ?_, w'⟩
        · exact T.keep _ _ _ st7 fun b hb o e => (stay b hb o e).1
        · obtain ⟨o, e, _⟩ := T.obj _ _ st7 b hb
          exact (stay b hb o e).2
      match b, q9 with
      | false, q9 => exact back I9 l8 k8 q9
      | true, q9 =>
        refine thnF (pi1.run _ s9 σ8 H9 _ I9 q9) fun xv s10 hx => thnF hx fun jv s11 h11 => ?_
        obtain ⟨jt, fq, tq, J1, H11, e1, I11, T1, st11, f11, W1, ⟨m1, w1⟩, turn1⟩ := h11
        subst e1
        have k9 : ∀ (j : Nat) v, σw[j]? = some (some v) → (wipe σ8 vs1)[j]? = some (some v) := fun j v e => by
          rw [← hw8] at e
          obtain ⟨e1, e2⟩ := wipe_some e
          rw [wipe_out fun z => e2 (hv j z)]
          exact e1
        have at1 : ∀ {H' : Hp}, (∀ b ∈ fq, H' b = none) → ∀ b ∈ fq, FpOk (X.blk sc Hc sco en fp) ([] ++ pinsAt fp s7.heap) H' b := fun hn b hb => ⟨hn b hb, (f11 b hb).2⟩
        have inner : codeAny (model X.prog X.w) X.A (.compLoop (sc2 elt t0 i0 t1 i1 f0 f1 sco pos) 1 (.ref jt) (.ref D) en) (fun r s' => match r with
              | .ok _ => ∃ m, m < n ∧ ∃ i H', Inv (X.blk sc Hc sco en fp) [] σw H' s' ∧ tn i s'.heap ∧ (∀ b ∈ fp, H' b = none) ∧ W i m H'
              | .error _ => False) s11 := by
          refine sc2_loop1 (fun k s' => ∃ j H', Inv (X.blk sc Hc sco en fp) ([] ++ pinsAt fp s7.heap) (wipe σ8 vs1) H' s' ∧ tq j s'.heap ∧ (∀ b ∈ fq, H' b = none) ∧ W1 j k H') ?_ m1 ⟨0, H11, I11.weak (wipe_length _ _) (fun j v e => (wipe_some e).1), st11, fun b hb => (f11 b hb).1, w1⟩
          rintro k s12 ⟨j, H12, I12, st12, n12, w12⟩
          rcases turn1 j k H12 w12 with ⟨stop1, nx1⟩ | ⟨go1, M1, hM1, step1⟩
          · refine thnF (T1.done (X.blk sc Hc sco en fp) rfl rfl rfl hc j _ s12 (wipe σ8 vs1) H12 (fun _ _ => False) I12 (at1 n12) st12 stop1) fun r s13 ⟨hr, I13⟩ => ?_
            subst hr
            exact back I13 (l8.trans (wipe_length σ8 vs1).symm) k9 nx1
          · refine thnF (T1.item (X.blk sc Hc sco en fp) rfl rfl rfl hc j _ s12 (wipe σ8 vs1) H12 (fun _ _ => False) I12 (at1 n12) st12 go1) fun r s13 ⟨u1, hr, h13⟩ => ?_
            subst hr
            refine thnF h13 fun _ s14 ⟨x1, H14, I14, r14, y14, st14, n14⟩ => ?_
            refine thnF (pg1.run _ s14 (wipe σ8 vs1) H14 x1 u1 _ (I14.pinned (at1 n14) (T1.obj _ _ st14)) r14 (step1 x1 H14 y14)) fun _ s15 ⟨σ15, H15, I15, hw15, q15⟩ => ?_
            refine thnF (pt1.run _ s15 σ15 H15 _ I15 q15) fun b1 s16 ⟨H16, I16, q16⟩ => ?_
            have back1 : ∀ {s' : Shared} {H' : Hp}, Inv (X.blk sc Hc sco en fp) (([] ++ pinsAt fp s7.heap) ++ pinsAt fq s14.heap) σ15 H' s' → M1 H' → ∃ m, m < k ∧ ∃ j H', Inv (X.blk sc Hc sco en fp) ([] ++ pinsAt fp s7.heap) (wipe σ8 vs1) H' s' ∧ tq j s'.heap ∧ (∀ b ∈ fq, H' b = none) ∧ W1 j m H' := by
              intro s' H' I' nx
              obtain ⟨m', hm, w'⟩ := hM1 H' nx
              have stay : ∀ b ∈ fq, ∀ o, s14.heap.get? b = some o → s'.heap.get? b = some o ∧ H' b = none := by
                intro b hb o e
                have z := I'.pin (b, o) (List.mem_append_right _ (List.mem_append_right _ (mem_pinsAt hb e)))
                exact ⟨z.1, z.2.1⟩
              refine ⟨m', hm, j + 1, H', I'.unpinned.weak (by rw [← hw15, wipe_length]) (fun j v e => by rw [← hw15] at e; exact (wipe_some e).1), ?_, fun b hb => ?_, w'⟩
              · exact T1.keep _ _ _ st14 fun b hb o e => (stay b hb o e).1
              · obtain ⟨o, e, _⟩ := T1.obj _ _ st14 b hb
                exact (stay b hb o e).2
            match b1, q16 with
            | false, q16 => exact back1 I16 q16
            | true, q16 =>
              refine thnF (pe.run _ s16 σ15 H16 _ I16 q16) fun z s17 ⟨yv, H17, I17, r17, cv, S0, n0, ey, hD17, hz17, nx⟩ => ?_
              subst ey
              have add := mt_sadd (X := X.blk sc Hc sco en fp) _ s17 σ15 H17 (.ref D) [.int cv] (.ref D) [z] (fun v H' => v = .non ∧ M1 H') I17 rfl (.cons r17 .nil) ⟨D, cv, S0, n0, rfl, rfl, hD17, hz17, rfl, nx⟩
              exact thnF add fun v s18 ⟨v', H18, I18, _, _, nx18⟩ => back1 I18 nx18
        exact sc2_start1 inner (T1.self X.A 0 _ _ _ st11 inner)
  exact PpSet.codeAny_compStart_set main (T.self X.A 0 _ _ _ std main)
end
end Wd
/-! set(xs) of a list of whole numbers. -/
namespace Wd
open PySem PySem.Spec PyProof.Rows L2
/-- a set that has just been made -/
abbrev setFresh (w : World) : Obj := { cls := .type "set", dict := none, data := .set #[] 0 (.fresh 0 0 (!w.params.followText "set-order")) }
section
variable {P : Program} {w : World} {A : Around} {E : Value → Shared → Prop} {s : Shared}
/-- what set(xs) leaves: the set of the numbers, at a new place -/
def SetMade (w : World) (s : Shared) (ns : List Int) (Q : Value → Shared → Prop) : Prop := ∀ (h' : Heap) (tk c : Nat), SetR w h' s.heap.objs.size (fun j => decide (j ∈ ns)) c → c ≤ ns.length → (∀ b o, s.heap.get? b = some o → h'.get? b = some o) → Q (.ref s.heap.objs.size) { s with heap := h', toks := tk }
/-- the filling of the new set -/
def SetFilled (w : World) (s : Shared) (ns : List Int) (r : Value) (s₂ : Shared) : Prop := r = .none ∧ ∃ h' tk c, s₂ = { s with heap := h', toks := tk } ∧ SetR w h' s.heap.objs.size (fun j => decide (j ∈ ns)) c ∧ c ≤ ns.length ∧ (∀ b o, s.heap.get? b = some o → h'.get? b = some o)
set_option maxHeartbeats 3200000 in
theorem set_filled {l : Addr} {items : Array Value} (ns : List Int) (hh : A.handled = none) (hl : s.heap.IsList l items) (hit : IntsAre items.toList ns) (hb : ns.length + 1 < scanBound) :
    wpAny (model P w) A.in1.in1 (Builtin.«set.__init__» ⟨[.ref s.heap.objs.size, .ref l], []⟩) (fun f s₂ => match f with
      | .done f => wants (SetFilled w s ns) E (.ok f) s₂
      | .again c' => c'.quiet = true ∧ codeAny (model P w) A.in1 c' (wants (SetFilled w s ns) E) s₂) (fun e s₂ => wants (SetFilled w s ns) E (.error e) s₂) { s with heap := s.heap.push (setFresh w) } := by
  have cnt : items.size = ns.length := by
    have q := IntsAre.length hit
    rw [Array.length_toList] at q
    exact q
  obtain ⟨ob, hob, hcl, nl, hdl⟩ := hl
  obtain ⟨obc, obd, obx, obs⟩ := ob
  simp only at hcl hdl
  subst hcl hdl
  have lS : l < s.heap.objs.size := Heap.lt_size hob
  generalize hh1 : s.heap.push (setFresh w) = h1
  have atN : h1.get? s.heap.objs.size = some (setFresh w) := by rw [← hh1]; exact Heap.get?_push_size _ rfl
  have old1 : ∀ b o, s.heap.get? b = some o → h1.get? b = some o := fun b o e => by rw [← hh1]; exact Heap.get?_push_of_some _ e
  have sz1 : h1.objs.size = s.heap.objs.size + 1 := by rw [← hh1]; exact Heap.size_push ..
  have q1 := F.sub_list_set
  have q2 := F.sub_list_frozenset
  have q3 : (Value.type "list" == Value.type "dict") = false := by decide
  have hob1 := old1 _ _ hob
  have lst1 : h1.IsList l items := ⟨_, hob1, rfl, nl, rfl⟩
  unfold Builtin.«set.__init__» noKeywords Builtin.Frozenset.updateFrom
  generalize hPI : pyIter = PI
  wp_walk
  subst hPI
  refine wpAny_pyIter_list lst1 (wpAny_bind (wpAny_runValue ?_))
  have un : A.in1.in1.in1.handled = none := by simp [hh]
  have nI : l ≠ h1.objs.size := by rw [sz1]; exact Nat.ne_of_lt (Nat.lt_succ_of_lt lS)
  have notin : s.heap.objs.size ∉ [h1.objs.size, l] := by
    rw [sz1]
    simp only [List.mem_cons, List.not_mem_nil, or_false, not_or]
    exact ⟨Nat.ne_of_lt (Nat.lt_succ_self _), Nat.ne_of_gt lS⟩
  refine set_update_ints ((Walks.list un _ l nI items).toS) s.heap.objs.size notin ns cnt hb (fun i v hv => ?_) (items.size - 0) 0 _ (by omega) (Nat.zero_le _) ⟨⟨_, Heap.get?_push_size _ rfl, rfl, rfl⟩, lst1.push _⟩ ⟨0, Nat.le_refl 0, setR_new_at (Heap.get?_push_of_some _ atN)⟩ fun s' c mv cle R => ?_
  · have hi : i < ns.length := by rw [← cnt]; exact (Array.getElem?_eq_some_iff.mp hv).1
    obtain ⟨t, e⟩ := PyProof.Rows.IntsAre.int_at hit i v (by rw [Array.getElem?_toList]; exact hv)
    refine ⟨ns[i], t, List.getElem?_eq_getElem hi, ?_⟩
    rw [e, List.getD_eq_getElem?_getD, List.getElem?_eq_getElem hi] <;> rfl
  · obtain ⟨g1, g2, g3, g4, g5⟩ := s'
    obtain rfl : g2 = s.gens := mv.gens
    obtain rfl : g3 = s.drawn := mv.drawn
    obtain rfl : g5 = s.os := mv.os
    refine wpAny_pure ?_
    show wpAny _ _ (ret Value.none) _ _ _
    rw [cnt] at cle
    refine wpAny_pure ⟨rfl, g1, g4, c, rfl, R, cle, fun b o e => ?_⟩
    have lb := Heap.lt_size e
    refine mv.heap b o ?_ (Heap.get?_push_of_some _ (old1 b o e))
    rw [sz1]
    simp only [List.mem_cons, List.not_mem_nil, or_false, not_or]
    exact ⟨Nat.ne_of_lt lb, Nat.ne_of_lt (Nat.lt_succ_of_lt lb)⟩
set_option maxHeartbeats 3200000 in
theorem set_of_list {l : Addr} {items : Array Value} (ns : List Int) {Q : Value → Shared → Prop} (hh : A.handled = none) (hl : s.heap.IsList l items) (hit : IntsAre items.toList ns) (hb : ns.length + 1 < scanBound) (h : SetMade w s ns Q) :
    wpAny (model P w) A (call (.type "set") [.ref l]) Q E s := by
  have C := F.called_set
  obtain ⟨m0, ml, mro⟩ := C.mro
  have e1 := C.made
  have e2 := C.sub
  have e3 := C.notType
  have e4 := C.canCreate
  have e5 := F.typeCall_set_1 (.ref l)
  refine wpAny_call (codeAny_of_tree ?_)
  show wpAny _ _ (callAny (.type "set") _) _ _ _
  refine wpAny_pure ⟨Code.quiet_builtin _ (by decide +kernel), codeAny_builtin F.entry_type_call ?_⟩
  rw [Around.under_plain (weight_type_call_type "set" [.ref l] []) rfl]
  repeat (any_goals (first | assumption | wp_step))
  refine codeAny_mono (code_set_led1 (.ref l) (E := E) (Q₁ := fun ob s₁ => ob = .ref s.heap.objs.size ∧ s₁ = { s with heap := s.heap.push (setFresh w) }) ⟨rfl, rfl⟩) fun r s₁ hr => ?_
  match r, hr with
  | .error _, hr => exact hr
  | .ok (.ret ob), hr =>
    obtain ⟨rfl, rfl⟩ := hr
    have tyN : Shared.TypeIs { s with heap := s.heap.push (setFresh w) } (.ref s.heap.objs.size) "set" := ⟨_, Heap.get?_push_size _ rfl, rfl⟩
    have i1 := C.init.lookup
    have i2 := C.init.bind (.ref s.heap.objs.size)
    repeat (any_goals (first | assumption | wp_step))
    refine codeAny_mono (codeAny_call_builtin (R := wants (SetFilled w s ns) E) C.init.plain F.entry_set_init (check_set_init_1 tyN ?_)) fun r₂ s₂ hr₂ => ?_
    · exact set_filled ns hh hl hit hb
    · match r₂, hr₂ with
      | .error _, hr₂ => exact hr₂
      | .ok (.ret _), hr₂ =>
        obtain ⟨rfl, h', tk, c, rfl, R, cle, old⟩ := hr₂
        repeat (any_goals (first | assumption | wp_step))
        exact h _ _ _ R cle old
end
/-- set(xs), xs a list of whole numbers -/
def rSetOf (K : PySem.W.Frag) (w : World) : List V → Hp → VK → Prop := fun vs H Q => ∃ (a : Addr) (ns : List Int), vs = [.ref a] ∧ SqL K H a (ns.map V.int) ∧ ns.length ≤ 1000 ∧ ∀ p c (es : List Int), H p = none → es.Nodup → (∀ k, k ∈ es ↔ k ∈ ns) → es.length = c → Q (.ref p) (upd H p (SetO w p (fun j => decide (j ∈ ns)) c))
theorem cr_setOf {X : Cx} (hc : X.calm = true) : CallR X (.type "set") (rSetOf X.K X.w) := by
  intro pins s σ H vs us Q I r h
  obtain ⟨a, ns, rfl, hs, hl, q⟩ := h
  obtain ⟨its, rv, hi, _⟩ := I.list hs
  rw [Vals.ref1 r]
  refine set_of_list ns (I.ok.hd hc) hi.isList rv.ints (by unfold scanBound; omega) fun h' tk c R cle old => ?_
  refine ⟨.ref _, upd H s.heap.objs.size (SetO X.w s.heap.objs.size (fun j => decide (j ∈ ns)) c), I.laid (t' := tk) old (Nat.le_refl _) (setO_new R), rfl, ?_⟩
  obtain ⟨o, es, ep, t, _, _, _, _, nd, hm, _, _, hn, _⟩ := R
  refine q _ c (es.toList.map keyOf) (I.hok.fresh (Nat.le_refl _)) nd (fun k => ?_) (by rw [List.length_map, Array.length_toList]; exact hn)
  rw [← hm k, decide_eq_true_iff]
/-- a for over range(lo, n) -/
theorem w_range2 {σ : L2.St} {H : Hp} {a : L2.St → Hp → Prop} {b : VK} {g : TG} {tb : TS} {lo n : Int} (h1 : -(2 ^ 62) ≤ lo ∧ lo < 2 ^ 62 ∧ -(2 ^ 62) ≤ n ∧ n < 2 ^ 62) (Pv : Nat → L2.St → Hp → Prop) (h0 : Pv 0 σ H)
    (hs : ∀ i σ H, i < (n - lo).toNat → Pv i σ H → g (.int (lo + i)) σ H fun σ2 H2 => tb ⟨Pv (i + 1), b, a, Pv (i + 1)⟩ σ2 H2) (hd : ∀ σ H, Pv (n - lo).toNat σ H → a σ H) :
    ∃ i j : Int, [V.int lo, .int n] = [.int i, .int j] ∧ (-(2 ^ 62) ≤ i ∧ i < 2 ^ 62 ∧ -(2 ^ 62) ≤ j ∧ j < 2 ^ 62) ∧ ForEnd g tb a b σ (Itr i (j - i).toNat) H :=
  ⟨lo, n, rfl, h1, for_range (D := ⟨a, b, fun _ _ => False, fun _ _ => False⟩) Pv h0 hs hd⟩
end Wd
namespace K09
open PySem PySem.Spec PyProof.Rows L2 Wd
def top (i : Nat) : Stmt := PySem.Challenge.pw_windowdog_k09_levels.main.body.getD i (.Pass ⟨0, 0, 0, 0⟩)
/-- the built-in names that the text calls -/
structure Txt (K : PySem.W.Frag) (mg : Str → Option Value) : Prop where
  n_isinstance : mg "isinstance" = none
  n_len : mg "len" = none
  n_int : mg "int" = none
  n_bool : mg "bool" = none
  n_range : mg "range" = none
  n_list : mg "list" = none
  n_tuple : mg "tuple" = none
  n_str : mg "str" = none
  n_sum : mg "sum" = none
section
variable {P : Program} {w : World} {K : PySem.W.Frag} {mg : Str → Option Value} {base : Heap}
abbrev s_law_start : Stmt := top 25
theorem sc_law_start : FnScope ["_law_script", "_law_mixed", "_law_cell"] ["_law_script"] (C8.fnScope s_law_start) := C8.fnScope_by (by decide +kernel)
def sp_start (K : PySem.W.Frag) : Sp := fun vs H Q _ => ∃ (B : Hp) (sc : Addr) (ns : List Int), vs = [.ref sc] ∧ SqL K B sc (ns.map V.int) ∧ Same B H ∧ ns.length ≤ 63 ∧ ∀ H' S, H S = none → Same H H' → Dst K B H' S → Q (.ref S) H'
theorem ok_start (T : Txt K mg) {f : Addr} {fd : FuncData} (D : C8.Def K mg "_law_start" s_law_start f fd) (b : Binds K fd ["_law_script"] []) : C8.Cal P w K mg base 1 "_law_start" (sp_start K) [] := by
  refine C8.cal0 D b .nil sc_law_start (fun vs H Q E h => ?_) fun cdv A outer s H vs Q E hr h => ?_
  · obtain ⟨B, sc, ns, rfl, _⟩ := h; rfl
  · obtain ⟨B, sc, ns, rfl, hB, sB, hl, q⟩ := h
    have hS := list_same sB hB
    have nd := sc_law_start.nd
    refine ⟨_, (pss_cons (ps_set (i := 1) nd rfl (Or.inl rfl) pe_int)
      (pss_cons (ps_for PassesOwn.never rfl (pi_list (pv 0)) (pg_name (i := 2) nd rfl (Or.inl rfl)) (pss_one (ps_set (i := 1) nd rfl (Or.inl rfl) (pe_op op_mod (pe_op op_add (pe_op op_add (pe_op op_mulW (pv 1) pe_int) (pv 2)) pe_int) pe_int))))
      (pss_one (ps_ret (pe_lst (pa_cons (pv 0) (pa_cons pe_int (pa_cons (pv 1) (pa_cons pe_int pa_nil))))))))), ?_⟩
    walk_at "go"
    refine w_list (xs := ns.map V.int) (fun i σ H' => H' = H ∧ ∃ (m : Int) (v : Option V), σ = [some (.ref sc), some (.int m), v] ∧ 0 ≤ m ∧ m < 2147483647) ?_ ?_ ?_ ?_
    · exact ⟨rfl, 1, none, rfl, by decide, by decide⟩
    · rintro i σ H' _ ⟨rfl, _⟩; exact hS
    · rintro i x σ H' hx ⟨rfl, m, v, rfl, h1, h2⟩
      obtain ⟨c, hc, rfl⟩ := map_at hx
      walk_at "go"
      refine g_I (mulW_small h1 (by omega) (by decide) (by decide)) ?_
      walk_at "go"
      refine g_I (show (0 : Int) < 2147483647 by decide) ?_
      walk_at "go"
      exact ⟨rfl, _, _, rfl, by omega, by omega⟩
    · rintro σ H' ⟨rfl, m, v, rfl, h1, h2⟩
      walk_at "go"
      intro S hn
      exact q _ S hn (same_new hn) ⟨sc, ns, 0, m, 0, upd_same, .of hB (fun _ _ h => h) (Same.back sB hn), .of (sB.trans (same_new hn)), hl, by decide, h1, h2⟩

abbrev s_law_drawn : Stmt := top 26
theorem sc_law_drawn : FnScope ["_law_state", "_law_many", "_law_found", "_law_cell"] ["_law_state", "_law_many"] (C8.fnScope s_law_drawn) := C8.fnScope_by (by decide +kernel)
def sp_drawn (K : PySem.W.Frag) : Sp := fun vs H Q _ => ∃ (B : Hp) (S : Addr) (n : Int), vs = [.ref S, .int n] ∧ Dst K B H S ∧ 0 < n ∧ n < 10 ^ 38 ∧ ∀ H' v, Frm S H H' → Dst K B H' S → 0 ≤ v → v < n → Q (.int v) H'
theorem ok_drawn (T : Txt K mg) {f : Addr} {fd : FuncData} (D : C8.Def K mg "_law_drawn" s_law_drawn f fd) (b : Binds K fd ["_law_state", "_law_many"] []) : C8.Cal P w K mg base 1 "_law_drawn" (sp_drawn K) [] := by
  refine C8.cal0 D b .nil sc_law_drawn (fun vs H Q E h => ?_) fun cdv A outer s H vs Q E hr h => ?_
  · obtain ⟨B, S, n, rfl, _⟩ := h; rfl
  · obtain ⟨B, S, n, rfl, ⟨sc, ns, c, m, r, hS, hsB, fB, hl, c0, m0, m1⟩, n0, n1, q⟩ := h
    have hsc := hsB.frm fB
    have nd := sc_law_drawn.nd
    refine ⟨_, (pss_cons (ps_if (pt_cmpR op_gt (pe_ix (r := rIxL K) ix_list (pv 0) pe_int (fun _ _ => rfl)) pe_int (nomark _)) (pss_cons (ps_set (i := 2) nd rfl (Or.inl rfl) (pe_op op_mod (pe_ix (r := rIxL K) ix_list (pv 0) pe_int (fun _ _ => rfl)) (pv 1)))
      (pss_cons (ps_asg (pe_op op_fdivW (pe_ix (r := rIxL K) ix_list (pv 0) pe_int (fun _ _ => rfl)) (pv 1)) (pg_sub (pv 0) pe_int set_list))
      (pss_one (ps_ret (pv 2))))) pss_nil)
      (pss_cons (ps_asg (pe_op op_add (pe_ix (r := rIxL K) ix_list (pv 0) pe_int (fun _ _ => rfl)) pe_int) (pg_sub (pv 0) pe_int set_list))
      (pss_cons (ps_if (pt_cmpR op_le (pe_ix (r := rIxL K) ix_list (pv 0) pe_int (fun _ _ => rfl)) (pe_callB (r := Wd.rLen K) call_len1 (by rfl) T.n_len PySem.boot_len (pa_cons (pe_ix (r := rIxL K) ix_list (pv 0) pe_int (fun _ _ => rfl)) pa_nil)) (nomark _)) (pss_cons (ps_set (i := 3) nd rfl (Or.inl rfl) (pe_ix (r := rIxL K) ix_list (pe_ix (r := rIxL K) ix_list (pv 0) pe_int (fun _ _ => rfl)) (pe_op op_sub (pe_ix (r := rIxL K) ix_list (pv 0) pe_int (fun _ _ => rfl)) pe_int) (fun _ _ => rfl)))
      (pss_cons (ps_asg (pe_ifExp (pt_cmpR op_ge (pv 3) (pe_op op_pow pe_int pe_int) (nomark _)) (pe_op op_fdivW (pv 3) (pv 1)) pe_int) (pg_sub (pv 0) pe_int set_list))
      (pss_one (ps_ret (pe_op op_mod (pv 3) (pv 1)))))) pss_nil)
      (pss_cons (ps_asg (pe_op op_mod (pe_op op_add (pe_op op_mulW (pe_ix (r := rIxL K) ix_list (pv 0) pe_int (fun _ _ => rfl)) pe_int) pe_int) pe_int) (pg_sub (pv 0) pe_int set_list))
      (pss_one (ps_ret (pe_op op_mod (pe_op op_fdivW (pe_ix (r := rIxL K) ix_list (pv 0) pe_int (fun _ _ => rfl)) pe_int) (pv 1)))))))), ?_⟩
    walk_at "go"
    refine g_ixL (SqL.of hS) rfl ?_
    walk_at "go"
    refine g_ite (fun hr0 => ?_) (fun hr0 => ?_)
    · walk_at "go"
      refine g_ixL (SqL.of hS) rfl ?_
      walk_at "go"
      refine g_I n0 ?_
      walk_at "go"
      refine g_ixL (SqL.of hS) rfl ?_
      walk_at "go"
      refine g_I (divW_small n0 n1) ?_
      walk_at "go"
      refine g_setL hS rfl ?_
      walk_at "go"
      exact q _ _ .set ⟨sc, ns, c, m, r / n, upd_same, hsB, fB.trans .set, hl, c0, m0, m1⟩ (Int.emod_nonneg _ (by omega)) (Int.emod_lt_of_pos _ n0)
    · walk_at "go"
      refine g_ixL (SqL.of hS) rfl ?_
      walk_at "go"
      refine g_setL hS rfl ?_
      walk_at "go"
      refine g_ixL (SqL.of upd_same) rfl ?_
      walk_at "go"
      refine g_ixL (SqL.of upd_same) rfl ?_
      walk_at "go"
      refine g_len (.inl (hsc.frm .set).sq) ?_
      walk_at "go"
      rw [List.length_map]
      refine g_ite (fun hc => ?_) (fun hc => ?_)
      · walk_at "go"
        refine g_ixL (SqL.of upd_same) rfl ?_
        walk_at "go"
        refine g_ixL (SqL.of upd_same) rfl ?_
        walk_at "go"
        have hcl : c.toNat < ns.length := by omega
        refine g_ixL (hsc.frm .set).sq (at_of (j := c.toNat) (v := V.int (ns[c.toNat]'hcl)) (by omega) (by rw [List.getElem?_map, List.getElem?_eq_getElem hcl]; rfl)) ?_
        generalize ns[c.toNat]'hcl = z
        walk_at "go"
        refine g_I (pow_small (by decide) (by decide) (by decide)) ?_
        walk_at "go"
        have fin : ∀ x : Int, Frm S H (upd (upd H S (HO.lst [V.ref sc, V.int (c + 1), V.int m, V.int r])) S (HO.lst [V.ref sc, V.int (c + 1), V.int m, V.int x])) ∧ Dst K B (upd (upd H S (HO.lst [V.ref sc, V.int (c + 1), V.int m, V.int r])) S (HO.lst [V.ref sc, V.int (c + 1), V.int m, V.int x])) S := fun x =>
          ⟨Frm.set.trans .set, sc, ns, c + 1, m, x, upd_same, hsB, (fB.trans .set).trans .set, hl, by omega, m0, m1⟩
        refine g_ite (fun hz => ?_) (fun hz => ?_)
        · walk_at "go"
          refine g_I (divW_small n0 n1) ?_
          walk_at "go"
          refine g_setL upd_same rfl ?_
          walk_at "go"
          refine g_I n0 ?_
          exact q _ _ (fin _).1 (fin _).2 (Int.emod_nonneg _ (by omega)) (Int.emod_lt_of_pos _ n0)
        · walk_at "go"
          refine g_setL upd_same rfl ?_
          walk_at "go"
          refine g_I n0 ?_
          exact q _ _ (fin _).1 (fin _).2 (Int.emod_nonneg _ (by omega)) (Int.emod_lt_of_pos _ n0)
      · walk_at "go"
        refine g_ixL (SqL.of upd_same) rfl ?_
        walk_at "go"
        refine g_I (mulW_small m0 (by omega) (by decide) (by decide)) ?_
        walk_at "go"
        refine g_I (show (0 : Int) < 2147483647 by decide) ?_
        walk_at "go"
        refine g_setL upd_same rfl ?_
        walk_at "go"
        refine g_ixL (SqL.of upd_same) rfl ?_
        walk_at "go"
        refine g_I (divW_small (by decide) (by decide)) ?_
        walk_at "go"
        refine g_I n0 ?_
        exact q _ _ (Frm.set.trans .set) ⟨sc, ns, c + 1, _, r, upd_same, hsB, (fB.trans .set).trans .set, hl, by omega, Int.emod_nonneg _ (by decide), Int.emod_lt_of_pos _ (by decide)⟩ (Int.emod_nonneg _ (by omega)) (Int.emod_lt_of_pos _ n0)
theorem use_drawn {B H : Hp} {S : Addr} {n : Int} {Q : VK} {E : XK} (d : Dst K B H S) (h0 : 0 < n) (h1 : n < 10 ^ 38) (k : ∀ H' v, Frm S H H' → Dst K B H' S → 0 ≤ v → v < n → Q (.int v) H') : sp_drawn K ([.ref S, .int n] ++ []) H Q E := ⟨B, S, n, rfl, d, h0, h1, k⟩

abbrev s_law_same : Stmt := top 27
theorem sc_law_same : FnScope ["_law_found", "_law_due", "_law_k"] ["_law_found", "_law_due"] (C8.fnScope s_law_same) := C8.fnScope_by (by decide +kernel)
/-- two things of the same data: told to be the same -/
def sp_same (K : PySem.W.Frag) : Nat → Sp
  | 0 => fun _ _ _ _ => False
  | n + 1 => fun vs H Q _ => ∃ (x y : V) (d : PyData), vs = [x, y] ∧ Dp K H x d ∧ Dp K H y d ∧ OkD n d ∧ ∀ H', Same H H' → Q (.bl true) H'
theorem same_step (T : Txt K mg) {n : Nat} {f : Addr} {fd : FuncData} (D : C8.Def K mg "_law_same" s_law_same f fd) (b : Binds K fd ["_law_found", "_law_due"] []) (g_law_same : C8.Cal P w K mg base n "_law_same" (sp_same K n) []) : C8.Cal P w K mg base (n + 1) "_law_same" (sp_same K (n + 1)) [] := by
  refine C8.cal0 D b .nil sc_law_same (fun vs H Q E h => ?_) fun cdv A outer s H vs Q E hr h => ?_
  · obtain ⟨x, y, d, rfl, _⟩ := h; rfl
  · obtain ⟨x, y, d, rfl, hx, hy, ok, q⟩ := h
    have nd := sc_law_same.nd
    have hr : Room n _ := hr
    refine ⟨_, (pss_cons (ps_if (pt_val (pe_callB (r := rIsiT K) call_isiT (by rfl) T.n_isinstance (by decide +kernel) (pa_cons (pv 1) (pa_cons (pe_tup (pa_cons (pe_bltn (v := .ty "tuple") (by rfl) T.n_tuple (by decide +kernel) rfl) (pa_cons (pe_bltn (v := .ty "list") (by rfl) T.n_list (by decide +kernel) rfl) pa_nil))) pa_nil)))) (pss_cons (ps_if (PW.pt (pw_or (pt_not (pt_val (pe_callB (r := rIsiT K) call_isiT (by rfl) T.n_isinstance (by decide +kernel) (pa_cons (pv 0) (pa_cons (pe_tup (pa_cons (pe_bltn (v := .ty "tuple") (by rfl) T.n_tuple (by decide +kernel) rfl) (pa_cons (pe_bltn (v := .ty "list") (by rfl) T.n_list (by decide +kernel) rfl) pa_nil))) pa_nil))))) (pw_or1 (pt_cmpR op_ne (pe_callB (r := rIsi K) call_isi (by rfl) T.n_isinstance (by decide +kernel) (pa_cons (pv 0) (pa_cons (pe_bltn (v := .ty "list") (by rfl) T.n_list (by decide +kernel) rfl) pa_nil))) (pe_callB (r := rIsi K) call_isi (by rfl) T.n_isinstance (by decide +kernel) (pa_cons (pv 1) (pa_cons (pe_bltn (v := .ty "list") (by rfl) T.n_list (by decide +kernel) rfl) pa_nil))) (nomark _))))) (pss_one (ps_ret pe_bl)) pss_nil)
      (pss_cons (ps_if (pt_cmpR op_ne (pe_callB (r := Wd.rLen K) call_len1 (by rfl) T.n_len PySem.boot_len (pa_cons (pv 0) pa_nil)) (pe_callB (r := Wd.rLen K) call_len1 (by rfl) T.n_len PySem.boot_len (pa_cons (pv 1) pa_nil)) (nomark _)) (pss_one (ps_ret pe_bl)) pss_nil)
      (pss_one (ps_ret (pe_cmpR (r := rEqD K) (op_eqD hr.units) (pe_lc (own := [("_law_k", 2)]) (g := gName 2) rfl nd (pi_range1 rfl T.n_range (pa_cons (pe_callB (r := Wd.rLen K) call_len1 (by rfl) T.n_len PySem.boot_len (pa_cons (pv 1) pa_nil)) pa_nil)) (blkOk_by (N := ["_law_found", "_law_due", "_law_k"]) (sc := C8.fnScope s_law_same) (by decide +kernel)) (fun _ _ _ _ _ => pg_name (i := 2) nd rfl (Or.inl rfl)) (fun _ _ _ _ _ => pts_one (pt_not (pt_val (C8.pe_c g_law_same hr (by first | decide | exact Nat.le_refl _ | omega) (by rfl) (pa_cons (pe_ix (r := rIx K) ix_seq (pv 0) (pv 2) (fun _ _ => rfl)) (pa_cons (pe_ix (r := rIx K) ix_seq (pv 1) (pv 2) (fun _ _ => rfl)) pa_nil)))))) (fun _ _ _ _ _ => (pv 2))) (pe_lst pa_nil) (nomark _)))))) pss_nil)
      (pss_cons (ps_if (pt_cmpR op_isN1 (pv 1) pe_non (nomark _)) (pss_one (ps_ret (pe_cmpR op_isN1 (pv 0) pe_non (nomark _)))) pss_nil)
      (pss_cons (ps_if (pt_val (pe_callB (r := rIsi K) call_isi (by rfl) T.n_isinstance (by decide +kernel) (pa_cons (pv 1) (pa_cons (pe_bltn (v := .ty "str") (by rfl) T.n_str (by decide +kernel) rfl) pa_nil)))) (pss_one (ps_ret (pe_and (pe_callB (r := rIsi K) call_isi (by rfl) T.n_isinstance (by decide +kernel) (pa_cons (pv 0) (pa_cons (pe_bltn (v := .ty "str") (by rfl) T.n_str (by decide +kernel) rfl) pa_nil))) (pe_one (pe_cmpR op_eq (pv 0) (pv 1) (nomark _)))))) pss_nil)
      (pss_cons (ps_if (PW.pt (pw_or (pt_val (pe_callB (r := rIsi K) call_isi (by rfl) T.n_isinstance (by decide +kernel) (pa_cons (pv 1) (pa_cons (pe_bltn (v := .ty "bool") (by rfl) T.n_bool (by decide +kernel) rfl) pa_nil)))) (pw_or1 (pt_val (pe_callB (r := rIsi K) call_isi (by rfl) T.n_isinstance (by decide +kernel) (pa_cons (pv 0) (pa_cons (pe_bltn (v := .ty "bool") (by rfl) T.n_bool (by decide +kernel) rfl) pa_nil))))))) (pss_one (ps_ret (pe_and (pe_callB (r := rIsi K) call_isi (by rfl) T.n_isinstance (by decide +kernel) (pa_cons (pv 1) (pa_cons (pe_bltn (v := .ty "bool") (by rfl) T.n_bool (by decide +kernel) rfl) pa_nil))) (pe_and (pe_callB (r := rIsi K) call_isi (by rfl) T.n_isinstance (by decide +kernel) (pa_cons (pv 0) (pa_cons (pe_bltn (v := .ty "bool") (by rfl) T.n_bool (by decide +kernel) rfl) pa_nil))) (pe_one (pe_cmpR op_eq (pv 0) (pv 1) (nomark _))))))) pss_nil)
      (pss_one (ps_ret (pe_and (pe_callB (r := rIsi K) call_isi (by rfl) T.n_isinstance (by decide +kernel) (pa_cons (pv 0) (pa_cons (pe_bltn (v := .ty "int") (by rfl) T.n_int (by decide +kernel) rfl) pa_nil))) (pe_one (pe_cmpR op_eq (pv 0) (pv 1) (nomark _)))))))))), ?_⟩
    walk_at "go"
    intro t1 ht1
    walk_at "go"
    have s1 := same_new (o := .tup [.ty "tuple", .ty "list"]) ht1
    have cls : Paired ClsV [.ty "tuple", .ty "list"] [.type "tuple", .type "list"] := .cons (.ty _) (.cons (.ty _) .nil)
    have hy1 := Dp_same s1 d y hy
    have hx1 := Dp_same s1 d x hx
    cases ok with
    | non =>
      cases hy1; cases hx1
      refine g_isiT upd_same cls (.base .non) (kit2 (r1 := false) (r2 := false) (by decide +kernel) (by decide +kernel)) ?_
      walk_at "go"
      exact q _ s1
    | str z =>
      cases hy1; cases hx1
      refine g_isiT upd_same cls (.base (.str _)) (kit2 (r1 := false) (r2 := false) (by decide +kernel) (by decide +kernel)) ?_
      walk_at "go"
      refine g_isiB (.ty _) (.base (.str _)) (b := true) (by decide +kernel) ?_
      walk_at "go"
      refine g_isiB (.ty _) (.base (.str _)) (b := true) (by decide +kernel) ?_
      walk_at "go"
      rw [decide_eq_true rfl]
      exact q _ s1
    | bl z =>
      cases hy1; cases hx1
      refine g_isiT upd_same cls (.base (.bl _)) (kit2 (r1 := false) (r2 := false) (by decide +kernel) (by decide +kernel)) ?_
      walk_at "go"
      refine g_isiB (.ty _) (.base (.bl _)) (b := false) (by decide +kernel) ?_
      walk_at "go"
      refine g_isiB (.ty _) (.base (.bl _)) (b := true) (by decide +kernel) ?_
      walk_at "go"
      refine g_isiB (.ty _) (.base (.bl _)) (b := true) (by decide +kernel) ?_
      walk_at "go"
      refine g_isiB (.ty _) (.base (.bl _)) (b := true) (by decide +kernel) ?_
      walk_at "go"
      rw [beq_self_eq_true]
      exact q _ s1
    | int z =>
      cases hy1; cases hx1
      refine g_isiT upd_same cls (.base (.int _)) (kit2 (r1 := false) (r2 := false) (by decide +kernel) (by decide +kernel)) ?_
      walk_at "go"
      refine g_isiB (.ty _) (.base (.int _)) (b := false) (by decide +kernel) ?_
      walk_at "go"
      refine g_isiB (.ty _) (.base (.int _)) (b := false) (by decide +kernel) ?_
      walk_at "go"
      refine g_isiB (.ty _) (.base (.int _)) (b := false) (by decide +kernel) ?_
      walk_at "go"
      refine g_isiB (.ty _) (.base (.int _)) (b := true) (by decide +kernel) ?_
      walk_at "go"
      rw [decide_eq_true rfl]
      exact q _ s1
    | @lst m ds hl hd =>
      cases hy1 with
      | @lst ay ys _ sy py =>
      cases hx1 with
      | @lst ax xs _ sx px =>
      refine g_isiT upd_same cls (ty_list sy) (kit2 (r1 := false) (r2 := true) (by decide +kernel) (by decide +kernel)) ?_
      walk_at "go"
      intro t2 ht2
      have s2 := s1.trans (same_new (o := .tup [.ty "tuple", .ty "list"]) ht2)
      have e2 := same_new (o := .tup [.ty "tuple", .ty "list"]) ht2
      walk_at "go"
      refine g_isiT upd_same cls (ty_list (list_same e2 sx)) (kit2 (r1 := false) (r2 := true) (by decide +kernel) (by decide +kernel)) ?_
      walk_at "go"
      refine g_isiB (.ty _) (ty_list (list_same e2 sx)) (b := true) (by decide +kernel) ?_
      walk_at "go"
      refine g_isiB (.ty _) (ty_list (list_same e2 sy)) (b := true) (by decide +kernel) ?_
      walk_at "go"
      refine g_len (.inl (list_same e2 sx)) ?_
      walk_at "go"
      refine g_len (.inl (list_same e2 sy)) ?_
      walk_at "go"
      rw [DpAll.len px, DpAll.len py]
      refine g_iteN (fun hh => absurd rfl hh) (fun _ => ?_)
      walk_at "go"
      refine g_len (.inl (list_same e2 sy)) ?_
      walk_at "go"
      rw [DpAll.len py]
      refine w_lcRange (by omega) (by omega) (fun D i H' => Same (upd H t1 (.tup [.ty "tuple", .ty "list"])) H' ∧ H' D = some (.lst [])) ?_ ?_ ?_
      · intro D hD
        exact ⟨e2.trans (same_new hD), upd_same⟩
      · rintro D i H' hD hi ⟨sm, eD⟩
        have hi' : i < ds.length := by omega
        have hdi : ds[i]? = some ds[i] := List.getElem?_eq_getElem hi'
        obtain ⟨vx, hvx, dvx⟩ := DpAll.at px hdi
        obtain ⟨vy, hvy, dvy⟩ := DpAll.at py hdi
        walk_at "go"
        refine ⟨rfl, ?_⟩
        walk_at "go"
        refine .inl ⟨ax, xs, _, vx, rfl, rfl, list_same sm sx, at_of (j := i) rfl hvx, ?_⟩
        walk_at "go"
        refine .inl ⟨ay, ys, _, vy, rfl, rfl, list_same sm sy, at_of (j := i) rfl hvy, ?_⟩
        walk_at "go"
        refine ⟨vx, vy, ds[i], rfl, Dp_same sm _ _ dvx, Dp_same sm _ _ dvy, hd _ (List.getElem_mem hi'), fun H3 s3 => ?_⟩
        walk_at "go"
        exact ⟨sm.trans s3, s3 _ _ eD⟩
      · rintro D H' hD ⟨sm, eD⟩
        walk_at "go"
        intro z hz
        walk_at "go"
        refine g_eqLI (ns := []) (ms := []) (SqL.of (same_new hz _ _ eD)) (SqL.of upd_same) ?_
        walk_at "go"
        exact q _ ((s1.trans sm).trans (same_new hz))
    | @tup m ds hl hd =>
      cases hy1 with
      | @tup ay ys _ sy py =>
      cases hx1 with
      | @tup ax xs _ sx px =>
      refine g_isiT upd_same cls (ty_tup sy) (kit2 (r1 := true) (r2 := false) (by decide +kernel) (by decide +kernel)) ?_
      walk_at "go"
      intro t2 ht2
      have s2 := s1.trans (same_new (o := .tup [.ty "tuple", .ty "list"]) ht2)
      have e2 := same_new (o := .tup [.ty "tuple", .ty "list"]) ht2
      walk_at "go"
      refine g_isiT upd_same cls (ty_tup (tup_same e2 sx)) (kit2 (r1 := true) (r2 := false) (by decide +kernel) (by decide +kernel)) ?_
      walk_at "go"
      refine g_isiB (.ty _) (ty_tup (tup_same e2 sx)) (b := false) (by decide +kernel) ?_
      walk_at "go"
      refine g_isiB (.ty _) (ty_tup (tup_same e2 sy)) (b := false) (by decide +kernel) ?_
      walk_at "go"
      refine g_len (.inr (tup_same e2 sx)) ?_
      walk_at "go"
      refine g_len (.inr (tup_same e2 sy)) ?_
      walk_at "go"
      rw [DpAll.len px, DpAll.len py]
      refine g_iteN (fun hh => absurd rfl hh) (fun _ => ?_)
      walk_at "go"
      refine g_len (.inr (tup_same e2 sy)) ?_
      walk_at "go"
      rw [DpAll.len py]
      refine w_lcRange (by omega) (by omega) (fun D i H' => Same (upd H t1 (.tup [.ty "tuple", .ty "list"])) H' ∧ H' D = some (.lst [])) ?_ ?_ ?_
      · intro D hD
        exact ⟨e2.trans (same_new hD), upd_same⟩
      · rintro D i H' hD hi ⟨sm, eD⟩
        have hi' : i < ds.length := by omega
        have hdi : ds[i]? = some ds[i] := List.getElem?_eq_getElem hi'
        obtain ⟨vx, hvx, dvx⟩ := DpAll.at px hdi
        obtain ⟨vy, hvy, dvy⟩ := DpAll.at py hdi
        walk_at "go"
        refine ⟨rfl, ?_⟩
        walk_at "go"
        refine .inr (.inl ⟨ax, xs, _, vx, rfl, rfl, tup_same sm sx, at_of (j := i) rfl hvx, ?_⟩)
        walk_at "go"
        refine .inr (.inl ⟨ay, ys, _, vy, rfl, rfl, tup_same sm sy, at_of (j := i) rfl hvy, ?_⟩)
        walk_at "go"
        refine ⟨vx, vy, ds[i], rfl, Dp_same sm _ _ dvx, Dp_same sm _ _ dvy, hd _ (List.getElem_mem hi'), fun H3 s3 => ?_⟩
        walk_at "go"
        exact ⟨sm.trans s3, s3 _ _ eD⟩
      · rintro D H' hD ⟨sm, eD⟩
        walk_at "go"
        intro z hz
        walk_at "go"
        refine g_eqLI (ns := []) (ms := []) (SqL.of (same_new hz _ _ eD)) (SqL.of upd_same) ?_
        walk_at "go"
        exact q _ ((s1.trans sm).trans (same_new hz))
/-- at every depth -/
theorem ok_same (T : Txt K mg) {f : Addr} {fd : FuncData} (D : C8.Def K mg "_law_same" s_law_same f fd) (b : Binds K fd ["_law_found", "_law_due"] []) : ∀ n : Nat, C8.Cal P w K mg base n "_law_same" (sp_same K n) []
  | 0 => ⟨f, fd, ["_law_found", "_law_due"], [], ⟨fun _ _ _ _ h => h.elim, fun _ _ _ _ _ _ _ _ _ _ _ _ _ h => h.elim⟩, D.mgf, D.kp, b, .nil⟩
  | n + 1 => same_step T D b (ok_same T D b n)
theorem use_same {n : Nat} {x y : V} {d : PyData} {H : Hp} {Q : VK} {E : XK} (hx : Dp K H x d) (hy : Dp K H y d) (ok : OkD n d) (k : ∀ H', Same H H' → Q (.bl true) H') : sp_same K (n + 1) ([x, y] ++ []) H Q E := ⟨x, y, d, rfl, hx, hy, ok, k⟩
abbrev s_is_number : Stmt := top 12
theorem sc_is_number : FnScope ["value"] ["value"] (C8.fnScope s_is_number) := C8.fnScope_by (by decide +kernel)
def sp_is_number : Sp := fun vs H Q _ => ∃ i : Int, vs = [.int i] ∧ Q (.bl true) H
theorem ok_is_number (T : Txt K mg) {f : Addr} {fd : FuncData} (D : C8.Def K mg "is_number" s_is_number f fd) (b : Binds K fd ["value"] []) : C8.Cal P w K mg base 1 "is_number" sp_is_number [] := by
  refine C8.cal0 D b .nil sc_is_number (fun vs H Q E h => ?_) fun cdv A outer s H vs Q E hr h => ?_
  · obtain ⟨i, rfl, _⟩ := h; rfl
  · obtain ⟨i, rfl, q⟩ := h
    have nd := sc_is_number.nd
    refine ⟨_, (pss_one (ps_ret (pe_and (pe_callB (r := rIsi K) call_isi (by rfl) T.n_isinstance (by decide +kernel) (pa_cons (pv 0) (pa_cons (pe_bltn (v := .ty "int") (by rfl) T.n_int (by decide +kernel) rfl) pa_nil))) (pe_one (pe_not (pe_callB (r := rIsi K) call_isi (by rfl) T.n_isinstance (by decide +kernel) (pa_cons (pv 0) (pa_cons (pe_bltn (v := .ty "bool") (by rfl) T.n_bool (by decide +kernel) rfl) pa_nil)))))))), ?_⟩
    walk_at "go"
    refine g_isi (.ty "int") (.base (.int i)) (kit_ty (r := true) (by decide +kernel)) ?_
    walk_at "go"
    refine g_isi (.ty "bool") (.base (.int i)) (kit_ty (r := false) (by decide +kernel)) ?_
    walk_at "go"
    exact q

abbrev s_is_range : Stmt := top 13
theorem sc_is_range : FnScope ["least", "most", "limit"] ["least", "most", "limit"] (C8.fnScope s_is_range) := C8.fnScope_by (by decide +kernel)
def sp_is_range : Sp := fun vs H Q _ => ∃ i j k : Int, vs = [.int i, .int j, .int k] ∧ (0 ≤ i ∧ i ≤ j ∧ j ≤ k) ∧ Q (.bl true) H
theorem ok_is_range (T : Txt K mg) {f : Addr} {fd : FuncData} (D : C8.Def K mg "is_range" s_is_range f fd) (b : Binds K fd ["least", "most", "limit"] []) (g_is_number : C8.Cal P w K mg base 1 "is_number" sp_is_number []) : C8.Cal P w K mg base 2 "is_range" sp_is_range [] := by
  refine C8.cal0 D b .nil sc_is_range (fun vs H Q E h => ?_) fun cdv A outer s H vs Q E hr h => ?_
  · obtain ⟨i, j, k, rfl, _⟩ := h; rfl
  · obtain ⟨i, j, k, rfl, ⟨h1, h2, h3⟩, q⟩ := h
    have nd := sc_is_range.nd
    refine ⟨_, (pss_one (ps_ret (pe_and (C8.pe_c g_is_number hr (by first | decide | exact Nat.le_refl _ | omega) (by rfl) (pa_cons (pv 0) pa_nil)) (pe_and (C8.pe_c g_is_number hr (by first | decide | exact Nat.le_refl _ | omega) (by rfl) (pa_cons (pv 1) pa_nil)) (pe_one (pe_chain3 op_le op_le op_le pe_int (pv 0) (pv 1) (pv 2))))))), ?_⟩
    walk_at "go"
    refine ⟨i, rfl, ?_⟩
    walk_at "go"
    refine ⟨j, rfl, ?_⟩
    walk_at "go"
    refine g_ite (fun _ => ?_) (fun h => absurd h1 h)
    walk_at "go"
    refine g_ite (fun _ => ?_) (fun h => absurd h2 h)
    walk_at "go"
    rw [decide_eq_true h3]
    exact q

end
end K09
namespace K09
open PySem PySem.Spec PyProof.Rows L2 Wd
/-- the program's names and constants; the refusal NoPlace at CN -/
structure TxtW (K : PySem.W.Frag) (mg : Str → Option Value) (CN : Addr) : Prop extends Txt K mg where
  n_max : mg "max" = none
  n_min : mg "min" = none
  n_sorted : mg "sorted" = none
  n_set : mg "set" = none
  c_GREATEST_HIGH : ∃ t, mg "GREATEST_HIGH" = some (.int 1000 t)
  c_MOST_WORKS : ∃ t, mg "MOST_WORKS" = some (.int 10 t)
  c_LONGEST_WORK : ∃ t, mg "LONGEST_WORK" = some (.int 1000 t)
  g_NoPlace : mg "NoPlace" = some (.ref CN)
  x_NoPlace : PySem.W.excIn K CN [.type "ValueError", .type "Exception", .type "BaseException", .type "object"] "ValueError.__new__" = true
  k_NoPlace : PySem.W.keepIn K (.ref CN) = true
  b_NoPlace : PySem.W.subIn K (.ref CN) (.type "BaseException") = some true
  t_NoPlace : PySem.W.typeIn K (.ref CN) = some (.type "type")
structure TxtR (K : PySem.W.Frag) (CR : Addr) : Prop where
  c : Cls K CR
  nL : NoAttr K CR "low"
  nH : NoAttr K CR "high"
  nW : NoAttr K CR "works"
/-- works in a list -/
abbrev Wk := Addr × Int × Int
structure WkL (H : Hp) (L : Addr) (zs : List Wk) : Prop where
  at_ : H L = some (.lst (zs.map fun z => V.ref z.1))
  own : ∀ z ∈ zs, H z.1 = some (.tup [.int z.2.1, .int z.2.2])
theorem WkL.same {H H' : Hp} {L : Addr} {zs : List Wk} (w : WkL H L zs) (e : Same H H') : WkL H' L zs := ⟨e _ _ w.at_, fun z hz => e _ _ (w.own z hz)⟩
def okZ (zs : List Wk) : Prop := ∀ z ∈ zs, 0 ≤ z.2.1 ∧ z.2.1 ≤ z.2.2 ∧ z.2.2 ≤ 1000
def okW (lo hi : Int) : Prop := 0 ≤ lo ∧ lo ≤ hi ∧ hi ≤ 1000
theorem zs_at {zs : List Wk} {i : Nat} {x : V} (h : (zs.map fun z => V.ref z.1)[i]? = some x) : ∃ z, zs[i]? = some z ∧ x = .ref z.1 := by
  rw [List.getElem?_map] at h
  cases hq : zs[i]? with
  | none => rw [hq] at h; cases h
  | some z => rw [hq] at h; exact ⟨z, rfl, (Option.some.inj h).symm⟩
/-! ### the mirror of a ring -/
def sumA (xs : List (Int × Int)) : Int := (xs.map (·.1)).sum
def sumB (xs : List (Int × Int)) : Int := (xs.map (·.2)).sum
def tim (lo hi : Int) (xs : List (Int × Int)) : Bool := decide (lo ≤ sumA xs ∧ sumB xs ≤ hi)
/-- from behind b up to p, around if need be -/
def gapL {α : Type} (l : List α) (b p : Nat) : List α := if b < p then (l.drop (b + 1)).take (p - b) else l.drop (b + 1) ++ l.take (p + 1)
def fit (lo hi : Int) (ws : List (Int × Int)) (p b : Nat) : Bool := tim lo hi (gapL ws b p)
/-- numbers from s on -/
def ups (s : Nat) : Nat → List Nat
  | 0 => []
  | n + 1 => ups s n ++ [s + n]
theorem ups_mem {s : Nat} : ∀ {n x : Nat}, x ∈ ups s n ↔ s ≤ x ∧ x < s + n
  | 0, x => by constructor; (intro h; cases h); (intro h; omega)
  | n + 1, x => by
    show x ∈ ups s n ++ [s + n] ↔ _
    rw [List.mem_append, List.mem_singleton, ups_mem]
    omega
theorem ups_len (s : Nat) : ∀ n, (ups s n).length = n
  | 0 => rfl
  | n + 1 => by show (ups s n ++ [s + n]).length = _; rw [List.length_append, ups_len s n]; rfl
theorem ups_pw (s : Nat) : ∀ n, (ups s n).Pairwise (· < ·)
  | 0 => List.Pairwise.nil
  | n + 1 => List.pairwise_append.mpr ⟨ups_pw s n, List.pairwise_singleton _ _, fun a ha b hb => by
    rw [List.mem_singleton] at hb; have := (ups_mem.mp ha).2; omega⟩
def firsts (lo hi : Int) (ws : List (Int × Int)) : List Nat := (ups 0 ws.length).filter fun p => tim lo hi (ws.take (p + 1))
def nexts (lo hi : Int) (ws : List (Int × Int)) (b : Nat) : List Nat := (ups (b + 1) (ws.length - (b + 1))).filter fun p => fit lo hi ws p b
abbrev nI (n : Nat) : V := .int n
theorem nI_at {ns : List Nat} {i : Nat} {x : V} (h : (ns.map nI)[i]? = some x) : ∃ n, ns[i]? = some n ∧ x = nI n := by
  rw [List.getElem?_map] at h
  cases hq : ns[i]? with
  | none => rw [hq] at h; cases h
  | some z => rw [hq] at h; exact ⟨z, rfl, (Option.some.inj h).symm⟩
/-- a cut between two places in bounds -/
theorem cut_two {α : Type} (l : List α) (f : α → V) {a b : Nat} (ha : a ≤ l.length) (hb : b ≤ l.length) : cutV (l.map f) (some (a : Int)) (some (b : Int)) = ((l.drop a).take (b - a)).map f := by
  unfold cutV
  rw [HT.sIx_nat, HT.sIx_nat, List.length_map, Nat.min_eq_left ha, Nat.min_eq_left hb, List.map_take, List.map_drop]
theorem cut_from {α : Type} (l : List α) (f : α → V) {a : Nat} (ha : a ≤ l.length) : cutV (l.map f) (some (a : Int)) none = (l.drop a).map f := by
  unfold cutV
  rw [HT.sIx_nat, HT.sIx_none, List.length_map, Nat.min_eq_left ha, ← List.map_drop, List.take_of_length_le (by rw [List.length_map, List.length_drop]; exact Nat.le_refl _)]
theorem cut_to {α : Type} (l : List α) (f : α → V) {b : Nat} (hb : b ≤ l.length) : cutV (l.map f) none (some (b : Int)) = (l.take b).map f := by
  unfold cutV
  rw [HT.sIx_nat, HT.sIx_none, List.length_map, Nat.min_eq_left hb, List.drop_zero, Nat.sub_zero, List.map_take]
section
variable {P : Program} {w : World} {K : PySem.W.Frag} {mg : Str → Option Value} {base : Heap} {CN CR : Addr}
abbrev s_check_window : Stmt := top 17
theorem sc_check_window : FnScope ["window", "low", "high"] ["window"] (C8.fnScope s_check_window) := C8.fnScope_by (by decide +kernel)
def sp_check_window (K : PySem.W.Frag) : Sp := fun vs H Q _ => ∃ (W : Addr) (lo hi : Int), vs = [.ref W] ∧ SqT K H W [.int lo, .int hi] ∧ okW lo hi ∧ Q .non H
theorem ok_check_window (T : TxtW K mg CN) {f : Addr} {fd : FuncData} (D : C8.Def K mg "check_window" s_check_window f fd) (b : Binds K fd ["window"] []) (g_is_range : C8.Cal P w K mg base 2 "is_range" sp_is_range []) : C8.Cal P w K mg base 3 "check_window" (sp_check_window K) [] := by
  refine C8.cal0 D b .nil sc_check_window (fun vs H Q E h => ?_) fun cdv A outer s H vs Q E hr h => ?_
  · obtain ⟨W, lo, hi, rfl, _⟩ := h; rfl
  · obtain ⟨W, lo, hi, rfl, hW, ok, q⟩ := h
    have nd := sc_check_window.nd
    obtain ⟨tg, c_GREATEST_HIGH⟩ := T.c_GREATEST_HIGH
    refine ⟨_, (pss_cons (ps_asg (pv 0) (pg_tup rfl (pgs_cons (pg_name (i := 1) nd rfl (Or.inl rfl)) (pgs_cons (pg_name (i := 2) nd rfl (Or.inl rfl)) pgs_nil))))
      (pss_one (ps_if (pt_not (pt_val (C8.pe_c g_is_range hr (by first | decide | exact Nat.le_refl _ | omega) (by rfl) (pa_cons (pv 1) (pa_cons (pv 2) (pa_cons (pe_glob (v := .int 1000) rfl c_GREATEST_HIGH ⟨_, rfl⟩) pa_nil)))))) (pss_one ps_never) pss_nil))), ?_⟩
    walk_at "go"
    refine g_gtup hW rfl ?_
    walk_at "go"
    refine ⟨lo, hi, 1000, rfl, ok, ?_⟩
    walk_at "go"
    exact q

abbrev s_check_works : Stmt := top 20
theorem sc_check_works : FnScope ["works", "least", "most"] ["works"] (C8.fnScope s_check_works) := C8.fnScope_by (by decide +kernel)
def sp_check_works : Sp := fun vs H Q _ => ∃ (L : Addr) (zs : List Wk), vs = [.ref L] ∧ WkL H L zs ∧ okZ zs ∧ zs ≠ [] ∧ zs.length ≤ 10 ∧ Q .non H
theorem ok_check_works (T : TxtW K mg CN) {f : Addr} {fd : FuncData} (D : C8.Def K mg "check_works" s_check_works f fd) (b : Binds K fd ["works"] []) (g_is_range : C8.Cal P w K mg base 2 "is_range" sp_is_range []) : C8.Cal P w K mg base 3 "check_works" sp_check_works [] := by
  refine C8.cal0 D b .nil sc_check_works (fun vs H Q E h => ?_) fun cdv A outer s H vs Q E hr h => ?_
  · obtain ⟨L, zs, rfl, _⟩ := h; rfl
  · obtain ⟨L, zs, rfl, wk, ok, ne, ln, q⟩ := h
    have nd := sc_check_works.nd
    have lp : 0 < zs.length := List.length_pos_iff.mpr ne
    obtain ⟨t1, c_MOST_WORKS⟩ := T.c_MOST_WORKS
    obtain ⟨t2, c_LONGEST_WORK⟩ := T.c_LONGEST_WORK
    refine ⟨_, (pss_cons (ps_if (pt_not (pt_chain op_le op_le pe_int (pe_callB (r := Wd.rLen K) call_len1 (by rfl) T.n_len PySem.boot_len (pa_cons (pv 0) pa_nil)) (pe_glob (v := .int 10) rfl c_MOST_WORKS ⟨_, rfl⟩))) (pss_one ps_never) pss_nil)
      (pss_one (ps_for PassesOwn.never rfl (pi_list (pv 0)) (pg_tup rfl (pgs_cons (pg_name (i := 1) nd rfl (Or.inl rfl)) (pgs_cons (pg_name (i := 2) nd rfl (Or.inl rfl)) pgs_nil))) (pss_one (ps_if (pt_not (pt_val (C8.pe_c g_is_range hr (by first | decide | exact Nat.le_refl _ | omega) (by rfl) (pa_cons (pv 1) (pa_cons (pv 2) (pa_cons (pe_glob (v := .int 1000) rfl c_LONGEST_WORK ⟨_, rfl⟩) pa_nil)))))) (pss_one ps_never) pss_nil))))), ?_⟩
    walk_at "go"
    refine g_len (.inl (SqL.of wk.at_)) ?_
    walk_at "go"
    rw [List.length_map]
    refine g_ite (fun _ => ?_) (fun h => absurd (show (1 : Int) ≤ (zs.length : Int) by omega) h)
    walk_at "go"
    refine g_iteN (fun h => absurd (show (zs.length : Int) ≤ 10 by omega) h) (fun _ => ?_)
    walk_at "go"
    refine w_list (xs := zs.map fun z => V.ref z.1) (fun i σ H' => H' = H ∧ ∃ (v1 v2 : Option V), σ = [some (.ref L), v1, v2]) ?_ ?_ ?_ ?_
    · exact ⟨rfl, _, _, rfl⟩
    · rintro i σ H' _ ⟨rfl, _⟩; exact SqL.of wk.at_
    · rintro i x σ H' hx ⟨rfl, v1, v2, rfl⟩
      obtain ⟨z, hz, rfl⟩ := zs_at hx
      have zm := List.mem_of_getElem? hz
      walk_at "go"
      refine g_gtup (SqT.of (wk.own z zm)) rfl ?_
      walk_at "go"
      refine ⟨z.2.1, z.2.2, 1000, rfl, ok z zm, ?_⟩
      walk_at "go"
      exact ⟨rfl, _, _, rfl⟩
    · rintro σ H' ⟨rfl, v1, v2, rfl⟩
      walk_at "go"
      exact q

/-! ### a ring -/
abbrev ringF (lo hi : Int) (L : Addr) : List (Str × V) := [("low", .int lo), ("high", .int hi), ("works", .ref L)]
theorem lk_l {lo hi : Int} {L : Addr} : (ringF lo hi L).lookup ("low" : Str) = some (.int lo) := rfl
theorem lk_h {lo hi : Int} {L : Addr} : (ringF lo hi L).lookup ("high" : Str) = some (.int hi) := rfl
theorem lk_w {lo hi : Int} {L : Addr} : (ringF lo hi L).lookup ("works" : Str) = some (.ref L) := rfl
abbrev s_Ring_init : Stmt := (C8.clsBody (top 21)).getD 0 (.Pass ⟨0, 0, 0, 0⟩)
abbrev s_Ring_is_timely : Stmt := (C8.clsBody (top 21)).getD 1 (.Pass ⟨0, 0, 0, 0⟩)
abbrev s_Ring_fits : Stmt := (C8.clsBody (top 21)).getD 2 (.Pass ⟨0, 0, 0, 0⟩)
abbrev s_Ring_first_places : Stmt := (C8.clsBody (top 21)).getD 3 (.Pass ⟨0, 0, 0, 0⟩)
abbrev s_Ring_next_places : Stmt := (C8.clsBody (top 21)).getD 4 (.Pass ⟨0, 0, 0, 0⟩)
abbrev s_Ring_next_level : Stmt := (C8.clsBody (top 21)).getD 5 (.Pass ⟨0, 0, 0, 0⟩)
abbrev s_Ring_levels_of : Stmt := (C8.clsBody (top 21)).getD 6 (.Pass ⟨0, 0, 0, 0⟩)
abbrev s_Ring_comes_back : Stmt := (C8.clsBody (top 21)).getD 7 (.Pass ⟨0, 0, 0, 0⟩)
theorem sc_Ring_init : FnScope ["self", "window", "works"] ["self", "window", "works"] (C8.fnScope s_Ring_init) := C8.fnScope_by (by decide +kernel)
def sp_init (K : PySem.W.Frag) (CR : Addr) : Sp := fun vs H Q _ => ∃ (R dx W L : Addr) (lo hi : Int) (zs : List Wk), vs = [.ref R, .ref W, .ref L] ∧ H R = some (.ins CR dx []) ∧ SqT K H W [.int lo, .int hi] ∧ okW lo hi ∧ WkL H L zs ∧ okZ zs ∧ zs ≠ [] ∧ zs.length ≤ 10 ∧
  ∀ H', Frm R H H' → H' R = some (.ins CR dx (ringF lo hi L)) → Q .non H'
theorem ok_init (T : TxtW K mg CN) (TR : TxtR K CR) {f : Addr} {fd : FuncData} (M : Mk K CR f) (hm : mg "Ring" = some (.ref CR)) (F : C8.Fun K "__init__" "Ring.__init__" s_Ring_init f fd) (b : Binds K fd ["self", "window", "works"] [])
    (g_check_window : C8.Cal P w K mg base 3 "check_window" (sp_check_window K) []) (g_check_works : C8.Cal P w K mg base 3 "check_works" sp_check_works []) : C8.Mak P w K mg base 4 "Ring" CR (sp_init K CR) [] := by
  refine C8.mak0 M hm F b .nil sc_Ring_init (fun vs H Q E h => ?_) fun cdv A outer s H vs Q E hr h => ?_
  · obtain ⟨R, dx, W, L, lo, hi, zs, rfl, _⟩ := h; rfl
  · obtain ⟨R, dx, W, L, lo, hi, zs, rfl, hR, hW, okw, wk, okz, ne, ln, q⟩ := h
    have nd := sc_Ring_init.nd
    refine ⟨_, (pss_cons (ps_expr (C8.pe_c g_check_window hr (by first | decide | exact Nat.le_refl _ | omega) (by rfl) (pa_cons (pv 1) pa_nil)))
      (pss_cons (ps_expr (C8.pe_c g_check_works hr (by first | decide | exact Nat.le_refl _ | omega) (by rfl) (pa_cons (pv 2) pa_nil)))
      (pss_cons (ps_asg (pv 1) (pg_tup rfl (pgs_cons (pg_att (pv 0)) (pgs_cons (pg_att (pv 0)) pgs_nil))))
      (pss_one (ps_fld (pv 0) (pv 2) rfl))))), ?_⟩
    walk_at "go"
    refine ⟨W, lo, hi, rfl, hW, okw, ?_⟩
    walk_at "go"
    refine ⟨L, zs, rfl, wk, okz, ne, ln, ?_⟩
    walk_at "go"
    refine g_gtup hW rfl ?_
    walk_at "go"
    refine ⟨_, rfl, R, CR, dx, _, rfl, hR, TR.c, TR.nL, by decide, ?_⟩
    walk_at "go"
    refine ⟨_, rfl, R, CR, dx, _, rfl, upd_same, TR.c, TR.nH, by show 1 < 1000; decide, ?_⟩
    walk_at "go"
    refine ⟨_, rfl, _, rfl, R, CR, dx, _, rfl, upd_same, TR.c, TR.nW, by show 2 < 1000; decide, ?_⟩
    walk_at "go"
    exact q _ ((Frm.set.trans .set).trans .set) upd_same

theorem sc_Ring_is_timely : FnScope ["self", "works", "least", "work", "most"] ["self", "works"] (C8.fnScope s_Ring_is_timely) := C8.fnScope_by (by decide +kernel)
def sp_timely (K : PySem.W.Frag) (CR : Addr) : Sp := fun vs H Q _ => ∃ (R dx L L2 : Addr) (lo hi : Int) (zs : List Wk), vs = [.ref R, .ref L2] ∧ H R = some (.ins CR dx (ringF lo hi L)) ∧ WkL H L2 zs ∧ zs.length ≤ 1000 ∧ ∀ H', Same H H' → Q (.bl (tim lo hi (zs.map (·.2)))) H'
theorem map_at2 {α : Type} {l : List α} {f : α → V} {i : Nat} {x : V} (h : (l.map f)[i]? = some x) : ∃ z, l[i]? = some z ∧ x = f z := by
  rw [List.getElem?_map] at h
  cases hq : l[i]? with
  | none => rw [hq] at h; cases h
  | some z => rw [hq] at h; exact ⟨z, rfl, (Option.some.inj h).symm⟩
theorem take_snocM {α β : Type} {l : List α} {i : Nat} {x : α} (f : α → β) (h : l[i]? = some x) : (l.take (i + 1)).map f = (l.take i).map f ++ [f x] := by
  rw [List.take_add_one, h, List.map_append]; rfl
theorem ok_timely (T : TxtW K mg CN) (TR : TxtR K CR) {f : Addr} {fd : FuncData} (me : Meth K CR "is_timely" f) (F : C8.Fun K "is_timely" "Ring.is_timely" s_Ring_is_timely f fd) (b : Binds K fd ["self", "works"] []) : C8.Met P w K mg base 1 CR "is_timely" (sp_timely K CR) [] := by
  refine C8.met0 TR.c me F b sc_Ring_is_timely (fun vs H Q E h => ?_) fun cdv A outer s H vs Q E hr h => ?_
  · obtain ⟨R, dx, L, L2, lo, hi, zs, rfl, _⟩ := h; rfl
  · obtain ⟨R, dx, L, L2, lo, hi, zs, rfl, hR, wk, ln, q⟩ := h
    have nd := sc_Ring_is_timely.nd
    refine ⟨_, (pss_cons (ps_set (i := 2) nd rfl (Or.inl rfl) (pe_callB (r := rSum K) (cr_sum rfl) (by rfl) T.n_sum (by decide +kernel) (pa_cons (pe_lc (own := [("work", 3)]) (g := gName 3) (tt := tYes) rfl nd (pi_list (pv 1)) (blkOk_by (N := ["self", "works", "least", "work", "most"]) (sc := C8.fnScope s_Ring_is_timely) (by decide +kernel)) (fun _ _ _ _ _ => pg_name (i := 3) nd rfl (Or.inl rfl)) (fun _ _ _ _ _ => pts_nil) (fun _ _ _ _ _ => (pe_ix (r := rIxT K) ix_tup (pv 3) pe_int (fun _ _ => rfl)))) pa_nil)))
      (pss_cons (ps_set (i := 4) nd rfl (Or.inl rfl) (pe_callB (r := rSum K) (cr_sum rfl) (by rfl) T.n_sum (by decide +kernel) (pa_cons (pe_lc (own := [("work", 3)]) (g := gName 3) (tt := tYes) rfl nd (pi_list (pv 1)) (blkOk_by (N := ["self", "works", "least", "work", "most"]) (sc := C8.fnScope s_Ring_is_timely) (by decide +kernel)) (fun _ _ _ _ _ => pg_name (i := 3) nd rfl (Or.inl rfl)) (fun _ _ _ _ _ => pts_nil) (fun _ _ _ _ _ => (pe_ix (r := rIxT K) ix_tup (pv 3) pe_int (fun _ _ => rfl)))) pa_nil)))
      (pss_one (ps_ret (pe_and (pe_cmpR op_le (pe_fld (pv 0) rfl) (pv 2) (nomark _)) (pe_one (pe_cmpR op_le (pv 4) (pe_fld (pv 0) rfl) (nomark _)))))))), ?_⟩
    walk_at "go"
    refine w_lcList (SqL.of wk.at_) (fun D i H' => Same H H' ∧ H' D = some (.lst (((zs.take i).map fun z => z.2.1).map V.int))) (fun D hD => ⟨same_new hD, upd_same⟩) (fun D i H' hD _ h => SqL.of (h.1 _ _ wk.at_)) (fun D i y H' hD hy h => ?_) (fun D1 H1 hD1 h => ?_)
    · obtain ⟨z, hz, rfl⟩ := zs_at hy
      have il := (List.getElem?_eq_some_iff.mp hz).1
      walk_at "go"
      refine ⟨rfl, ?_⟩
      walk_at "go"
      refine g_ixT (SqT.of (h.1 _ _ (wk.own z (List.mem_of_getElem? hz)))) rfl ?_
      exact ⟨_, h.2, by rw [sizeLine_eq, List.length_map, List.length_map]; have := List.length_take_le i zs; omega, Wd.Same.mut h.1 hD, by rw [upd_same, take_snocM _ hz, List.map_append]; rfl⟩
    obtain ⟨s1, e1⟩ := h
    rw [List.length_map, List.take_length] at e1
    walk_at "go"
    refine g_sum (SqL.of e1) ?_
    walk_at "go"
    have wk1 := wk.same s1
    refine w_lcList (SqL.of wk1.at_) (fun D i H' => Same H1 H' ∧ H' D = some (.lst (((zs.take i).map fun z => z.2.2).map V.int))) (fun D hD => ⟨same_new hD, upd_same⟩) (fun D i H' hD _ h => SqL.of (h.1 _ _ wk1.at_)) (fun D i y H' hD hy h => ?_) (fun D2 H2 hD2 h => ?_)
    · obtain ⟨z, hz, rfl⟩ := zs_at hy
      have il := (List.getElem?_eq_some_iff.mp hz).1
      walk_at "go"
      refine ⟨rfl, ?_⟩
      walk_at "go"
      refine g_ixT (SqT.of (h.1 _ _ (wk1.own z (List.mem_of_getElem? hz)))) rfl ?_
      exact ⟨_, h.2, by rw [sizeLine_eq, List.length_map, List.length_map]; have := List.length_take_le i zs; omega, Wd.Same.mut h.1 hD, by rw [upd_same, take_snocM _ hz, List.map_append]; rfl⟩
    obtain ⟨s2, e2⟩ := h
    rw [List.length_map, List.take_length] at e2
    walk_at "go"
    refine g_sum (SqL.of e2) ?_
    have s12 := s1.trans s2
    have hR2 := s12 _ _ hR
    have ea : (zs.map fun z => z.2.1).sum = sumA (zs.map (·.2)) := by unfold sumA; rw [List.map_map]; rfl
    have eb : (zs.map fun z => z.2.2).sum = sumB (zs.map (·.2)) := by unfold sumB; rw [List.map_map]; rfl
    rw [ea, eb]
    unfold tim at q
    walk_at "go"
    refine ⟨_, rfl, R, CR, dx, _, _, rfl, hR2, TR.c, TR.nL, lk_l, ?_⟩
    walk_at "go"
    generalize sumA (zs.map (·.2)) = a at q ⊢
    generalize sumB (zs.map (·.2)) = c at q ⊢
    refine g_ite (fun h1 => ?_) (fun h1 => ?_)
    · walk_at "go"
      refine ⟨_, rfl, R, CR, dx, _, _, rfl, hR2, TR.c, TR.nH, lk_h, ?_⟩
      walk_at "go"
      have e : decide (lo ≤ a ∧ c ≤ hi) = decide (c ≤ hi) := by
        by_cases h2 : c ≤ hi
        · rw [decide_eq_true h2, decide_eq_true ⟨h1, h2⟩]
        · rw [decide_eq_false h2, decide_eq_false (fun z => h2 z.2)]
      rw [← e]
      exact q _ s12
    · rw [decide_eq_false (fun z => h1 z.1)] at q
      walk_at "go"
      exact q _ s12
end
end K09
namespace K09
open PySem PySem.Spec PyProof.Rows L2 Wd
section
variable {P : Program} {w : World} {K : PySem.W.Frag} {mg : Str → Option Value} {base : Heap} {CN CR : Addr}
theorem gapL_map {α β : Type} (f : α → β) (l : List α) (b p : Nat) : (gapL l b p).map f = gapL (l.map f) b p := by
  unfold gapL
  split
  · rw [List.map_take, List.map_drop]
  · rw [List.map_append, List.map_drop, List.map_take]
theorem gapL_len {α : Type} (l : List α) (b p : Nat) : (gapL l b p).length ≤ 2 * l.length := by
  unfold gapL
  split
  · rw [List.length_take, List.length_drop]; omega
  · rw [List.length_append, List.length_drop, List.length_take]; omega
theorem gapL_mem {α : Type} {l : List α} {b p : Nat} {x : α} (h : x ∈ gapL l b p) : x ∈ l := by
  unfold gapL at h
  split at h
  · exact List.mem_of_mem_drop (List.mem_of_mem_take h)
  · rw [List.mem_append] at h
    exact h.elim List.mem_of_mem_drop List.mem_of_mem_take
theorem use_timely {R dx L L2 : Addr} {lo hi : Int} {zs : List Wk} {H : Hp} {Q : VK} {E : XK} {vs : List V} (hv : vs = [.ref R, .ref L2]) (hR : H R = some (.ins CR dx (ringF lo hi L))) (wk : WkL H L2 zs) (ln : zs.length ≤ 1000) (k : ∀ H', Same H H' → Q (.bl (tim lo hi (zs.map (·.2)))) H') : sp_timely K CR vs H Q E :=
  ⟨R, dx, L, L2, lo, hi, zs, hv, hR, wk, ln, k⟩
theorem sc_Ring_fits : FnScope ["self", "place", "behind"] ["self", "place", "behind"] (C8.fnScope s_Ring_fits) := C8.fnScope_by (by decide +kernel)
def sp_fits (K : PySem.W.Frag) (CR : Addr) : Sp := fun vs H Q _ => ∃ (R dx L : Addr) (lo hi : Int) (zs : List Wk) (p b : Nat), vs = [.ref R, .int p, .int b] ∧ H R = some (.ins CR dx (ringF lo hi L)) ∧ WkL H L zs ∧ zs.length ≤ 10 ∧ p < zs.length ∧ b < zs.length ∧ ∀ H', Same H H' → Q (.bl (fit lo hi (zs.map (·.2)) p b)) H'
theorem ok_fits (T : TxtW K mg CN) (TR : TxtR K CR) {f : Addr} {fd : FuncData} (me : Meth K CR "fits" f) (F : C8.Fun K "fits" "Ring.fits" s_Ring_fits f fd) (b : Binds K fd ["self", "place", "behind"] []) (m_is_timely : C8.Met P w K mg base 1 CR "is_timely" (sp_timely K CR) []) : C8.Met P w K mg base 2 CR "fits" (sp_fits K CR) [] := by
  refine C8.met0 TR.c me F b sc_Ring_fits (fun vs H Q E h => ?_) fun cdv A outer s H vs Q E hr h => ?_
  · obtain ⟨R, dx, L, lo, hi, zs, p, b, rfl, _⟩ := h; rfl
  · obtain ⟨R, dx, L, lo, hi, zs, p, b, rfl, hR, wk, ln, hp, hb, q⟩ := h
    have nd := sc_Ring_fits.nd
    have lg := gapL_len zs b p
    refine ⟨_, (pss_cons (ps_if (pt_cmpR op_gt (pv 1) (pv 2) (nomark _)) (pss_one (ps_ret (C8.pe_mt m_is_timely hr (by first | decide | exact Nat.le_refl _ | omega) (pv 0) (pa_cons (pe_slice (r := rSlL K) sl_list (pe_fld (pv 0) rfl) (po_some (pe_op op_add (pv 2) pe_int)) (po_some (pe_op op_add (pv 1) pe_int))) pa_nil)))) pss_nil)
      (pss_one (ps_ret (C8.pe_mt m_is_timely hr (by first | decide | exact Nat.le_refl _ | omega) (pv 0) (pa_cons (pe_op op_cat (pe_slice (r := rSlL K) sl_list (pe_fld (pv 0) rfl) (po_some (pe_op op_add (pv 2) pe_int)) po_none) (pe_slice (r := rSlL K) sl_list (pe_fld (pv 0) rfl) po_none (po_some (pe_op op_add (pv 1) pe_int)))) pa_nil))))), ?_⟩
    have e1 : (b : Int) + 1 = ((b + 1 : Nat) : Int) := by omega
    have e2 : (p : Int) + 1 = ((p + 1 : Nat) : Int) := by omega
    walk_at "go"
    refine g_ite (fun hg => ?_) (fun hg => ?_)
    · have gg : gapL zs b p = (zs.drop (b + 1)).take (p + 1 - (b + 1)) := by unfold gapL; rw [if_pos (by omega)]; congr 1; omega
      walk_at "go"
      refine ⟨_, rfl, R, dx, _, rfl, hR, rfl, ?_⟩
      walk_at "go"
      refine ⟨_, rfl, R, CR, dx, _, _, rfl, hR, TR.c, TR.nW, lk_w, ?_⟩
      walk_at "go"
      rw [e1, e2]
      refine g_slL (SqL.of wk.at_) fun L2 hL2 => ?_
      rw [cut_two zs _ (by omega) (by omega), ← gg]
      have s1 := same_new (o := .lst ((gapL zs b p).map fun z => V.ref z.1)) hL2
      walk_at "go"
      refine use_timely rfl (s1 _ _ hR) ⟨upd_same, fun z hz => s1 _ _ (wk.own z (gapL_mem hz))⟩ (by omega) fun H' s' => ?_
      rw [gapL_map]
      exact q H' (s1.trans s')
    · have gg : gapL zs b p = zs.drop (b + 1) ++ zs.take (p + 1) := by unfold gapL; rw [if_neg (by omega)]
      walk_at "go"
      refine ⟨_, rfl, R, dx, _, rfl, hR, rfl, ?_⟩
      walk_at "go"
      refine ⟨_, rfl, R, CR, dx, _, _, rfl, hR, TR.c, TR.nW, lk_w, ?_⟩
      walk_at "go"
      rw [e1]
      refine g_slL (SqL.of wk.at_) fun L1 hL1 => ?_
      rw [cut_from zs _ (by omega)]
      have s1 := same_new (o := .lst ((zs.drop (b + 1)).map fun z => V.ref z.1)) hL1
      have i1 := upd_same (H := H) (a := L1) (o := .lst ((zs.drop (b + 1)).map fun z => V.ref z.1))
      generalize upd H L1 (.lst ((zs.drop (b + 1)).map fun z => V.ref z.1)) = H1 at s1 i1
      walk_at "go"
      refine ⟨_, rfl, R, CR, dx, _, _, rfl, s1 _ _ hR, TR.c, TR.nW, lk_w, ?_⟩
      walk_at "go"
      rw [e2]
      refine g_slL (SqL.of (s1 _ _ wk.at_)) fun L2 hL2 => ?_
      rw [cut_to zs _ (by omega)]
      have s2 := same_new (o := .lst ((zs.take (p + 1)).map fun z => V.ref z.1)) hL2
      have i2 := upd_same (H := H1) (a := L2) (o := .lst ((zs.take (p + 1)).map fun z => V.ref z.1))
      generalize upd H1 L2 (.lst ((zs.take (p + 1)).map fun z => V.ref z.1)) = H2 at s2 i2
      refine ⟨L1, L2, _, _, rfl, rfl, s2 _ _ i1, i2, by rw [sizeLine_eq, List.length_map, List.length_map, List.length_drop, List.length_take]; omega, fun L3 hL3 => ?_⟩
      rw [← List.map_append, ← gg]
      have s3 := (s1.trans s2).trans (same_new (o := .lst ((gapL zs b p).map fun z => V.ref z.1)) hL3)
      walk_at "go"
      refine use_timely rfl (s3 _ _ hR) ⟨upd_same, fun z hz => s3 _ _ (wk.own z (gapL_mem hz))⟩ (by omega) fun H' s' => ?_
      rw [gapL_map]
      exact q H' (s3.trans s')

theorem sc_Ring_first_places : FnScope ["self", "place"] ["self"] (C8.fnScope s_Ring_first_places) := C8.fnScope_by (by decide +kernel)
def sp_firsts (K : PySem.W.Frag) (CR : Addr) : Sp := fun vs H Q _ => ∃ (R dx L : Addr) (lo hi : Int) (zs : List Wk), vs = [.ref R] ∧ H R = some (.ins CR dx (ringF lo hi L)) ∧ WkL H L zs ∧ zs.length ≤ 10 ∧ ∀ H' D, Same H H' → H D = none → H' D = some (.lst ((firsts lo hi (zs.map (·.2))).map nI)) → Q (.ref D) H'
theorem filter_snoc {α : Type} (p : α → Bool) (l : List α) (x : α) : (l ++ [x]).filter p = l.filter p ++ (if p x = true then [x] else []) := by
  rw [List.filter_append]
  congr 1
  by_cases h : p x = true
  · rw [if_pos h, List.filter_cons_of_pos h, List.filter_nil]
  · rw [if_neg h, List.filter_cons_of_neg h, List.filter_nil]
theorem ok_firsts (T : TxtW K mg CN) (TR : TxtR K CR) {f : Addr} {fd : FuncData} (me : Meth K CR "first_places" f) (F : C8.Fun K "first_places" "Ring.first_places" s_Ring_first_places f fd) (b : Binds K fd ["self"] []) (m_is_timely : C8.Met P w K mg base 1 CR "is_timely" (sp_timely K CR) []) : C8.Met P w K mg base 2 CR "first_places" (sp_firsts K CR) [] := by
  refine C8.met0 TR.c me F b sc_Ring_first_places (fun vs H Q E h => ?_) fun cdv A outer s H vs Q E hr h => ?_
  · obtain ⟨R, dx, L, lo, hi, zs, rfl, _⟩ := h; rfl
  · obtain ⟨R, dx, L, lo, hi, zs, rfl, hR, wk, ln, q⟩ := h
    have nd := sc_Ring_first_places.nd
    refine ⟨_, (pss_one (ps_ret (pe_lc (own := [("place", 1)]) (g := gName 1) rfl nd (pi_range1 rfl T.n_range (pa_cons (pe_callB (r := Wd.rLen K) call_len1 (by rfl) T.n_len PySem.boot_len (pa_cons (pe_fld (pv 0) rfl) pa_nil)) pa_nil)) (blkOk_by (N := ["self", "place"]) (sc := C8.fnScope s_Ring_first_places) (by decide +kernel)) (fun _ _ _ _ _ => pg_name (i := 1) nd rfl (Or.inl rfl)) (fun _ _ _ _ _ => pts_one (pt_val (C8.pe_mt m_is_timely hr (by first | decide | exact Nat.le_refl _ | omega) (pv 0) (pa_cons (pe_slice (r := rSlL K) sl_list (pe_fldK (K := K) rfl (pv 0) rfl) po_none (po_some (pe_op op_add (pv 1) pe_int))) pa_nil)))) (fun _ _ _ _ _ => (pv 1))))), ?_⟩
    walk_at "go"
    refine ⟨_, rfl, R, CR, dx, _, _, rfl, hR, TR.c, TR.nW, lk_w, ?_⟩
    walk_at "go"
    refine g_len (.inl (SqL.of wk.at_)) ?_
    walk_at "go"
    rw [List.length_map]
    refine w_lcRange (by omega) (by omega) (fun D i H' => Same H H' ∧ H' D = some (.lst (((ups 0 i).filter fun p => tim lo hi ((zs.map (·.2)).take (p + 1))).map nI))) (fun D hD => ⟨same_new hD, upd_same⟩) (fun D i H' hD hi' h => ?_) (fun D H' hD h => ?_)
    · have il : i < zs.length := by omega
      have hR' := h.1 _ _ hR
      have wk' := wk.same h.1
      have lf := List.length_filter_le (fun p => tim lo hi ((zs.map (·.2)).take (p + 1))) (ups 0 i)
      have lu := ups_len 0 i
      have ex : (ups 0 (i + 1)).filter (fun p => tim lo hi ((zs.map (·.2)).take (p + 1))) = _ := filter_snoc (fun p => tim lo hi ((zs.map (·.2)).take (p + 1))) (ups 0 i) (0 + i)
      rw [Nat.zero_add] at ex
      have e2 : (i : Int) + 1 = ((i + 1 : Nat) : Int) := by omega
      walk_at "go"
      refine ⟨rfl, ?_⟩
      walk_at "go"
      refine ⟨_, rfl, R, dx, _, rfl, hR', rfl, ?_⟩
      walk_at "go"
      refine ⟨_, rfl, R, CR, dx, _, _, rfl, hR', TR.c, TR.nW, lk_w, ?_⟩
      walk_at "go"
      rw [e2]
      refine g_slL (SqL.of wk'.at_) fun L2 hL2 => ?_
      rw [cut_to zs _ (by omega)]
      have s2 := same_new (o := .lst ((zs.take (i + 1)).map fun z => V.ref z.1)) hL2
      walk_at "go"
      refine use_timely rfl (s2 _ _ hR') ⟨upd_same, fun z hz => s2 _ _ (wk'.own z (List.mem_of_mem_take hz))⟩ (by rw [List.length_take]; omega) fun H3 s3 => ?_
      have s03 := (h.1.trans s2).trans s3
      have eD := s3 _ _ (s2 _ _ h.2)
      rw [List.map_take]
      refine ⟨_, rfl, ?_⟩
      cases ht : tim lo hi ((zs.map (·.2)).take (i + 1)) with
      | true =>
        rw [if_pos ht] at ex
        walk_at "go"
        exact ⟨_, eD, by rw [sizeLine_eq, List.length_map]; omega, Wd.Same.mut s03 hD, by rw [upd_same, ex, List.map_append]; rfl⟩
      | false =>
        rw [ht, if_neg (by decide), List.append_nil] at ex
        walk_at "go"
        exact ⟨s03, by rw [ex]; exact eD⟩
    · have et : ((zs.length : Nat) : Int).toNat = (zs.map (·.2)).length := by rw [List.length_map]; omega
      rw [et] at h
      walk_at "go"
      exact q H' D h.1 hD h.2

theorem sc_Ring_next_places : FnScope ["self", "behind", "place"] ["self", "behind"] (C8.fnScope s_Ring_next_places) := C8.fnScope_by (by decide +kernel)
def sp_nexts (K : PySem.W.Frag) (CR : Addr) : Sp := fun vs H Q _ => ∃ (R dx L : Addr) (lo hi : Int) (zs : List Wk) (b : Nat), vs = [.ref R, .int b] ∧ H R = some (.ins CR dx (ringF lo hi L)) ∧ WkL H L zs ∧ zs.length ≤ 10 ∧ b < zs.length ∧ ∀ H' D, Same H H' → H D = none → H' D = some (.lst ((nexts lo hi (zs.map (·.2)) b).map nI)) → Q (.ref D) H'
theorem w_lcRange2 {σ : L2.St} {H : Hp} {Q : VK} {g : TG} {tt : TT} {te : TE} {vs : List Nat} {lo n : Int} (h1 : -(2 ^ 62) ≤ lo ∧ lo < 2 ^ 62 ∧ -(2 ^ 62) ≤ n ∧ n < 2 ^ 62) (Pv : Addr → Nat → Hp → Prop) (h0 : ∀ D, H D = none → Pv D 0 (upd H D (.lst [])))
    (hs : ∀ D i H', H D = none → i < (n - lo).toNat → Pv D i H' → g (.int (lo + i)) (wipe σ vs) H' fun σ2 H2 => wipe σ2 vs = wipe σ vs ∧ tt σ2 H2 fun b H3 =>
      if b = true then te σ2 H3 fun y H4 => ∃ acc, H4 D = some (.lst acc) ∧ acc.length < sizeLine ∧ Pv D (i + 1) (upd H4 D (.lst (acc ++ [y]))) else Pv D (i + 1) H3) (hd : ∀ D H', H D = none → Pv D (n - lo).toNat H' → Q (.ref D) H') :
    ∃ i j : Int, [V.int lo, .int n] = [.int i, .int j] ∧ (-(2 ^ 62) ≤ i ∧ i < 2 ^ 62 ∧ -(2 ^ 62) ≤ j ∧ j < 2 ^ 62) ∧ LcEnd g tt te vs σ Q (Itr i (j - i).toNat) H :=
  ⟨lo, n, rfl, h1, fun D hD => lc_range (Pv D) (h0 D hD) (fun i H' hi p => hs D i H' hD hi p) (fun H' p => hd D H' hD p)⟩
theorem ok_nexts (T : TxtW K mg CN) (TR : TxtR K CR) {f : Addr} {fd : FuncData} (me : Meth K CR "next_places" f) (F : C8.Fun K "next_places" "Ring.next_places" s_Ring_next_places f fd) (b : Binds K fd ["self", "behind"] []) (m_fits : C8.Met P w K mg base 2 CR "fits" (sp_fits K CR) []) : C8.Met P w K mg base 3 CR "next_places" (sp_nexts K CR) [] := by
  refine C8.met0 TR.c me F b sc_Ring_next_places (fun vs H Q E h => ?_) fun cdv A outer s H vs Q E hr h => ?_
  · obtain ⟨R, dx, L, lo, hi, zs, b, rfl, _⟩ := h; rfl
  · obtain ⟨R, dx, L, lo, hi, zs, b, rfl, hR, wk, ln, hb, q⟩ := h
    have nd := sc_Ring_next_places.nd
    refine ⟨_, (pss_one (ps_ret (pe_lc (own := [("place", 2)]) (g := gName 2) rfl nd (pi_range2 rfl T.n_range (pa_cons (pe_op op_add (pv 1) pe_int) (pa_cons (pe_callB (r := Wd.rLen K) call_len1 (by rfl) T.n_len PySem.boot_len (pa_cons (pe_fld (pv 0) rfl) pa_nil)) pa_nil))) (blkOk_by (N := ["self", "behind", "place"]) (sc := C8.fnScope s_Ring_next_places) (by decide +kernel)) (fun _ _ _ _ _ => pg_name (i := 2) nd rfl (Or.inl rfl)) (fun _ _ _ _ _ => pts_one (pt_val (C8.pe_mt m_fits hr (by first | decide | exact Nat.le_refl _ | omega) (pv 0) (pa_cons (pv 2) (pa_cons (pv 1) pa_nil))))) (fun _ _ _ _ _ => (pv 2))))), ?_⟩
    walk_at "go"
    refine ⟨_, rfl, R, CR, dx, _, _, rfl, hR, TR.c, TR.nW, lk_w, ?_⟩
    walk_at "go"
    refine g_len (.inl (SqL.of wk.at_)) ?_
    walk_at "go"
    rw [List.length_map]
    refine w_lcRange2 (by omega) (fun D i H' => Same H H' ∧ H' D = some (.lst (((ups (b + 1) i).filter fun p => fit lo hi (zs.map (·.2)) p b).map nI))) (fun D hD => ⟨same_new hD, upd_same⟩) (fun D i H' hD hi' h => ?_) (fun D H' hD h => ?_)
    · have il : b + 1 + i < zs.length := by omega
      have hR' := h.1 _ _ hR
      have wk' := wk.same h.1
      have lf := List.length_filter_le (fun p => fit lo hi (zs.map (·.2)) p b) (ups (b + 1) i)
      have lu := ups_len (b + 1) i
      have ex : (ups (b + 1) (i + 1)).filter (fun p => fit lo hi (zs.map (·.2)) p b) = _ := filter_snoc (fun p => fit lo hi (zs.map (·.2)) p b) (ups (b + 1) i) (b + 1 + i)
      have e2 : (b : Int) + 1 + (i : Int) = ((b + 1 + i : Nat) : Int) := by omega
      rw [e2]
      walk_at "go"
      refine ⟨rfl, ?_⟩
      walk_at "go"
      refine ⟨_, rfl, R, dx, _, rfl, hR', rfl, ?_⟩
      walk_at "go"
      refine ⟨R, dx, L, lo, hi, zs, b + 1 + i, b, rfl, hR', wk', ln, il, hb, fun H3 s3 => ?_⟩
      have s03 := h.1.trans s3
      have eD := s3 _ _ h.2
      refine ⟨_, rfl, ?_⟩
      cases ht : fit lo hi (zs.map (·.2)) (b + 1 + i) b with
      | true =>
        rw [if_pos ht] at ex
        walk_at "go"
        exact ⟨_, eD, by rw [sizeLine_eq, List.length_map]; omega, Wd.Same.mut s03 hD, by rw [upd_same, ex, List.map_append]; rfl⟩
      | false =>
        rw [ht, if_neg (by decide), List.append_nil] at ex
        walk_at "go"
        exact ⟨s03, by rw [ex]; exact eD⟩
    · have et : (((zs.length : Nat) : Int) - ((b : Int) + 1)).toNat = (zs.map (·.2)).length - (b + 1) := by rw [List.length_map]; omega
      rw [et] at h
      walk_at "go"
      exact q H' D h.1 hD h.2
end
end K09
namespace K09
open PySem PySem.Spec PyProof.Rows L2 Wd
/-! ### two fors in a set comprehension, over lists -/
theorem inS_list {w : World} {K : PySem.W.Frag} {g1 : TG} {tt1 : TT} {te : TE} {vs1 : List Nat} {σ2 : L2.St} {D r : Addr} {N : Hp → Prop} {H4 : Hp} {ys : List V} (Pi : Nat → Hp → Prop) (h0 : Pi 0 H4) (hl : ∀ j H, j ≤ ys.length → Pi j H → SqL K H r ys)
    (hs : ∀ j y H, ys[j]? = some y → Pi j H → g1 y (wipe σ2 vs1) H fun σ3 H5 => wipe σ3 vs1 = wipe σ2 vs1 ∧ tt1 σ3 H5 fun b H6 =>
        if b = true then te σ3 H6 fun y H7 => ∃ (c : Int) (S : Int → Bool) (n : Nat), y = .int c ∧ H7 D = some (SetO w D S n) ∧ n + 1 < scanBound ∧ Pi (j + 1) (upd H7 D (SetO w D (fun j => S j || decide (j = c)) (if S c = true then n else n + 1))) else Pi (j + 1) H6) (hd : ∀ H, Pi ys.length H → N H) : InS w g1 tt1 te vs1 σ2 D N (Itl K r) H4 := by
  refine ⟨fun i m H => m = ys.length - i ∧ i ≤ ys.length ∧ Pi i H, ⟨ys.length, by simp, Nat.zero_le _, h0⟩, ?_⟩
  rintro i m H ⟨rfl, hi, p⟩
  have q := hl i H hi p
  by_cases hlt : i < ys.length
  · refine .inr ⟨⟨ys, ys[i], q, by simp [hlt]⟩, Pi (i + 1), fun H' p' => ⟨ys.length - (i + 1), by omega, rfl, hlt, p'⟩, fun x H' y => ?_⟩
    obtain ⟨e, y⟩ := y
    subst e
    exact hs i x _ (y ys q) p
  · have e : i = ys.length := by omega
    subst e
    exact .inl ⟨⟨ys, q, Nat.le_refl _⟩, hd H p⟩
theorem g_sc2 {w : World} {σ : L2.St} {H : Hp} {Q : VK} {wi : TI} {g : TG} {tt : TT} {wi1 : TI} {g1 : TG} {tt1 : TT} {te : TE} {vs vs1 : List Nat} (h : wi σ H (Sc2End w g tt wi1 g1 tt1 te vs vs1 σ Q)) : tSc2 w wi g tt wi1 g1 tt1 te vs vs1 σ H Q := h
theorem w_sc2 {w : World} {K : PySem.W.Frag} {σ : L2.St} {H : Hp} {Q : VK} {g : TG} {tt : TT} {wi1 : TI} {g1 : TG} {tt1 : TT} {te : TE} {vs vs1 : List Nat} {p : Addr} {xs : List V} (hp : SqL K H p xs) (Po : Addr → Nat → Hp → Prop)
    (h0 : ∀ D, H D = none → Po D 0 (upd H D (SetO w D (fun _ => false) 0))) (hl : ∀ D i H', H D = none → i ≤ xs.length → Po D i H' → SqL K H' p xs)
    (hs : ∀ D i x H', H D = none → xs[i]? = some x → Po D i H' → g x (wipe σ vs) H' fun σ2 H2 => wipe σ2 vs = wipe σ vs ∧ tt σ2 H2 fun b H3 => if b = true then wi1 σ2 H3 (InS w g1 tt1 te vs1 σ2 D (Po D (i + 1))) else Po D (i + 1) H3) (hd : ∀ D H', H D = none → Po D xs.length H' → Q (.ref D) H') :
    ∃ q, V.ref p = .ref q ∧ (∃ xs, SqL K H q xs) ∧ Sc2End w g tt wi1 g1 tt1 te vs vs1 σ Q (Itl K q) H := by
  refine ⟨p, rfl, ⟨xs, hp⟩, fun D hD => ?_⟩
  refine ⟨fun i m H => m = xs.length - i ∧ i ≤ xs.length ∧ Po D i H, ⟨xs.length, by simp, Nat.zero_le _, h0 D hD⟩, ?_⟩
  rintro i m H' ⟨rfl, hi, po⟩
  have q := hl D i H' hD hi po
  by_cases hlt : i < xs.length
  · refine .inr ⟨⟨xs, xs[i], q, by simp [hlt]⟩, Po D (i + 1), fun H' p' => ⟨xs.length - (i + 1), by omega, rfl, hlt, p'⟩, fun x H' y => ?_⟩
    obtain ⟨e, y⟩ := y
    subst e
    exact hs D i x _ hD (y xs q) po
  · have e : i = xs.length := by omega
    subst e
    exact .inl ⟨⟨xs, q, Nat.le_refl _⟩, hd D H' hD po⟩
/-! ### sets of places -/
def card (N : Nat) (S : Int → Bool) : Nat := ((ups 0 N).filter fun p : Nat => S (p : Int)).length
theorem card_le (N : Nat) (S : Int → Bool) : card N S ≤ N := by
  have := List.length_filter_le (fun p : Nat => S (p : Int)) (ups 0 N)
  rw [ups_len] at this; exact this
theorem card_step (N : Nat) (S : Int → Bool) : card (N + 1) S = card N S + if S (N : Int) = true then 1 else 0 := by
  unfold card
  show ((ups 0 N ++ [0 + N]).filter _).length = _
  rw [filter_snoc, List.length_append, Nat.zero_add]
  congr 1
  split <;> rfl
theorem card_add {c : Nat} (S : Int → Bool) : ∀ {N : Nat}, card N (fun j => S j || decide (j = (c : Int))) = card N S + if c < N ∧ S (c : Int) = false then 1 else 0
  | 0 => by rw [if_neg (fun z => Nat.not_lt_zero _ z.1)]; rfl
  | N + 1 => by
    rw [card_step, card_step, card_add (N := N)]
    by_cases hc : N = c
    · have h0 : ¬(c < N ∧ S (c : Int) = false) := fun z => by omega
      rw [if_neg h0]
      subst hc
      cases h : S (N : Int) with
      | true => simp
      | false => simp
    · have hd : decide ((N : Int) = (c : Int)) = false := decide_eq_false (by omega)
      have he : (c < N ∧ S (c : Int) = false) ↔ (c < N + 1 ∧ S (c : Int) = false) := ⟨fun z => ⟨by omega, z.2⟩, fun z => ⟨by omega, z.2⟩⟩
      simp only [hd, Bool.or_false, he]
      omega
theorem card_put {c N : Nat} (S : Int → Bool) (h : c < N) : card N (fun j => S j || decide (j = (c : Int))) = if S (c : Int) = true then card N S else card N S + 1 := by
  rw [card_add]
  cases hs : S (c : Int) with
  | true => simp
  | false => simp [h]
theorem card_nil : ∀ N, card N (fun _ => false) = 0
  | 0 => rfl
  | N + 1 => by rw [card_step, card_nil N]; rfl
theorem take_snoc1 {α : Type} {l : List α} {i : Nat} {x : α} (h : l[i]? = some x) : l.take (i + 1) = l.take i ++ [x] := by
  rw [List.take_add_one, h]; rfl
/-- two rising lists with the same members -/
theorem rise_eq : ∀ {a b : List Int}, a.Pairwise (· < ·) → b.Pairwise (· < ·) → (∀ k, k ∈ a ↔ k ∈ b) → a = b
  | [], [], _, _, _ => rfl
  | [], y :: b, _, _, h => absurd ((h y).mpr List.mem_cons_self) (fun z => nomatch z)
  | x :: a, [], _, _, h => absurd ((h x).mp List.mem_cons_self) (fun z => nomatch z)
  | x :: a, y :: b, p, q, h => by
    rw [List.pairwise_cons] at p q
    have hxy : x = y := by
      have h1 := (h x).mp List.mem_cons_self
      have h2 := (h y).mpr List.mem_cons_self
      rw [List.mem_cons] at h1 h2
      rcases h1 with h1 | h1
      · exact h1
      · rcases h2 with h2 | h2
        · exact h2.symm
        · have := q.1 x h1; have := p.1 y h2; omega
    subst hxy
    congr 1
    refine rise_eq p.2 q.2 fun k => ?_
    have hk := h k
    rw [List.mem_cons, List.mem_cons] at hk
    constructor
    · intro z
      have := p.1 k z
      exact (hk.mp (.inr z)).elim (fun e => by omega) id
    · intro z
      have := q.1 k z
      exact (hk.mpr (.inr z)).elim (fun e => by omega) id
section
variable (lo hi : Int) (ws : List (Int × Int))
def lev (l : List Nat) : List Nat := (ups 0 ws.length).filter fun p => decide (p ∈ l.flatMap (nexts lo hi ws))
def levs : Nat → List Nat → List (List Nat)
  | 0, _ => []
  | n + 1, l => if l = [] then [] else l :: levs n (lev lo hi ws l)
end
section
variable {lo hi : Int} {ws : List (Int × Int)}
theorem next_mem {b p : Nat} : p ∈ nexts lo hi ws b ↔ b < p ∧ p < ws.length ∧ fit lo hi ws p b = true := by
  unfold nexts
  rw [List.mem_filter, ups_mem]
  constructor
  · rintro ⟨h1, h2⟩; exact ⟨by omega, by omega, h2⟩
  · rintro ⟨h1, h2, h3⟩; exact ⟨by omega, h3⟩
theorem first_mem {p : Nat} : p ∈ firsts lo hi ws ↔ p < ws.length ∧ tim lo hi (ws.take (p + 1)) = true := by
  unfold firsts
  rw [List.mem_filter, ups_mem]
  constructor
  · rintro ⟨h1, h2⟩; exact ⟨by omega, h2⟩
  · rintro ⟨h1, h2⟩; exact ⟨by omega, h2⟩
theorem lev_mem {l : List Nat} {p : Nat} : p ∈ lev lo hi ws l ↔ p ∈ l.flatMap (nexts lo hi ws) := by
  unfold lev
  rw [List.mem_filter, decide_eq_true_iff, ups_mem]
  refine ⟨fun h => h.2, fun h => ⟨?_, h⟩⟩
  obtain ⟨b, _, hp⟩ := List.mem_flatMap.mp h
  have := (next_mem.mp hp).2.1
  omega
theorem lev_eq {l : List Nat} {ns : List Int} {S : Int → Bool} (hp : ns.Pairwise (· < ·)) (hm : ∀ k : Int, k ∈ ns ↔ S k = true) (hS : ∀ k, S k = true ↔ ∃ p : Nat, (p : Int) = k ∧ p ∈ l.flatMap (nexts lo hi ws)) : ns = (lev lo hi ws l).map fun p : Nat => (p : Int) := by
  refine rise_eq hp ?_ fun k => ?_
  · rw [List.pairwise_map]
    exact ((ups_pw 0 _).filter _).imp (fun h => by omega)
  · rw [hm, hS, List.mem_map]
    constructor
    · rintro ⟨p, e, h⟩; exact ⟨p, lev_mem.mpr h, e⟩
    · rintro ⟨p, h, e⟩; exact ⟨p, e, lev_mem.mp h⟩
theorem lev_lt {l : List Nat} {p : Nat} (h : p ∈ lev lo hi ws l) : p < ws.length := by
  obtain ⟨b, _, hp⟩ := List.mem_flatMap.mp (lev_mem.mp h)
  exact (next_mem.mp hp).2.1
theorem lev_ge {l : List Nat} {k p : Nat} (hk : ∀ x ∈ l, k ≤ x) (h : p ∈ lev lo hi ws l) : k + 1 ≤ p := by
  obtain ⟨b, hb, hp⟩ := List.mem_flatMap.mp (lev_mem.mp h)
  have := (next_mem.mp hp).1
  have := hk b hb
  omega
theorem lev_len (l : List Nat) : (lev lo hi ws l).length ≤ ws.length := by
  have := List.length_filter_le (fun p => decide (p ∈ l.flatMap (nexts lo hi ws))) (ups 0 ws.length)
  rw [ups_len] at this; exact this
theorem next_len (b : Nat) : (nexts lo hi ws b).length ≤ ws.length := by
  have := List.length_filter_le (fun p => fit lo hi ws p b) (ups (b + 1) (ws.length - (b + 1)))
  rw [ups_len] at this
  unfold nexts
  omega
end
section
variable {P : Program} {w : World} {K : PySem.W.Frag} {mg : Str → Option Value} {base : Heap} {CN CR : Addr}
theorem sc_Ring_next_level : FnScope ["self", "level", "behind", "place"] ["self", "level"] (C8.fnScope s_Ring_next_level) := C8.fnScope_by (by decide +kernel)
def sp_lev (K : PySem.W.Frag) (CR : Addr) : Sp := fun vs H Q _ => ∃ (R dx L A : Addr) (lo hi : Int) (zs : List Wk) (l : List Nat), vs = [.ref R, .ref A] ∧ H R = some (.ins CR dx (ringF lo hi L)) ∧ WkL H L zs ∧ zs.length ≤ 10 ∧ H A = some (.lst (l.map nI)) ∧ (∀ x ∈ l, x < zs.length) ∧ ∀ H' D, Same H H' → H D = none → H' D = some (.lst ((lev lo hi (zs.map (·.2)) l).map nI)) → Q (.ref D) H'
theorem ok_lev (T : TxtW K mg CN) (TR : TxtR K CR) {f : Addr} {fd : FuncData} (me : Meth K CR "next_level" f) (F : C8.Fun K "next_level" "Ring.next_level" s_Ring_next_level f fd) (b : Binds K fd ["self", "level"] []) (m_next_places : C8.Met P w K mg base 3 CR "next_places" (sp_nexts K CR) []) : C8.Met P w K mg base 4 CR "next_level" (sp_lev K CR) [] := by
  refine C8.met0 TR.c me F b sc_Ring_next_level (fun vs H Q E h => ?_) fun cdv A outer s H vs Q E hr h => ?_
  · obtain ⟨R, dx, L, A, lo, hi, zs, l, rfl, _⟩ := h; rfl
  · obtain ⟨R, dx, L, A, lo, hi, zs, l, rfl, hR, wk, ln, hA, hl, q⟩ := h
    have nd := sc_Ring_next_level.nd
    refine ⟨_, (pss_one (ps_ret (pe_callB (r := rSortedSet w) (cr_sortedSet rfl) (by rfl) T.n_sorted (by decide +kernel) (pa_cons (pe_sc2 (own := [("behind", 2), ("place", 3)]) (g := gName 2) (tt := tYes) (wi1 := iList K _) (g1 := gName 3) (tt1 := tYes) (vs1 := [3]) rfl nd (pi_list (pv 1)) (blkOk_by (N := ["self", "level", "behind", "place"]) (sc := C8.fnScope s_Ring_next_level) (by decide +kernel)) (by decide) (fun _ _ _ _ _ => pg_name (i := 2) nd rfl (Or.inl rfl)) (fun _ _ _ _ _ => pts_nil) (fun _ _ _ _ _ => (pi_list (C8.pe_mt m_next_places hr (by first | decide | exact Nat.le_refl _ | omega) (pv 0) (pa_cons (pv 2) pa_nil)))) (fun _ _ _ _ _ => pg_name (i := 3) nd rfl (Or.inl rfl)) (fun _ _ _ _ _ => pts_nil) (fun _ _ _ _ _ => (pv 3))) pa_nil)))), ?_⟩
    walk_at "go"
    refine g_sc2 ?_
    walk_at "go"
    generalize hws : zs.map (·.2) = ws at q
    have wl : ws.length = zs.length := by rw [← hws, List.length_map]
    refine w_sc2 (SqL.of hA) (fun D i H' => Same H H' ∧ ∃ S, H' D = some (SetO w D S (card ws.length S)) ∧ ∀ k : Int, S k = true ↔ ∃ p : Nat, (p : Int) = k ∧ p ∈ (l.take i).flatMap (nexts lo hi ws)) (fun D hD => ⟨same_new hD, fun _ => false, ?_, fun k => ?_⟩) (fun D i H' hD _ h => SqL.of (h.1 _ _ hA)) (fun D i x H' hD hx h => ?_) (fun D H' hD h => ?_)
    · rw [card_nil]; exact upd_same
    · exact ⟨fun z => Bool.noConfusion z, fun ⟨p, _, hp⟩ => by cases hp⟩
    · obtain ⟨b, hb, rfl⟩ := nI_at hx
      obtain ⟨s1, S, hS, eS⟩ := h
      have bl := hl b (List.mem_of_getElem? hb)
      have hR' := s1 _ _ hR
      walk_at "go"
      refine ⟨rfl, ?_⟩
      walk_at "go"
      refine ⟨_, rfl, R, dx, _, rfl, hR', rfl, ?_⟩
      walk_at "go"
      refine ⟨R, dx, L, lo, hi, zs, b, rfl, hR', wk.same s1, ln, bl, fun H2 D2 s2 hD2 eD2 => ?_⟩
      rw [hws] at eD2
      have s12 := s1.trans s2
      have nDD : D2 ≠ D := (ne_of_none hS hD2).symm
      refine ⟨D2, rfl, ⟨_, SqL.of eD2⟩, ?_⟩
      refine inS_list (ys := (nexts lo hi ws b).map nI) (fun j H3 => Same H H3 ∧ H3 D2 = some (.lst ((nexts lo hi ws b).map nI)) ∧ ∃ S, H3 D = some (SetO w D S (card ws.length S)) ∧ ∀ k : Int, S k = true ↔ ∃ p : Nat, (p : Int) = k ∧ p ∈ (l.take i).flatMap (nexts lo hi ws) ++ (nexts lo hi ws b).take j) ⟨s12, eD2, S, s2 _ _ hS, fun k => by rw [eS k, List.take_zero, List.append_nil]⟩ (fun j H' _ h => SqL.of h.2.1) (fun j y H' hy h => ?_) (fun H' h => ?_)
      · obtain ⟨p, hp, rfl⟩ := nI_at hy
        obtain ⟨s3, e3, S3, hS3, eS3⟩ := h
        have pm := (next_mem.mp (List.mem_of_getElem? hp)).2.1
        walk_at "go"
        refine ⟨rfl, ?_⟩
        walk_at "go"
        refine ⟨(p : Int), S3, _, rfl, hS3, ?_, Wd.Same.mut s3 hD, by rw [upd_ne nDD]; exact e3, fun j => S3 j || decide (j = (p : Int)), ?_, fun k => ?_⟩
        · have := card_le ws.length S3
          have : (12 : Nat) < scanBound := by decide
          omega
        · rw [upd_same, card_put S3 pm]; rfl
        · rw [Bool.or_eq_true, eS3 k, decide_eq_true_iff, take_snoc1 hp]
          constructor
          · rintro (⟨q, e, hq⟩ | e)
            · refine ⟨q, e, ?_⟩
              rw [List.mem_append] at hq ⊢
              rcases hq with hq | hq
              · exact .inl hq
              · exact .inr (List.mem_append_left _ hq)
            · exact ⟨p, e.symm, List.mem_append_right _ (List.mem_append_right _ (List.mem_singleton.mpr rfl))⟩
          · rintro ⟨q, e, hq⟩
            rw [List.mem_append, List.mem_append, List.mem_singleton] at hq
            rcases hq with hq | hq | hq
            · exact .inl ⟨q, e, List.mem_append_left _ hq⟩
            · exact .inl ⟨q, e, List.mem_append_right _ hq⟩
            · exact .inr (by omega)
      · obtain ⟨s3, e3, S3, hS3, eS3⟩ := h
        refine ⟨s3, S3, hS3, fun k => ?_⟩
        rw [eS3 k, List.length_map, List.take_length, take_snoc1 hb, List.flatMap_append, List.flatMap_singleton]
    · obtain ⟨s1, S, hS, eS⟩ := h
      rw [List.length_map, List.take_length] at eS
      walk_at "go"
      refine ⟨D, S, _, rfl, hS, by have := card_le ws.length S; omega, fun ns p hp hm hlen hpn => ?_⟩
      rw [lev_eq hp hm eS]
      rw [List.map_map]
      exact q _ p (s1.trans (same_new hpn)) (Wd.Same.back s1 hpn) upd_same
end
end K09
namespace K09
open PySem PySem.Spec PyProof.Rows L2 Wd
/-- rows in a list, all made behind H0 -/
structure RowsL (H0 H : Hp) (RR : Addr) (rs : List (Addr × List Nat)) : Prop where
  at_ : H RR = some (.lst (rs.map fun r => V.ref r.1))
  own : ∀ r ∈ rs, H r.1 = some (.lst (r.2.map nI)) ∧ H0 r.1 = none
theorem RowsL.same {H0 H H' : Hp} {RR : Addr} {rs : List (Addr × List Nat)} (t : RowsL H0 H RR rs) (e : Same H H') : RowsL H0 H' RR rs := ⟨e _ _ t.at_, fun r hr => ⟨e _ _ (t.own r hr).1, (t.own r hr).2⟩⟩
theorem RowsL.put {H0 H : Hp} {RR M : Addr} {rs : List (Addr × List Nat)} {r : List Nat} (t : RowsL H0 H RR rs) (h : H M = some (.lst (r.map nI))) (n : H0 M = none) (n2 : M ≠ RR) (ne : ∀ y ∈ rs, y.1 ≠ RR) : RowsL H0 (upd H RR (.lst ((rs.map fun r => V.ref r.1) ++ [.ref M]))) RR (rs ++ [(M, r)]) := by
  refine ⟨by rw [upd_same, List.map_append]; rfl, fun z hz => ?_⟩
  rw [List.mem_append, List.mem_singleton] at hz
  rcases hz with hz | rfl
  · exact ⟨by rw [upd_ne (ne z hz)]; exact (t.own z hz).1, (t.own z hz).2⟩
  · exact ⟨by rw [upd_ne n2]; exact h, n⟩
def levels (lo hi : Int) (ws : List (Int × Int)) (f : Nat) : List (List Nat) := levs lo hi ws (ws.length + 1) [f]
section
variable {P : Program} {w : World} {K : PySem.W.Frag} {mg : Str → Option Value} {base : Heap} {CN CR : Addr}
theorem sc_Ring_levels_of : FnScope ["self", "first", "told", "level"] ["self", "first"] (C8.fnScope s_Ring_levels_of) := C8.fnScope_by (by decide +kernel)
def sp_levels (K : PySem.W.Frag) (CR : Addr) : Sp := fun vs H Q _ => ∃ (R dx L : Addr) (lo hi : Int) (zs : List Wk) (f : Nat), vs = [.ref R, .int f] ∧ H R = some (.ins CR dx (ringF lo hi L)) ∧ WkL H L zs ∧ zs.length ≤ 10 ∧ f < zs.length ∧ ∀ H' T rs, Same H H' → H T = none → RowsL H H' T rs → rs.map (·.2) = levels lo hi (zs.map (·.2)) f → Q (.ref T) H'
theorem ok_levels (T : TxtW K mg CN) (TR : TxtR K CR) {f : Addr} {fd : FuncData} (me : Meth K CR "levels_of" f) (F : C8.Fun K "levels_of" "Ring.levels_of" s_Ring_levels_of f fd) (b : Binds K fd ["self", "first"] []) (m_next_level : C8.Met P w K mg base 4 CR "next_level" (sp_lev K CR) []) : C8.Met P w K mg base 5 CR "levels_of" (sp_levels K CR) [] := by
  refine C8.met0 TR.c me F b sc_Ring_levels_of (fun vs H Q E h => ?_) fun cdv A outer s H vs Q E hr h => ?_
  · obtain ⟨R, dx, L, lo, hi, zs, f, rfl, _⟩ := h; rfl
  · obtain ⟨R, dx, L, lo, hi, zs, f, rfl, hR, wk, ln, hf, q⟩ := h
    have nd := sc_Ring_levels_of.nd
    refine ⟨_, (pss_cons (ps_set (i := 2) nd rfl (Or.inl rfl) (pe_lst pa_nil))
      (pss_cons (ps_set (i := 3) nd rfl (Or.inl rfl) (pe_lst (pa_cons (pv 1) pa_nil)))
      (pss_cons (ps_while PassesOwn.never (pt_truth (pv 3) (by intro _; rfl)) (pss_cons (ps_expr (pe_bmK (K := K) rfl PySem.F.plainAttrs_list PySem.F.slot_list_append PySem.F.type_list_append mt_append (pv 2) (pa_cons (pv 3) pa_nil)))
      (pss_one (ps_set (i := 3) nd rfl (Or.inl rfl) (C8.pe_mt m_next_level hr (by first | decide | exact Nat.le_refl _ | omega) (pv 0) (pa_cons (pv 3) pa_nil))))))
      (pss_one (ps_ret (pv 2)))))), ?_⟩
    walk_at "go"
    intro TT hTT
    have s1 := same_new (o := .lst []) hTT
    have rl0 : RowsL H (upd H TT (.lst [])) TT [] := ⟨upd_same, fun r hr => nomatch hr⟩
    generalize upd H TT (.lst []) = H1 at s1 rl0
    walk_at "go"
    intro A0 hA0
    have s2 := same_new (o := .lst [nI f]) hA0
    have n0 := Wd.Same.back s1 hA0
    have nA : A0 ≠ TT := (ne_of_none rl0.at_ hA0).symm
    generalize hws : zs.map (·.2) = ws at q
    have wl : ws.length = zs.length := by rw [← hws, List.length_map]
    walk_at "go"
    refine w_loop (fun n σ H' => ∃ (rs : List (Addr × List Nat)) (A : Addr) (l : List Nat) (k : Nat), σ = [some (.ref R), some (nI f), some (.ref TT), some (.ref A)] ∧ Same H H' ∧ RowsL H H' TT rs ∧ (∀ y ∈ rs, y.1 ≠ TT) ∧ H' A = some (.lst (l.map nI)) ∧ H A = none ∧ A ≠ TT ∧ (∀ x ∈ l, k ≤ x ∧ x < ws.length) ∧ rs.map (·.2) ++ levs lo hi ws n l = levels lo hi ws f ∧ rs.length = k ∧ k + n = ws.length + 1) (ws.length + 1) ?_ ?_
    · refine ⟨[], A0, [f], 0, rfl, s1.trans s2, rl0.same s2, (fun y hy => nomatch hy), upd_same, n0, nA, fun x hx => ?_, rfl, rfl, by omega⟩
      rw [List.mem_singleton] at hx
      omega
    clear rl0 s1 s2 nA n0 hA0
    rintro n σ H4 ⟨rs, A, l, k, rfl, s4, rl, nr, eA, nA, nAT, lk, el, rk, kn⟩
    have wk4 := wk.same s4
    have eR4 := s4 _ _ hR
    walk_at "go"
    rcases l with _ | ⟨x0, l0⟩
    · refine ⟨false, .inl ⟨[], SqL.of eA, rfl⟩, ?_⟩
      walk_at "go"
      have e0 : levs lo hi ws n [] = [] := by cases n <;> rfl
      rw [e0, List.append_nil] at el
      exact q _ TT rs s4 hTT rl el
    · generalize hl : x0 :: l0 = l at eA lk el
      have ne' : l ≠ [] := by rw [← hl]; exact List.cons_ne_nil _ _
      have hk := lk x0 (by rw [← hl]; exact List.mem_cons_self)
      match n, kn, el with
      | 0, kn, _ => omega
      | n + 1, kn, el =>
      refine ⟨true, .inl ⟨_, SqL.of eA, by rw [← hl]; rfl⟩, ?_⟩
      refine L2.iteT ?_
      refine ⟨fun σ' H' => ∃ (rs : List (Addr × List Nat)) (A : Addr) (l : List Nat) (k : Nat), σ' = [some (.ref R), some (nI f), some (.ref TT), some (.ref A)] ∧ Same H H' ∧ RowsL H H' TT rs ∧ (∀ y ∈ rs, y.1 ≠ TT) ∧ H' A = some (.lst (l.map nI)) ∧ H A = none ∧ A ≠ TT ∧ (∀ x ∈ l, k ≤ x ∧ x < ws.length) ∧ rs.map (·.2) ++ levs lo hi ws n l = levels lo hi ws f ∧ rs.length = k ∧ k + n = ws.length + 1, fun σ' H' h => ⟨n, Nat.lt_succ_self n, h⟩, ?_⟩
      walk_at "go"
      refine ⟨.inl ⟨rfl, _, SqL.of rl.at_⟩, ?_⟩
      walk_at "go"
      refine g_append rl.at_ (by rw [List.length_map]; omega) ?_
      have rl5 := rl.put eA nA nAT nr
      have m5 := Wd.Same.mut (o := .lst ((rs.map fun r => V.ref r.1) ++ [.ref A])) s4 hTT
      have eA5 : upd H4 TT (.lst ((rs.map fun r => V.ref r.1) ++ [.ref A])) A = some (.lst (l.map nI)) := by rw [upd_ne nAT]; exact eA
      generalize upd H4 TT (.lst ((rs.map fun r => V.ref r.1) ++ [.ref A])) = H5 at rl5 m5 eA5
      walk_at "go"
      refine ⟨_, rfl, R, dx, _, rfl, m5 _ _ hR, rfl, ?_⟩
      walk_at "go"
      refine ⟨R, dx, L, A, lo, hi, zs, l, rfl, m5 _ _ hR, wk.same m5, ln, eA5, fun x hx => by have := lk x hx; omega, fun H6 A6 s6 hA6 eA6 => ?_⟩
      rw [hws] at eA6
      walk_at "go"
      refine ⟨rs ++ [(A, l)], A6, lev lo hi ws l, k + 1, rfl, m5.trans s6, rl5.same s6, fun y hy => ?_, eA6, Wd.Same.back m5 hA6, (ne_of_none rl5.at_ hA6).symm, fun x hx => ⟨lev_ge (fun y hy => (lk y hy).1) hx, lev_lt hx⟩, ?_, by rw [List.length_append, rk]; rfl, by omega⟩
      · rw [List.mem_append, List.mem_singleton] at hy
        rcases hy with hy | rfl
        · exact nr y hy
        · exact nAT
      · rw [← el, List.map_append, List.append_assoc]
        congr 1
        show [l] ++ _ = if l = [] then [] else _
        rw [if_neg ne']; rfl

theorem sc_Ring_comes_back : FnScope ["self", "first", "levels", "level", "place"] ["self", "first", "levels"] (C8.fnScope s_Ring_comes_back) := C8.fnScope_by (by decide +kernel)
def backTo (lo hi : Int) (ws : List (Int × Int)) (f : Nat) (ls : List (List Nat)) : Bool := ls.any fun l => l.any fun p => fit lo hi ws f p
def sp_comes (K : PySem.W.Frag) (CR : Addr) : Sp := fun vs H Q _ => ∃ (H0 : Hp) (R dx L A : Addr) (lo hi : Int) (zs : List Wk) (f : Nat) (rs : List (Addr × List Nat)), vs = [.ref R, .int f, .ref A] ∧ H R = some (.ins CR dx (ringF lo hi L)) ∧ WkL H L zs ∧ zs.length ≤ 10 ∧ f < zs.length ∧ RowsL H0 H A rs ∧ (∀ r ∈ rs, ∀ x ∈ r.2, x < zs.length) ∧ ∀ H', Same H H' → Q (.bl (backTo lo hi (zs.map (·.2)) f (rs.map (·.2)))) H'
theorem ok_comes (T : TxtW K mg CN) (TR : TxtR K CR) {f : Addr} {fd : FuncData} (me : Meth K CR "comes_back" f) (F : C8.Fun K "comes_back" "Ring.comes_back" s_Ring_comes_back f fd) (b : Binds K fd ["self", "first", "levels"] []) (m_fits : C8.Met P w K mg base 2 CR "fits" (sp_fits K CR) []) : C8.Met P w K mg base 3 CR "comes_back" (sp_comes K CR) [] := by
  refine C8.met0 TR.c me F b sc_Ring_comes_back (fun vs H Q E h => ?_) fun cdv A outer s H vs Q E hr h => ?_
  · obtain ⟨H0, R, dx, L, A, lo, hi, zs, f, rs, rfl, _⟩ := h; rfl
  · obtain ⟨H0, R, dx, L, A, lo, hi, zs, f, rs, rfl, hR, wk, ln, hf, rl, lt, q⟩ := h
    have nd := sc_Ring_comes_back.nd
    refine ⟨_, (pss_cons (ps_for PassesOwn.never rfl (pi_list (pv 2)) (pg_name (i := 3) nd rfl (Or.inl rfl)) (pss_one (ps_for PassesOwn.never rfl (pi_list (pv 3)) (pg_name (i := 4) nd rfl (Or.inl rfl)) (pss_one (ps_if (pt_val (C8.pe_mt m_fits hr (by first | decide | exact Nat.le_refl _ | omega) (pv 0) (pa_cons (pv 1) (pa_cons (pv 4) pa_nil)))) (pss_one (ps_ret pe_bl)) pss_nil)))))
      (pss_one (ps_ret pe_bl))), ?_⟩
    generalize hws : zs.map (·.2) = ws at q
    have wl : ws.length = zs.length := by rw [← hws, List.length_map]
    walk_at "go"
    refine w_list (xs := rs.map fun r => V.ref r.1) (fun i σ H' => ∃ v3 v4 : Option V, σ = [some (.ref R), some (nI f), some (.ref A), v3, v4] ∧ Same H H' ∧ ∀ j r, j < i → rs[j]? = some r → (r.2.any fun p => fit lo hi ws f p) = false) ?_ ?_ ?_ ?_
    · exact ⟨_, _, rfl, fun _ _ h => h, fun j r hj => by omega⟩
    · rintro i σ H' _ ⟨v3, v4, rfl, sm, _⟩
      exact SqL.of (sm _ _ rl.at_)
    · rintro i x σ H5 hx ⟨v3, v4, rfl, sm, no⟩
      obtain ⟨r, hr', rfl⟩ := map_at2 hx
      have rm := List.mem_of_getElem? hr'
      have ro := rl.own r rm
      have er5 := sm _ _ ro.1
      walk_at "go"
      refine w_list (xs := r.2.map nI) (fun j σ H' => ∃ v4 : Option V, σ = [some (.ref R), some (nI f), some (.ref A), some (.ref r.1), v4] ∧ Same H H' ∧ ∀ m p, m < j → r.2[m]? = some p → fit lo hi ws f p = false) ?_ ?_ ?_ ?_
      · exact ⟨_, rfl, sm, fun j r hj => by omega⟩
      · rintro j σ H' _ ⟨v4, rfl, s2, _⟩
        exact SqL.of (s2 _ _ ro.1)
      · rintro j x σ H6 hx ⟨v4, rfl, s2, no2⟩
        obtain ⟨p, hp, rfl⟩ := nI_at hx
        have pl := lt r rm p (List.mem_of_getElem? hp)
        walk_at "go"
        refine ⟨_, rfl, R, dx, _, rfl, s2 _ _ hR, rfl, ?_⟩
        walk_at "go"
        refine ⟨R, dx, L, lo, hi, zs, f, p, rfl, s2 _ _ hR, wk.same s2, ln, hf, pl, fun H7 s7 => ?_⟩
        rw [hws]
        refine ⟨_, rfl, ?_⟩
        cases hc : fit lo hi ws f p with
        | true =>
          walk_at "go"
          have e : backTo lo hi ws f (rs.map (·.2)) = true := by
            unfold backTo
            rw [List.any_eq_true]
            exact ⟨r.2, List.mem_map.mpr ⟨r, rm, rfl⟩, List.any_eq_true.mpr ⟨p, List.mem_of_getElem? hp, hc⟩⟩
          rw [e] at q
          exact q _ (s2.trans s7)
        | false =>
          walk_at "go"
          refine ⟨_, rfl, s2.trans s7, fun m p2 hm hp2 => ?_⟩
          by_cases c : m < j
          · exact no2 m p2 c hp2
          · have : m = j := by omega
            subst this
            cases hp.symm.trans hp2
            exact hc
      · rintro σ H6 ⟨v4, rfl, s2, no2⟩
        rw [List.length_map] at no2
        walk_at "go"
        refine ⟨_, _, rfl, s2, fun m r2 hm hr2 => ?_⟩
        by_cases c : m < i
        · exact no m r2 c hr2
        · have : m = i := by omega
          subst this
          cases hr'.symm.trans hr2
          rw [List.any_eq_false]
          intro p hp
          obtain ⟨j, hj, rfl⟩ := List.mem_iff_getElem.mp hp
          rw [no2 j _ hj (List.getElem?_eq_getElem hj)]
          decide
    · rintro σ H6 ⟨v3, v4, rfl, sm, no⟩
      rw [List.length_map] at no
      walk_at "go"
      have e : backTo lo hi ws f (rs.map (·.2)) = false := by
        unfold backTo
        rw [List.any_eq_false]
        intro l hl
        obtain ⟨r, hr', rfl⟩ := List.mem_map.mp hl
        obtain ⟨j, hj, rfl⟩ := List.mem_iff_getElem.mp hr'
        rw [no j _ hj (List.getElem?_eq_getElem hj)]
        decide
      rw [e] at q
      exact q _ sm
end
end K09
namespace K09
open PySem PySem.Spec PyProof.Rows L2 Wd
theorem cut_any {α : Type} (l : List α) (f : α → V) (b : Nat) : cutV (l.map f) none (some (b : Int)) = (l.take b).map f := by
  unfold cutV
  rw [HT.sIx_nat, HT.sIx_none, List.length_map, List.drop_zero, Nat.sub_zero, List.map_take]
  by_cases h : b ≤ l.length
  · rw [Nat.min_eq_left h]
  · rw [Nat.min_eq_right (by omega), List.take_of_length_le (by rw [List.length_map]; omega), List.take_of_length_le (by rw [List.length_map]; omega)]
def looked (m : Int) : Nat := (m - 1).toNat
def shownB (lo hi : Int) (ws : List (Int × Int)) (m : Int) : Bool := !((firsts lo hi ws).any fun f => backTo lo hi ws f ((levels lo hi ws f).take (looked m)))
section
variable {lo hi : Int} {ws : List (Int × Int)}
theorem levs_lt : ∀ (n : Nat) (l : List Nat), (∀ x ∈ l, x < ws.length) → ∀ r ∈ levs lo hi ws n l, r ≠ [] ∧ ∀ x ∈ r, x < ws.length
  | 0, l, _, r, hr => by cases hr
  | n + 1, l, h, r, hr => by
    unfold levs at hr
    split at hr
    · cases hr
    · rename_i hn
      rw [List.mem_cons] at hr
      rcases hr with rfl | hr
      · exact ⟨hn, h⟩
      · exact levs_lt n _ (fun x hx => lev_lt hx) r hr
end
theorem in_nI {l : List Nat} {f : Int} : inV (.int f) (l.map nI) = true ↔ ∃ p ∈ l, (p : Int) = f := by
  unfold inV
  rw [List.any_map, List.any_eq_true]
  constructor
  · rintro ⟨p, hp, e⟩
    have e' : decide ((p : Int) = f) = true := e
    exact ⟨p, hp, of_decide_eq_true e'⟩
  · rintro ⟨p, hp, e⟩
    have e' : decide ((p : Int) = f) = true := decide_eq_true e
    exact ⟨p, hp, e'⟩
theorem flat_nI (l : List Nat) : (l.map nI).all flatV = true := by
  rw [List.all_map, List.all_eq_true]
  intro x _
  rfl
section
variable {P : Program} {w : World} {K : PySem.W.Frag} {mg : Str → Option Value} {base : Heap} {CN CR : Addr}
abbrev s_levels_from : Stmt := top 22
theorem sc_levels_from : FnScope ["window", "works", "first", "ring"] ["window", "works", "first"] (C8.fnScope s_levels_from) := C8.fnScope_by (by decide +kernel)
def sp_from (K : PySem.W.Frag) (CN : Addr) : Sp := fun vs H Q E => ∃ (W L : Addr) (lo hi : Int) (zs : List Wk) (f : Int), vs = [.ref W, .ref L, .int f] ∧ SqT K H W [.int lo, .int hi] ∧ okW lo hi ∧ WkL H L zs ∧ okZ zs ∧ zs ≠ [] ∧ zs.length ≤ 10 ∧
  (∀ p : Nat, f = p → p ∈ firsts lo hi (zs.map (·.2)) → ∀ H' T rs, Same H H' → H T = none → RowsL H H' T rs → rs.map (·.2) = levels lo hi (zs.map (·.2)) p → Q (.ref T) H') ∧ ((∀ p ∈ firsts lo hi (zs.map (·.2)), (p : Int) ≠ f) → ∀ H', Same H H' → E (.ref CN) none H')
theorem ok_from (T : TxtW K mg CN) (TR : TxtR K CR) {f : Addr} {fd : FuncData} (D : C8.Def K mg "levels_from" s_levels_from f fd) (b : Binds K fd ["window", "works", "first"] []) (g_Ring : C8.Mak P w K mg base 4 "Ring" CR (sp_init K CR) [])
    (m_first_places : C8.Met P w K mg base 2 CR "first_places" (sp_firsts K CR) []) (m_levels_of : C8.Met P w K mg base 5 CR "levels_of" (sp_levels K CR) []) : CalX P w K mg base 6 "levels_from" (sp_from K CN) := by
  refine calX D b sc_levels_from (fun vs H Q E h => ?_) fun cdv A outer s H vs Q E hr h => ?_
  · obtain ⟨W, L, lo, hi, zs, f, rfl, _⟩ := h; rfl
  · obtain ⟨W, L, lo, hi, zs, f, rfl, hW, okw, wk, okz, ne, ln, q1, q2⟩ := h
    have nd := sc_levels_from.nd
    refine ⟨_, (pss_cons (ps_set (i := 3) nd rfl (Or.inl rfl) (C8.pe_mk g_Ring hr (by first | decide | exact Nat.le_refl _ | omega) (by rfl) (pa_cons (pv 0) (pa_cons (pv 1) pa_nil))))
      (pss_cons (ps_if (pt_cmpR (r := rIn K true) op_notIn_seq (pv 2) (C8.pe_mt0 m_first_places hr (by first | decide | exact Nat.le_refl _ | omega) (pv 3)) (by with_unfolding_all rfl)) (pss_one (ps_raise rfl (takes_of rfl rfl rfl rfl) (pmk_own PySem.F.excBase_ValueError T.x_NoPlace T.g_NoPlace T.k_NoPlace (raises_own T.b_NoPlace T.t_NoPlace) (by rfl)))) pss_nil)
      (pss_one (ps_ret (C8.pe_mt m_levels_of hr (by first | decide | exact Nat.le_refl _ | omega) (pv 3) (pa_cons (pv 2) pa_nil)))))), ?_⟩
    walk_at "go"
    refine ⟨_, rfl, _, rfl, fun R dx hR hdx ndx => ?_⟩
    have s1 := same_new (o := .own R) hdx
    have hR1 : upd H dx (.own R) R = none := by rw [upd_ne ndx.symm]; exact hR
    have s2 := s1.trans (same_new (o := .ins CR dx []) hR1)
    refine ⟨R, dx, W, L, lo, hi, zs, rfl, upd_same, tup_same s2 hW, okw, wk.same s2, okz, ne, ln, fun H1 f1 eR => ⟨rfl, ?_⟩⟩
    have sH : Same H H1 := fun a o h => f1 a o (fun z => by rw [z, hR] at h; cases h) (s2 a o h)
    clear f1 s2 s1 hR1
    have wk1 := wk.same sH
    walk_at "go"
    refine ⟨_, rfl, R, dx, _, rfl, eR, rfl, ?_⟩
    walk_at "go"
    refine ⟨R, dx, L, lo, hi, zs, rfl, eR, wk1, ln, fun H2 Fp s2 hFp eFp => ?_⟩
    have sH2 := sH.trans s2
    have eR2 := s2 _ _ eR
    generalize hws : zs.map (·.2) = ws at eFp q1 q2
    have wl : ws.length = zs.length := by rw [← hws, List.length_map]
    refine ⟨Fp, _, rfl, .inl (SqL.of eFp), rfl, ?_, ?_⟩
    · exact flat_nI _
    by_cases hin : ∃ p ∈ firsts lo hi ws, (p : Int) = f
    · rw [in_nI.mpr hin]
      obtain ⟨p, hp, rfl⟩ := hin
      walk_at "go"
      refine ⟨_, rfl, R, dx, _, rfl, eR2, rfl, ?_⟩
      walk_at "go"
      refine ⟨R, dx, L, lo, hi, zs, p, rfl, eR2, wk1.same s2, ln, by have := (first_mem.mp hp).1; omega, fun H3 T3 rs s3 hT3 rl er => ?_⟩
      rw [hws] at er
      exact q1 p rfl hp H3 T3 rs (sH2.trans s3) (Wd.Same.back sH2 hT3) ⟨rl.at_, fun r hr => ⟨(rl.own r hr).1, Wd.Same.back sH2 (rl.own r hr).2⟩⟩ er
    · have ei : inV (.int f) ((firsts lo hi ws).map nI) = false := by
        cases h : inV (.int f) ((firsts lo hi ws).map nI) with
        | false => rfl
        | true => exact absurd (in_nI.mp h) hin
      rw [ei]
      walk_at "go"
      exact q2 (fun p hp e => hin ⟨p, hp, e⟩) _ sH2

abbrev s_shown : Stmt := top 23
theorem sc_shown : FnScope ["window", "works", "many", "ring", "looked_at", "first"] ["window", "works", "many"] (C8.fnScope s_shown) := C8.fnScope_by (by decide +kernel)
def sp_shown (K : PySem.W.Frag) (CN : Addr) : Sp := fun vs H Q _ => ∃ (W L : Addr) (lo hi : Int) (zs : List Wk) (m : Int), vs = [.ref W, .ref L, .int m] ∧ SqT K H W [.int lo, .int hi] ∧ okW lo hi ∧ WkL H L zs ∧ okZ zs ∧ zs ≠ [] ∧ zs.length ≤ 10 ∧ ∀ H', Same H H' → Q (.bl (shownB lo hi (zs.map (·.2)) m)) H'
theorem ok_shown (T : TxtW K mg CN) (TR : TxtR K CR) {f : Addr} {fd : FuncData} (D : C8.Def K mg "shown" s_shown f fd) (b : Binds K fd ["window", "works", "many"] []) (g_Ring : C8.Mak P w K mg base 4 "Ring" CR (sp_init K CR) [])
    (m_first_places : C8.Met P w K mg base 2 CR "first_places" (sp_firsts K CR) []) (m_levels_of : C8.Met P w K mg base 5 CR "levels_of" (sp_levels K CR) []) (m_comes_back : C8.Met P w K mg base 3 CR "comes_back" (sp_comes K CR) []) : C8.Cal P w K mg base 6 "shown" (sp_shown K CN) [] := by
  refine C8.cal0 D b .nil sc_shown (fun vs H Q E h => ?_) fun cdv A outer s H vs Q E hr h => ?_
  · obtain ⟨W, L, lo, hi, zs, m, rfl, _⟩ := h; rfl
  · obtain ⟨W, L, lo, hi, zs, m, rfl, hW, okw, wk, okz, ne, ln, q⟩ := h
    have nd := sc_shown.nd
    refine ⟨_, (pss_cons (ps_set (i := 3) nd rfl (Or.inl rfl) (C8.pe_mk g_Ring hr (by first | decide | exact Nat.le_refl _ | omega) (by rfl) (pa_cons (pv 0) (pa_cons (pv 1) pa_nil))))
      (pss_cons (ps_set (i := 4) nd rfl (Or.inl rfl) (pe_callB (call_max1 rfl) (by rfl) T.n_max (by decide +kernel) (pa_cons pe_int (pa_cons (pe_op op_sub (pv 2) pe_int) pa_nil))))
      (pss_cons (ps_for PassesOwn.never rfl (pi_list (C8.pe_mt0 m_first_places hr (by first | decide | exact Nat.le_refl _ | omega) (pv 3))) (pg_name (i := 5) nd rfl (Or.inl rfl)) (pss_one (ps_if (pt_val (C8.pe_mt m_comes_back hr (by first | decide | exact Nat.le_refl _ | omega) (pv 3) (pa_cons (pv 5) (pa_cons (pe_slice (r := rSlL K) sl_list (C8.pe_mt m_levels_of hr (by first | decide | exact Nat.le_refl _ | omega) (pv 3) (pa_cons (pv 5) pa_nil)) po_none (po_some (pv 4))) pa_nil)))) (pss_one (ps_ret pe_bl)) pss_nil)))
      (pss_one (ps_ret pe_bl))))), ?_⟩
    walk_at "go"
    refine ⟨_, rfl, _, rfl, fun R dx hR hdx ndx => ?_⟩
    have s1 := same_new (o := .own R) hdx
    have hR1 : upd H dx (.own R) R = none := by rw [upd_ne ndx.symm]; exact hR
    have s2 := s1.trans (same_new (o := .ins CR dx []) hR1)
    refine ⟨R, dx, W, L, lo, hi, zs, rfl, upd_same, tup_same s2 hW, okw, wk.same s2, okz, ne, ln, fun H1 f1 eR => ⟨rfl, ?_⟩⟩
    have sH : Same H H1 := fun a o h => f1 a o (fun z => by rw [z, hR] at h; cases h) (s2 a o h)
    clear f1 s2 s1 hR1
    have wk1 := wk.same sH
    walk_at "go"
    have elk : (if m - 1 > 0 then m - 1 else 0) = ((looked m : Nat) : Int) := by unfold looked; split <;> omega
    rw [elk]
    refine ⟨_, rfl, R, dx, _, rfl, eR, rfl, ?_⟩
    walk_at "go"
    refine ⟨R, dx, L, lo, hi, zs, rfl, eR, wk1, ln, fun H2 Fp s2 hFp eFp => ?_⟩
    have sH2 := sH.trans s2
    have eR2 := s2 _ _ eR
    have wk2 := wk1.same s2
    generalize hws : zs.map (·.2) = ws at eFp q
    have wl : ws.length = zs.length := by rw [← hws, List.length_map]
    refine w_list (xs := (firsts lo hi ws).map nI) (fun i σ H' => ∃ v5 : Option V, σ = [some (.ref W), some (.ref L), some (.int m), some (.ref R), some (.int (looked m : Nat)), v5] ∧ Same H2 H' ∧ ∀ j p, j < i → (firsts lo hi ws)[j]? = some p → backTo lo hi ws p ((levels lo hi ws p).take (looked m)) = false) ?_ ?_ ?_ ?_
    · exact ⟨_, rfl, fun _ _ h => h, fun j r hj => by omega⟩
    · rintro i σ H' _ ⟨v5, rfl, sm, _⟩
      exact SqL.of (sm _ _ eFp)
    · rintro i x σ H5 hx ⟨v5, rfl, sm, no⟩
      obtain ⟨p, hp, rfl⟩ := nI_at hx
      have pf := List.mem_of_getElem? hp
      have pl : p < zs.length := by have := (first_mem.mp pf).1; omega
      have eR5 := sm _ _ eR2
      have wk5 := wk2.same sm
      walk_at "go"
      refine ⟨_, rfl, R, dx, _, rfl, eR5, rfl, ?_⟩
      walk_at "go"
      refine ⟨_, rfl, R, dx, _, rfl, eR5, rfl, ?_⟩
      walk_at "go"
      refine ⟨R, dx, L, lo, hi, zs, p, rfl, eR5, wk5, ln, pl, fun H6 T6 rs s6 hT6 rl er => ?_⟩
      rw [hws] at er
      walk_at "go"
      refine g_slL (SqL.of rl.at_) fun A7 hA7 => ?_
      rw [cut_any]
      have s7 := same_new (o := .lst ((rs.take (looked m)).map fun r => V.ref r.1)) hA7
      have i7 := upd_same (H := H6) (a := A7) (o := .lst ((rs.take (looked m)).map fun r => V.ref r.1))
      generalize upd H6 A7 (.lst ((rs.take (looked m)).map fun r => V.ref r.1)) = H7 at s7 i7
      have s57 := s6.trans s7
      walk_at "go"
      refine ⟨H5, R, dx, L, A7, lo, hi, zs, p, rs.take (looked m), rfl, s57 _ _ eR5, wk5.same s57, ln, pl, ⟨i7, fun r hr => ⟨s7 _ _ (rl.own r (List.mem_of_mem_take hr)).1, (rl.own r (List.mem_of_mem_take hr)).2⟩⟩, fun r hr x hx => ?_, fun H8 s8 => ?_⟩
      · have rm : r.2 ∈ levels lo hi ws p := by rw [← er]; exact List.mem_map.mpr ⟨r, List.mem_of_mem_take hr, rfl⟩
        have := (levs_lt (ws.length + 1) [p] (fun y hy => by rw [List.mem_singleton] at hy; omega) r.2 rm).2 x hx
        omega
      · rw [hws, List.map_take, er]
        have s8' := (sm.trans s57).trans s8
        refine ⟨_, rfl, ?_⟩
        cases hc : backTo lo hi ws p ((levels lo hi ws p).take (looked m)) with
        | true =>
          walk_at "go"
          have e : shownB lo hi ws m = false := by
            unfold shownB
            rw [List.any_eq_true.mpr ⟨p, pf, hc⟩]; rfl
          rw [e] at q
          exact q _ (sH2.trans s8')
        | false =>
          walk_at "go"
          refine ⟨_, rfl, s8', fun j p2 hm hp2 => ?_⟩
          by_cases c : j < i
          · exact no j p2 c hp2
          · have : j = i := by omega
            subst this
            cases hp.symm.trans hp2
            exact hc
    · rintro σ H6 ⟨v5, rfl, sm, no⟩
      rw [List.length_map] at no
      walk_at "go"
      have e : shownB lo hi ws m = true := by
        unfold shownB
        rw [Bool.not_eq_true', List.any_eq_false]
        intro p hp
        obtain ⟨j, hj, rfl⟩ := List.mem_iff_getElem.mp hp
        rw [no j _ hj (List.getElem?_eq_getElem hj)]
        decide
      rw [e] at q
      exact q _ (sH2.trans sm)
end
end K09
namespace K09
open PySem PySem.Spec PyProof.Rows L2 Wd
/-- works in a list, apart from the drawing's state -/
structure WkS (S : Addr) (H : Hp) (L : Addr) (zs : List Wk) : Prop where
  at_ : H L = some (.lst (zs.map fun z => V.ref z.1))
  nS : L ≠ S
  own : ∀ z ∈ zs, H z.1 = some (.tup [.int z.2.1, .int z.2.2]) ∧ z.1 ≠ S
theorem WkS.frm {S : Addr} {H H' : Hp} {L : Addr} {zs : List Wk} (t : WkS S H L zs) (f : Frm S H H') : WkS S H' L zs :=
  ⟨f _ _ t.nS t.at_, t.nS, fun z hz => ⟨f _ _ (t.own z hz).2 (t.own z hz).1, (t.own z hz).2⟩⟩
theorem WkS.wk {S : Addr} {H : Hp} {L : Addr} {zs : List Wk} (t : WkS S H L zs) : WkL H L zs := ⟨t.at_, fun z hz => (t.own z hz).1⟩
theorem WkS.put {S : Addr} {H : Hp} {L t : Addr} {a b : Int} {zs : List Wk} (w : WkS S H L zs) (h : H t = some (.tup [.int a, .int b])) (n : t ≠ S) : WkS S (upd H L (.lst ((zs.map fun z => V.ref z.1) ++ [.ref t]))) L (zs ++ [(t, a, b)]) := by
  refine ⟨by rw [upd_same, List.map_append]; rfl, w.nS, fun z hz => ?_⟩
  rw [List.mem_append, List.mem_singleton] at hz
  rcases hz with hz | rfl
  · exact ⟨by rw [upd_ne (ne_of (w.own z hz).1 w.at_ (fun z => nomatch z))]; exact (w.own z hz).1, (w.own z hz).2⟩
  · exact ⟨by rw [upd_ne (ne_of h w.at_ (fun z => nomatch z))]; exact h, n⟩
def okS (B : Int) (zs : List Wk) : Prop := ∀ z ∈ zs, 0 ≤ z.2.1 ∧ z.2.1 ≤ z.2.2 ∧ z.2.2 ≤ B
theorem okS_put {B a b : Int} {t : Addr} {zs : List Wk} (h : okS B zs) (h1 : 0 ≤ a) (h2 : a ≤ b) (h3 : b ≤ B) : okS B (zs ++ [(t, a, b)]) := fun z hz => by
  rw [List.mem_append, List.mem_singleton] at hz
  rcases hz with hz | rfl
  · exact h z hz
  · exact ⟨h1, h2, h3⟩
section
variable {P : Program} {w : World} {K : PySem.W.Frag} {mg : Str → Option Value} {base : Heap} {CN CR : Addr}
abbrev s_law_works : Stmt := top 30
theorem sc_law_works : FnScope ["_law_state", "_law_wide_here", "_law_found", "_law_k", "_law_least", "_law_times", "_law_most"] ["_law_state"] (C8.fnScope s_law_works) := C8.fnScope_by (by decide +kernel)
def sp_works (K : PySem.W.Frag) : Sp := fun vs H Q _ => ∃ (B : Hp) (S : Addr), vs = [.ref S] ∧ Dst K B H S ∧ ∀ H' L zs, Frm S H H' → Dst K B H' S → WkS S H' L zs → okZ zs → zs ≠ [] → zs.length ≤ 10 → Q (.ref L) H'
theorem ok_works (T : TxtW K mg CN) {f : Addr} {fd : FuncData} (D : C8.Def K mg "_law_works" s_law_works f fd) (b : Binds K fd ["_law_state"] []) (g_law_drawn : C8.Cal P w K mg base 1 "_law_drawn" (sp_drawn K) []) : C8.Cal P w K mg base 2 "_law_works" (sp_works K) [] := by
  refine C8.cal0 D b .nil sc_law_works (fun vs H Q E h => ?_) fun cdv A outer s H vs Q E hr h => ?_
  · obtain ⟨B, S, rfl, _⟩ := h; rfl
  · obtain ⟨B, S, rfl, d, q⟩ := h
    have nd := sc_law_works.nd
    refine ⟨_, (pss_cons (ps_set (i := 1) nd rfl (Or.inl rfl) (pe_ix (r := rIxL K) ix_list (pe_lst (pa_cons pe_int (pa_cons pe_int (pa_cons pe_int pa_nil)))) (C8.pe_c g_law_drawn hr (by first | decide | exact Nat.le_refl _ | omega) (by rfl) (pa_cons (pv 0) (pa_cons pe_int pa_nil))) (fun _ _ => rfl)))
      (pss_cons (ps_set (i := 2) nd rfl (Or.inl rfl) (pe_lst pa_nil))
      (pss_cons (ps_for PassesOwn.never rfl (pi_range1 rfl T.n_range (pa_cons (pe_op op_add pe_int (C8.pe_c g_law_drawn hr (by first | decide | exact Nat.le_refl _ | omega) (by rfl) (pa_cons (pv 0) (pa_cons (pe_ix (r := rIxL K) ix_list (pe_lst (pa_cons pe_int (pa_cons pe_int pa_nil))) (C8.pe_c g_law_drawn hr (by first | decide | exact Nat.le_refl _ | omega) (by rfl) (pa_cons (pv 0) (pa_cons pe_int pa_nil))) (fun _ _ => rfl)) pa_nil)))) pa_nil)) (pg_name (i := 3) nd rfl (Or.inl rfl)) (pss_cons (ps_set (i := 4) nd rfl (Or.inl rfl) (C8.pe_c g_law_drawn hr (by first | decide | exact Nat.le_refl _ | omega) (by rfl) (pa_cons (pv 0) (pa_cons pe_int pa_nil))))
      (pss_one (ps_expr (pe_bmK (K := K) rfl PySem.F.plainAttrs_list PySem.F.slot_list_append PySem.F.type_list_append mt_append (pv 2) (pa_cons (pe_tup (pa_cons (pv 4) (pa_cons (pe_op op_add (pv 4) (C8.pe_c g_law_drawn hr (by first | decide | exact Nat.le_refl _ | omega) (by rfl) (pa_cons (pv 0) (pa_cons (pv 1) pa_nil)))) pa_nil))) pa_nil))))))
      (pss_cons (ps_set (i := 5) nd rfl (Or.inr rfl) (pe_ix (r := rIxL K) ix_list (pe_lst (pa_cons pe_int (pa_cons pe_int (pa_cons pe_int (pa_cons pe_int pa_nil))))) (C8.pe_c g_law_drawn hr (by first | decide | exact Nat.le_refl _ | omega) (by rfl) (pa_cons (pv 0) (pa_cons pe_int pa_nil))) (fun _ _ => rfl)))
      (pss_one (ps_ret (pe_lc (own := [("_law_least", 4), ("_law_most", 6)]) (g := (gTup K 2 (gCons (gName 4) (gCons (gName 6) gNil)))) (tt := tYes) rfl nd (pi_list (pv 2)) (blkOk_by (N := ["_law_state", "_law_wide_here", "_law_found", "_law_k", "_law_least", "_law_times", "_law_most"]) (sc := C8.fnScope s_law_works) (by decide +kernel)) (fun _ _ _ _ _ => (pg_tup rfl (pgs_cons (pg_name (i := 4) nd rfl (Or.inl rfl)) (pgs_cons (pg_name (i := 6) nd rfl (Or.inl rfl)) pgs_nil)))) (fun _ _ _ _ _ => pts_nil) (fun _ _ _ _ _ => (pe_tup (pa_cons (pe_op op_mulW (pv 4) (pv 5)) (pa_cons (pe_op op_mulW (pv 6) (pv 5)) pa_nil))))))))))), ?_⟩
    walk_at "go"
    intro l1 hl1
    have d1 := d.same (same_new (o := .lst [.int 1, .int 3, .int 6]) hl1)
    walk_at "go"
    refine use_drawn (n := 3) d1 (by decide) (by decide) fun H2 a f2 d2 a0 a1 => ?_
    have e2 := f2 _ _ (d.ne hl1) upd_same
    obtain ⟨x, hx, hx2⟩ := atI_mem (xs := [.int 1, .int 3, .int 6]) a0 a1
    refine g_ixL (SqL.of e2) hx2 ?_
    obtain ⟨wd, rfl, w0, w1⟩ : ∃ z, x = V.int z ∧ 1 ≤ z ∧ z ≤ 6 := by
      simp only [List.mem_cons, List.not_mem_nil, or_false] at hx
      rcases hx with rfl | rfl | rfl <;> exact ⟨_, rfl, by decide, by decide⟩
    have f02 : Frm S H H2 := (Frm.new (o := .lst [.int 1, .int 3, .int 6]) hl1).trans f2
    clear e2 hx2 hx f2 d1
    walk_at "go"
    intro F hF
    have d3 := d2.same (same_new (o := .lst []) hF)
    have nF := d2.ne hF
    have bF := d2.fresh hF
    have f23 : Frm S H2 (upd H2 F (.lst [])) := .new hF
    have eF := upd_same (H := H2) (a := F) (o := .lst [])
    generalize upd H2 F (.lst []) = H3 at d3 f23 eF
    walk_at "go"
    intro l4 hl4
    have d4 := d3.same (same_new (o := .lst [.int 5, .int 10]) hl4)
    walk_at "go"
    refine use_drawn (n := 2) d4 (by decide) (by decide) fun H5 c f5 d5 c0 c1 => ?_
    have e5 := f5 _ _ (d3.ne hl4) upd_same
    obtain ⟨x, hx, hx2⟩ := atI_mem (xs := [.int 5, .int 10]) c0 c1
    refine g_ixL (SqL.of e5) hx2 ?_
    obtain ⟨mx, rfl, x0, x1⟩ : ∃ z, x = V.int z ∧ 1 ≤ z ∧ z ≤ 10 := by
      simp only [List.mem_cons, List.not_mem_nil, or_false] at hx
      rcases hx with rfl | rfl <;> exact ⟨_, rfl, by decide, by decide⟩
    have f35 : Frm S H3 H5 := (Frm.new (o := .lst [.int 5, .int 10]) hl4).trans f5
    clear e5 hx2 hx f5 d4
    walk_at "go"
    refine use_drawn d5 (by omega) (by omega) fun H6 n f6 d6 n0 n1 => ?_
    have f26 := (f23.trans f35).trans f6
    have eF6 := f6 _ _ nF (f35 _ _ nF eF)
    walk_at "go"
    refine w_range (by omega) (by omega) (fun i σ H' => ∃ (v3 v4 v5 v6 : Option V) (zs : List Wk), σ = [some (.ref S), some (.int wd), some (.ref F), v3, v4, v5, v6] ∧ Frm S H2 H' ∧ Dst K B H' S ∧ WkS S H' F zs ∧ okS 10 zs ∧ zs.length = i) ?_ ?_ ?_
    · exact ⟨_, _, _, _, [], rfl, f26, d6, ⟨eF6, nF, fun z hz => nomatch hz⟩, (fun z hz => nomatch hz), rfl⟩
    · clear eF6 f26 f6 d6 f35 d5 d3 f23 eF
      rintro i σ H7 hi ⟨v3, v4, v5, v6, zs, rfl, f7, d7, wk, ok, lz⟩
      walk_at "go"
      refine use_drawn (n := 6) d7 (by decide) (by decide) fun H8 le f8 d8 le0 le1 => ?_
      walk_at "go"
      have wk8 := wk.frm f8
      refine g_tyL wk8.at_ ?_
      walk_at "go"
      refine use_drawn d8 (by omega) (by omega) fun H9 y f9 d9 y0 y1 => ?_
      walk_at "go"
      intro t ht
      have st := same_new (o := .tup [.int le, .int (le + y)]) ht
      have wk9 := (wk8.frm f9).frm (.of st)
      walk_at "go"
      refine g_append wk9.at_ (by rw [List.length_map]; omega) ?_
      walk_at "go"
      exact ⟨_, _, _, _, zs ++ [(t, le, le + y)], rfl, Frm.mut (((f7.trans f8).trans f9).trans (.of st)) hF, (d9.same st).mut nF bF, wk9.put upd_same (d9.ne ht), okS_put ok le0 (by omega) (by omega), by rw [List.length_append, lz]; rfl⟩
    · clear eF6 f26 f6 d6 f35 d5 d3 f23 eF
      rintro σ H7 ⟨v3, v4, v5, v6, zs, rfl, f7, d7, wk, ok, lz⟩
      walk_at "go"
      intro l8 hl8
      have d8 := d7.same (same_new (o := .lst [.int 1, .int 1, .int 1, .int 100]) hl8)
      walk_at "go"
      refine use_drawn (n := 4) d8 (by decide) (by decide) fun H9 u f9 d9 u0 u1 => ?_
      have e9 := f9 _ _ (d7.ne hl8) upd_same
      obtain ⟨x, hx, hx2⟩ := atI_mem (xs := [.int 1, .int 1, .int 1, .int 100]) u0 u1
      refine g_ixL (SqL.of e9) hx2 ?_
      obtain ⟨tm, rfl, t0, t1⟩ : ∃ z, x = V.int z ∧ 1 ≤ z ∧ z ≤ 100 := by
        simp only [List.mem_cons, List.not_mem_nil, or_false] at hx
        rcases hx with rfl | rfl | rfl | rfl <;> exact ⟨_, rfl, by decide, by decide⟩
      have f79 : Frm S H7 H9 := (Frm.new (o := .lst [.int 1, .int 1, .int 1, .int 100]) hl8).trans f9
      have wk9 := wk.frm f79
      walk_at "go"
      refine w_lcList (SqL.of wk9.at_) (fun D i H' => Same H9 H' ∧ ∃ ys, WkS S H' D ys ∧ okS 1000 ys ∧ ys.length = i) (fun D hD => ⟨same_new hD, [], ⟨upd_same, d9.ne hD, fun z hz => nomatch hz⟩, (fun z hz => nomatch hz), rfl⟩) (fun D i H' hD _ h => SqL.of (h.1 _ _ wk9.at_)) (fun D i y H' hD hy h => ?_) (fun D H' hD h => ?_)
      · obtain ⟨z, hz, rfl⟩ := zs_at hy
        obtain ⟨s10, ys, wy, oy, ly⟩ := h
        have zm := List.mem_of_getElem? hz
        have il := (List.getElem?_eq_some_iff.mp hz).1
        obtain ⟨z0, z1, z2⟩ := ok z zm
        have m1 : 0 ≤ z.2.1 * tm := Int.mul_nonneg z0 (by omega)
        have m2 : z.2.1 * tm ≤ z.2.2 * tm := Int.mul_le_mul_of_nonneg_right z1 (by omega)
        have m3 : z.2.2 * tm ≤ 10 * tm := Int.mul_le_mul_of_nonneg_right z2 (by omega)
        walk_at "go"
        refine g_gtup (SqT.of (s10 _ _ (wk9.own z zm).1)) rfl ?_
        walk_at "go"
        refine ⟨rfl, ?_⟩
        walk_at "go"
        refine g_I (mulW_small (by omega) (by omega) (by omega) (by omega)) ?_
        walk_at "go"
        refine g_I (mulW_small (by omega) (by omega) (by omega) (by omega)) ?_
        walk_at "go"
        intro t ht
        have st := same_new (o := .tup [.int (z.2.1 * tm), .int (z.2.2 * tm)]) ht
        have wy2 := wy.frm (.of st)
        exact ⟨_, wy2.at_, by rw [sizeLine_eq, List.length_map]; omega, Wd.Same.mut (s10.trans st) hD, _, wy2.put upd_same ((d9.same s10).ne ht), okS_put oy m1 m2 (by omega), by rw [List.length_append, ly]; rfl⟩
      · obtain ⟨s10, ys, wy, oy, ly⟩ := h
        rw [List.length_map] at ly
        exact q H' D ys ((f02.trans f7).trans (f79.trans (.of s10))) (d9.same s10) wy oy (List.ne_nil_of_length_pos (by omega)) (by omega)

abbrev s_law_wide : Stmt := top 31
theorem sc_law_wide : FnScope ["_law_state", "_law_works_here", "_law_high", "_law_work"] ["_law_state", "_law_works_here"] (C8.fnScope s_law_wide) := C8.fnScope_by (by decide +kernel)
def sp_wide (K : PySem.W.Frag) : Sp := fun vs H Q _ => ∃ (B : Hp) (S L : Addr) (zs : List Wk), vs = [.ref S, .ref L] ∧ Dst K B H S ∧ WkS S H L zs ∧ okZ zs ∧ zs ≠ [] ∧ zs.length ≤ 10 ∧ ∀ H' W lo hi, Frm S H H' → Dst K B H' S → H' W = some (.tup [.int lo, .int hi]) → W ≠ S → okW lo hi → Q (.ref W) H'
theorem sum_le {B : Int} : ∀ {ns : List Int}, (∀ n ∈ ns, 0 ≤ n ∧ n ≤ B) → 0 ≤ ns.sum ∧ ns.sum ≤ ns.length * B
  | [], _ => ⟨Int.le_refl _, by simp⟩
  | n :: ns, h => by
    have h1 := h n List.mem_cons_self
    have h2 := sum_le (ns := ns) fun y hy => h y (List.mem_cons_of_mem _ hy)
    rw [List.sum_cons, List.length_cons]
    have e : (((ns.length + 1 : Nat) : Int)) * B = ns.length * B + B := by rw [Int.natCast_add, Int.add_mul]; simp
    rw [e]
    omega
theorem ok_wide (T : TxtW K mg CN) {f : Addr} {fd : FuncData} (D : C8.Def K mg "_law_wide" s_law_wide f fd) (b : Binds K fd ["_law_state", "_law_works_here"] []) (g_law_drawn : C8.Cal P w K mg base 1 "_law_drawn" (sp_drawn K) []) : C8.Cal P w K mg base 2 "_law_wide" (sp_wide K) [] := by
  refine C8.cal0 D b .nil sc_law_wide (fun vs H Q E h => ?_) fun cdv A outer s H vs Q E hr h => ?_
  · obtain ⟨B, S, L, zs, rfl, _⟩ := h; rfl
  · obtain ⟨B, S, L, zs, rfl, d, wk, ok, ne, ln, q⟩ := h
    have nd := sc_law_wide.nd
    have lp : 0 < zs.length := List.length_pos_iff.mpr ne
    have all : ∀ n ∈ zs.map (fun z : Wk => z.2.2), 0 ≤ n ∧ n ≤ 1000 := fun n hn => by
      obtain ⟨z, hz, rfl⟩ := List.mem_map.mp hn
      have := ok z hz; omega
    have sl := sum_le all
    rw [List.length_map] at sl
    refine ⟨_, (pss_cons (ps_set (i := 2) nd rfl (Or.inl rfl) (pe_op op_add (pe_callB (r := rMax K) (cr_max rfl) (by rfl) T.n_max (by decide +kernel) (pa_cons (pe_lc (own := [("_law_work", 3)]) (g := gName 3) (tt := tYes) rfl nd (pi_list (pv 1)) (blkOk_by (N := ["_law_state", "_law_works_here", "_law_high", "_law_work"]) (sc := C8.fnScope s_law_wide) (by decide +kernel)) (fun _ _ _ _ _ => pg_name (i := 3) nd rfl (Or.inl rfl)) (fun _ _ _ _ _ => pts_nil) (fun _ _ _ _ _ => (pe_ix (r := rIxT K) ix_tup (pv 3) pe_int (fun _ _ => rfl)))) pa_nil)) (C8.pe_c g_law_drawn hr (by first | decide | exact Nat.le_refl _ | omega) (by rfl) (pa_cons (pv 0) (pa_cons (pe_op op_add (pe_callB (r := rSum K) (cr_sum rfl) (by rfl) T.n_sum (by decide +kernel) (pa_cons (pe_lc (own := [("_law_work", 3)]) (g := gName 3) (tt := tYes) rfl nd (pi_list (pv 1)) (blkOk_by (N := ["_law_state", "_law_works_here", "_law_high", "_law_work"]) (sc := C8.fnScope s_law_wide) (by decide +kernel)) (fun _ _ _ _ _ => pg_name (i := 3) nd rfl (Or.inl rfl)) (fun _ _ _ _ _ => pts_nil) (fun _ _ _ _ _ => (pe_ix (r := rIxT K) ix_tup (pv 3) pe_int (fun _ _ => rfl)))) pa_nil)) pe_int) pa_nil)))))
      (pss_cons (ps_set (i := 2) nd rfl (Or.inl rfl) (pe_callB (call_min1 rfl) (by rfl) T.n_min (by decide +kernel) (pa_cons pe_int (pa_cons (pv 2) pa_nil))))
      (pss_one (ps_ret (pe_tup (pa_cons (pe_ix (r := rIxL K) ix_list (pe_lst (pa_cons pe_int (pa_cons (C8.pe_c g_law_drawn hr (by first | decide | exact Nat.le_refl _ | omega) (by rfl) (pa_cons (pv 0) (pa_cons (pe_op op_add (pv 2) pe_int) pa_nil))) (pa_cons (C8.pe_c g_law_drawn hr (by first | decide | exact Nat.le_refl _ | omega) (by rfl) (pa_cons (pv 0) (pa_cons (pe_op op_add (pe_op op_fdivW (pv 2) pe_int) pe_int) pa_nil))) pa_nil)))) (C8.pe_c g_law_drawn hr (by first | decide | exact Nat.le_refl _ | omega) (by rfl) (pa_cons (pv 0) (pa_cons pe_int pa_nil))) (fun _ _ => rfl)) (pa_cons (pv 2) pa_nil))))))), ?_⟩
    walk_at "go"
    refine w_lcList (SqL.of wk.at_) (fun D i H' => Same H H' ∧ H' D = some (.lst (((zs.take i).map fun z => z.2.2).map V.int))) (fun D hD => ⟨same_new hD, upd_same⟩) (fun D i H' hD _ h => SqL.of (h.1 _ _ wk.at_)) (fun D i y H' hD hy h => ?_) (fun D1 H1 hD1 h => ?_)
    · obtain ⟨z, hz, rfl⟩ := zs_at hy
      walk_at "go"
      refine ⟨rfl, ?_⟩
      walk_at "go"
      refine g_ixT (SqT.of (h.1 _ _ (wk.own z (List.mem_of_getElem? hz)).1)) rfl ?_
      exact ⟨_, h.2, by rw [sizeLine_eq, List.length_map, List.length_map]; have := List.length_take_le i zs; have := (List.getElem?_eq_some_iff.mp hz).1; omega, Wd.Same.mut h.1 hD, by rw [upd_same, take_snocM _ hz, List.map_append]; rfl⟩
    obtain ⟨s1, e1⟩ := h
    rw [List.length_map, List.take_length] at e1
    walk_at "go"
    refine ⟨D1, _, rfl, SqL.of e1, by rw [List.length_map]; exact lp, fun mx hmx _ => ?_⟩
    have mb := all mx hmx
    have wk1 := wk.frm (.of s1)
    walk_at "go"
    refine w_lcList (SqL.of wk1.at_) (fun D i H' => Same H1 H' ∧ H' D = some (.lst (((zs.take i).map fun z => z.2.2).map V.int))) (fun D hD => ⟨same_new hD, upd_same⟩) (fun D i H' hD _ h => SqL.of (h.1 _ _ wk1.at_)) (fun D i y H' hD hy h => ?_) (fun D2 H2 hD2 h => ?_)
    · obtain ⟨z, hz, rfl⟩ := zs_at hy
      walk_at "go"
      refine ⟨rfl, ?_⟩
      walk_at "go"
      refine g_ixT (SqT.of (h.1 _ _ (wk1.own z (List.mem_of_getElem? hz)).1)) rfl ?_
      exact ⟨_, h.2, by rw [sizeLine_eq, List.length_map, List.length_map]; have := List.length_take_le i zs; have := (List.getElem?_eq_some_iff.mp hz).1; omega, Wd.Same.mut h.1 hD, by rw [upd_same, take_snocM _ hz, List.map_append]; rfl⟩
    obtain ⟨s2, e2⟩ := h
    rw [List.length_map, List.take_length] at e2
    have d2 := (d.same s1).same s2
    walk_at "go"
    refine g_sum (SqL.of e2) ?_
    walk_at "go"
    generalize (zs.map fun z => z.2.2).sum = sm at sl ⊢
    refine use_drawn d2 (by omega) (by omega) fun H3 y f3 d3 y0 y1 => ?_
    walk_at "go"
    generalize hhi : (if mx + y < 1000 then mx + y else 1000) = hi
    have hi0 : 0 ≤ hi ∧ hi ≤ 1000 := by rw [← hhi]; split <;> omega
    have f03 : Frm S H H3 := (Frm.of (s1.trans s2)).trans f3
    walk_at "go"
    refine use_drawn d3 (by omega) (by omega) fun H4 a f4 d4 a0 a1 => ?_
    walk_at "go"
    refine g_I (divW_small (by decide) (by decide)) ?_
    walk_at "go"
    refine use_drawn d4 (by omega) (by omega) fun H5 c f5 d5 c0 c1 => ?_
    walk_at "go"
    intro l hl
    have d6 := d5.same (same_new (o := .lst [.int 0, .int a, .int c]) hl)
    walk_at "go"
    refine use_drawn (n := 3) d6 (by decide) (by decide) fun H7 v f7 d7 v0 v1 => ?_
    have h7 := f7 _ _ (d5.ne hl) upd_same
    obtain ⟨x, hx, hx2⟩ := atI_mem (xs := [.int 0, .int a, .int c]) v0 v1
    refine g_ixL (SqL.of h7) hx2 ?_
    obtain ⟨lo, rfl, lo0, lo1⟩ : ∃ z, x = V.int z ∧ 0 ≤ z ∧ z ≤ hi := by
      simp only [List.mem_cons, List.not_mem_nil, or_false] at hx
      rcases hx with rfl | rfl | rfl
      · exact ⟨_, rfl, by omega, by omega⟩
      · exact ⟨_, rfl, by omega, by omega⟩
      · exact ⟨_, rfl, by omega, by omega⟩
    walk_at "go"
    intro t ht
    exact q _ t lo hi (((((f03.trans f4).trans f5).trans (.new hl)).trans f7).trans (.new ht)) (d7.same (same_new ht)) upd_same (d7.ne ht) ⟨lo0, lo1, hi0.2⟩
end
end K09
namespace K09
open PySem PySem.Spec PyProof.Rows L2 Wd
/-- from place a up to p, around if need be -/
def gapA {α : Type} (l : List α) (a p : Nat) : List α := if a ≤ p then (l.drop a).take (p + 1 - a) else l.drop a ++ l.take (p + 1)
theorem gapA_L {α : Type} (l : List α) (b p : Nat) : gapA l (b + 1) p = gapL l b p := by
  unfold gapA gapL
  by_cases h : b < p
  · rw [if_pos (show b + 1 ≤ p from h), if_pos h]; congr 1; omega
  · rw [if_neg (show ¬ b + 1 ≤ p from h), if_neg h]
theorem gapA_0 {α : Type} (l : List α) (p : Nat) : gapA l 0 p = l.take (p + 1) := by
  unfold gapA
  rw [if_pos (Nat.zero_le _), List.drop_zero, Nat.sub_zero]
theorem gapA_map {α β : Type} (f : α → β) (l : List α) (b p : Nat) : (gapA l b p).map f = gapA (l.map f) b p := by
  unfold gapA
  split
  · rw [List.map_take, List.map_drop]
  · rw [List.map_append, List.map_drop, List.map_take]
theorem gapA_len {α : Type} (l : List α) (b p : Nat) : (gapA l b p).length ≤ 2 * l.length := by
  unfold gapA
  split
  · rw [List.length_take, List.length_drop]; omega
  · rw [List.length_append, List.length_drop, List.length_take]; omega
theorem gapA_mem {α : Type} {l : List α} {b p : Nat} {x : α} (h : x ∈ gapA l b p) : x ∈ l := by
  unfold gapA at h
  split at h
  · exact List.mem_of_mem_drop (List.mem_of_mem_take h)
  · rw [List.mem_append] at h
    exact h.elim List.mem_of_mem_drop List.mem_of_mem_take
section
variable {P : Program} {w : World} {K : PySem.W.Frag} {mg : Str → Option Value} {base : Heap} {CN CR : Addr}
abbrev s_law_gap : Stmt := top 32
theorem sc_law_gap : FnScope ["_law_works_here", "_law_one", "_law_other", "_law_some", "_law_work"] ["_law_works_here", "_law_one", "_law_other"] (C8.fnScope s_law_gap) := C8.fnScope_by (by decide +kernel)
def sp_gap (K : PySem.W.Frag) : Sp := fun vs H Q _ => ∃ (L : Addr) (zs : List Wk) (one : Int) (a p : Nat), vs = [.ref L, .int one, .int p] ∧ one + 1 = a ∧ WkL H L zs ∧ zs.length ≤ 10 ∧ p < zs.length ∧ a ≤ zs.length ∧ ∀ H' t, Same H H' → H' t = some (.tup [.int (sumA (gapA (zs.map (·.2)) a p)), .int (sumB (gapA (zs.map (·.2)) a p))]) → Q (.ref t) H'
theorem ok_gap (T : TxtW K mg CN) {f : Addr} {fd : FuncData} (D : C8.Def K mg "_law_gap" s_law_gap f fd) (b : Binds K fd ["_law_works_here", "_law_one", "_law_other"] []) : C8.Cal P w K mg base 1 "_law_gap" (sp_gap K) [] := by
  refine C8.cal0 D b .nil sc_law_gap (fun vs H Q E h => ?_) fun cdv A outer s H vs Q E hr h => ?_
  · obtain ⟨L, zs, one, a, p, rfl, _⟩ := h; rfl
  · obtain ⟨L, zs, one, a, p, rfl, e1, wk, ln, hp, ha, q⟩ := h
    have nd := sc_law_gap.nd
    have lg := gapA_len zs a p
    have e2 : (p : Int) + 1 = ((p + 1 : Nat) : Int) := by omega
    have tail : ∀ (H1 : Hp) (L2 : Addr), Same H H1 → H1 L2 = some (.lst ((gapA zs a p).map fun z => V.ref z.1)) → WkL H1 L2 (gapA zs a p) := fun H1 L2 s1 e => ⟨e, fun z hz => s1 _ _ (wk.own z (gapA_mem hz))⟩
    rw [← gapA_map] at q
    refine ⟨_, (pss_cons (ps_set (i := 3) nd rfl (Or.inl rfl) (pe_ifExp (pt_cmpR op_gt (pv 2) (pv 1) (nomark _)) (pe_slice (r := rSlL K) sl_list (pv 0) (po_some (pe_op op_add (pv 1) pe_int)) (po_some (pe_op op_add (pv 2) pe_int))) (pe_op op_cat (pe_slice (r := rSlL K) sl_list (pv 0) (po_some (pe_op op_add (pv 1) pe_int)) po_none) (pe_slice (r := rSlL K) sl_list (pv 0) po_none (po_some (pe_op op_add (pv 2) pe_int))))))
      (pss_one (ps_ret (pe_tup (pa_cons (pe_callB (r := rSum K) (cr_sum rfl) (by rfl) T.n_sum (by decide +kernel) (pa_cons (pe_lc (own := [("_law_work", 4)]) (g := gName 4) (tt := tYes) rfl nd (pi_list (pv 3)) (blkOk_by (N := ["_law_works_here", "_law_one", "_law_other", "_law_some", "_law_work"]) (sc := C8.fnScope s_law_gap) (by decide +kernel)) (fun _ _ _ _ _ => pg_name (i := 4) nd rfl (Or.inl rfl)) (fun _ _ _ _ _ => pts_nil) (fun _ _ _ _ _ => (pe_ix (r := rIxT K) ix_tup (pv 4) pe_int (fun _ _ => rfl)))) pa_nil)) (pa_cons (pe_callB (r := rSum K) (cr_sum rfl) (by rfl) T.n_sum (by decide +kernel) (pa_cons (pe_lc (own := [("_law_work", 4)]) (g := gName 4) (tt := tYes) rfl nd (pi_list (pv 3)) (blkOk_by (N := ["_law_works_here", "_law_one", "_law_other", "_law_some", "_law_work"]) (sc := C8.fnScope s_law_gap) (by decide +kernel)) (fun _ _ _ _ _ => pg_name (i := 4) nd rfl (Or.inl rfl)) (fun _ _ _ _ _ => pts_nil) (fun _ _ _ _ _ => (pe_ix (r := rIxT K) ix_tup (pv 4) pe_int (fun _ _ => rfl)))) pa_nil)) pa_nil)))))), ?_⟩
    walk_at "go"
    refine g_ite (fun hg => ?_) (fun hg => ?_)
    · have gg : gapA zs a p = (zs.drop a).take (p + 1 - a) := by unfold gapA; rw [if_pos (by omega)]
      walk_at "go"
      rw [e1, e2]
      refine g_slL (SqL.of wk.at_) fun L2 hL2 => ?_
      rw [cut_two zs _ (by omega) (by omega), ← gg]
      have s1 := same_new (o := .lst ((gapA zs a p).map fun z => V.ref z.1)) hL2
      have w1 := tail _ L2 s1 upd_same
      generalize upd H L2 (.lst ((gapA zs a p).map fun z => V.ref z.1)) = H1 at s1 w1
      walk_at "go"
      refine w_lcList (SqL.of w1.at_) (fun D i H' => Same H1 H' ∧ H' D = some (.lst ((((gapA zs a p).take i).map fun z => z.2.1).map V.int))) (fun D hD => ⟨same_new hD, upd_same⟩) (fun D i H' hD _ h => SqL.of ((h.1) _ _ w1.at_)) (fun D i y H' hD hy h => ?_) (fun D5 H5 hD5 h => ?_)
      · obtain ⟨z, hz, rfl⟩ := zs_at hy
        have il := (List.getElem?_eq_some_iff.mp hz).1
        walk_at "go"
        refine ⟨rfl, ?_⟩
        walk_at "go"
        refine g_ixT (SqT.of ((h.1) _ _ (w1.own z (List.mem_of_getElem? hz)))) rfl ?_
        exact ⟨_, h.2, by rw [sizeLine_eq, List.length_map, List.length_map]; have := List.length_take_le i (gapA zs a p); omega, Wd.Same.mut h.1 hD, by rw [upd_same, take_snocM _ hz, List.map_append]; rfl⟩
      obtain ⟨s5, e5⟩ := h
      rw [List.length_map, List.take_length] at e5
      walk_at "go"
      refine g_sum (SqL.of e5) ?_
      walk_at "go"
      refine w_lcList (SqL.of (s5 _ _ w1.at_)) (fun D i H' => Same H5 H' ∧ H' D = some (.lst ((((gapA zs a p).take i).map fun z => z.2.2).map V.int))) (fun D hD => ⟨same_new hD, upd_same⟩) (fun D i H' hD _ h => SqL.of ((Same.trans s5 h.1) _ _ w1.at_)) (fun D i y H' hD hy h => ?_) (fun D6 H6 hD6 h => ?_)
      · obtain ⟨z, hz, rfl⟩ := zs_at hy
        have il := (List.getElem?_eq_some_iff.mp hz).1
        walk_at "go"
        refine ⟨rfl, ?_⟩
        walk_at "go"
        refine g_ixT (SqT.of ((Same.trans s5 h.1) _ _ (w1.own z (List.mem_of_getElem? hz)))) rfl ?_
        exact ⟨_, h.2, by rw [sizeLine_eq, List.length_map, List.length_map]; have := List.length_take_le i (gapA zs a p); omega, Wd.Same.mut h.1 hD, by rw [upd_same, take_snocM _ hz, List.map_append]; rfl⟩
      obtain ⟨s6, e6⟩ := h
      rw [List.length_map, List.take_length] at e6
      walk_at "go"
      refine g_sum (SqL.of e6) ?_
      walk_at "go"
      intro t ht
      have ea : ((gapA zs a p).map fun z => z.2.1).sum = sumA ((gapA zs a p).map (·.2)) := by unfold sumA; rw [List.map_map]; rfl
      have eb : ((gapA zs a p).map fun z => z.2.2).sum = sumB ((gapA zs a p).map (·.2)) := by unfold sumB; rw [List.map_map]; rfl
      rw [ea, eb]
      exact q _ t (((s1.trans s5).trans s6).trans (same_new ht)) upd_same
    · have gg : gapA zs a p = zs.drop a ++ zs.take (p + 1) := by unfold gapA; rw [if_neg (by omega)]
      walk_at "go"
      rw [e1]
      refine g_slL (SqL.of wk.at_) fun L1 hL1 => ?_
      rw [cut_from zs _ (by omega)]
      have s0 := same_new (o := .lst ((zs.drop a).map fun z => V.ref z.1)) hL1
      have i1 := upd_same (H := H) (a := L1) (o := .lst ((zs.drop a).map fun z => V.ref z.1))
      generalize upd H L1 (.lst ((zs.drop a).map fun z => V.ref z.1)) = H0 at s0 i1
      walk_at "go"
      rw [e2]
      refine g_slL (SqL.of (s0 _ _ wk.at_)) fun L3 hL3 => ?_
      rw [cut_to zs _ (by omega)]
      have s2 := same_new (o := .lst ((zs.take (p + 1)).map fun z => V.ref z.1)) hL3
      have i2 := upd_same (H := H0) (a := L3) (o := .lst ((zs.take (p + 1)).map fun z => V.ref z.1))
      generalize upd H0 L3 (.lst ((zs.take (p + 1)).map fun z => V.ref z.1)) = H2 at s2 i2
      refine ⟨L1, L3, _, _, rfl, rfl, s2 _ _ i1, i2, by rw [sizeLine_eq, List.length_map, List.length_map, List.length_drop, List.length_take]; omega, fun L2 hL2 => ?_⟩
      rw [← List.map_append, ← gg]
      have s1 := (s0.trans s2).trans (same_new (o := .lst ((gapA zs a p).map fun z => V.ref z.1)) hL2)
      have w1 := tail _ L2 s1 upd_same
      generalize upd H2 L2 (.lst ((gapA zs a p).map fun z => V.ref z.1)) = H1 at s1 w1
      walk_at "go"
      refine w_lcList (SqL.of w1.at_) (fun D i H' => Same H1 H' ∧ H' D = some (.lst ((((gapA zs a p).take i).map fun z => z.2.1).map V.int))) (fun D hD => ⟨same_new hD, upd_same⟩) (fun D i H' hD _ h => SqL.of ((h.1) _ _ w1.at_)) (fun D i y H' hD hy h => ?_) (fun D5 H5 hD5 h => ?_)
      · obtain ⟨z, hz, rfl⟩ := zs_at hy
        have il := (List.getElem?_eq_some_iff.mp hz).1
        walk_at "go"
        refine ⟨rfl, ?_⟩
        walk_at "go"
        refine g_ixT (SqT.of ((h.1) _ _ (w1.own z (List.mem_of_getElem? hz)))) rfl ?_
        exact ⟨_, h.2, by rw [sizeLine_eq, List.length_map, List.length_map]; have := List.length_take_le i (gapA zs a p); omega, Wd.Same.mut h.1 hD, by rw [upd_same, take_snocM _ hz, List.map_append]; rfl⟩
      obtain ⟨s5, e5⟩ := h
      rw [List.length_map, List.take_length] at e5
      walk_at "go"
      refine g_sum (SqL.of e5) ?_
      walk_at "go"
      refine w_lcList (SqL.of (s5 _ _ w1.at_)) (fun D i H' => Same H5 H' ∧ H' D = some (.lst ((((gapA zs a p).take i).map fun z => z.2.2).map V.int))) (fun D hD => ⟨same_new hD, upd_same⟩) (fun D i H' hD _ h => SqL.of ((Same.trans s5 h.1) _ _ w1.at_)) (fun D i y H' hD hy h => ?_) (fun D6 H6 hD6 h => ?_)
      · obtain ⟨z, hz, rfl⟩ := zs_at hy
        have il := (List.getElem?_eq_some_iff.mp hz).1
        walk_at "go"
        refine ⟨rfl, ?_⟩
        walk_at "go"
        refine g_ixT (SqT.of ((Same.trans s5 h.1) _ _ (w1.own z (List.mem_of_getElem? hz)))) rfl ?_
        exact ⟨_, h.2, by rw [sizeLine_eq, List.length_map, List.length_map]; have := List.length_take_le i (gapA zs a p); omega, Wd.Same.mut h.1 hD, by rw [upd_same, take_snocM _ hz, List.map_append]; rfl⟩
      obtain ⟨s6, e6⟩ := h
      rw [List.length_map, List.take_length] at e6
      walk_at "go"
      refine g_sum (SqL.of e6) ?_
      walk_at "go"
      intro t ht
      have ea : ((gapA zs a p).map fun z => z.2.1).sum = sumA ((gapA zs a p).map (·.2)) := by unfold sumA; rw [List.map_map]; rfl
      have eb : ((gapA zs a p).map fun z => z.2.2).sum = sumB ((gapA zs a p).map (·.2)) := by unfold sumB; rw [List.map_map]; rfl
      rw [ea, eb]
      exact q _ t (((s1.trans s5).trans s6).trans (same_new ht)) upd_same

abbrev s_law_in : Stmt := top 33
theorem sc_law_in : FnScope ["_law_window", "_law_gap_here"] ["_law_window", "_law_gap_here"] (C8.fnScope s_law_in) := C8.fnScope_by (by decide +kernel)
def sp_in (K : PySem.W.Frag) : Sp := fun vs H Q _ => ∃ (W G : Addr) (lo hi a c : Int), vs = [.ref W, .ref G] ∧ SqT K H W [.int lo, .int hi] ∧ SqT K H G [.int a, .int c] ∧ Q (.bl (decide (lo ≤ a ∧ c ≤ hi))) H
theorem ok_in (T : TxtW K mg CN) {f : Addr} {fd : FuncData} (D : C8.Def K mg "_law_in" s_law_in f fd) (b : Binds K fd ["_law_window", "_law_gap_here"] []) : C8.Cal P w K mg base 1 "_law_in" (sp_in K) [] := by
  refine C8.cal0 D b .nil sc_law_in (fun vs H Q E h => ?_) fun cdv A outer s H vs Q E hr h => ?_
  · obtain ⟨W, G, lo, hi, a, c, rfl, _⟩ := h; rfl
  · obtain ⟨W, G, lo, hi, a, c, rfl, hW, hG, q⟩ := h
    have nd := sc_law_in.nd
    refine ⟨_, (pss_one (ps_ret (pe_and (pe_cmpR op_ge (pe_ix (r := rIxT K) ix_tup (pv 1) pe_int (fun _ _ => rfl)) (pe_ix (r := rIxT K) ix_tup (pv 0) pe_int (fun _ _ => rfl)) (nomark _)) (pe_one (pe_cmpR op_le (pe_ix (r := rIxT K) ix_tup (pv 1) pe_int (fun _ _ => rfl)) (pe_ix (r := rIxT K) ix_tup (pv 0) pe_int (fun _ _ => rfl)) (nomark _)))))), ?_⟩
    walk_at "go"
    refine g_ixT hG rfl ?_
    walk_at "go"
    refine g_ixT hW rfl ?_
    walk_at "go"
    refine g_ite (fun h1 => ?_) (fun h1 => ?_)
    · walk_at "go"
      refine g_ixT hG rfl ?_
      walk_at "go"
      refine g_ixT hW rfl ?_
      walk_at "go"
      have e : decide (lo ≤ a ∧ c ≤ hi) = decide (c ≤ hi) := by
        by_cases h2 : c ≤ hi
        · rw [decide_eq_true h2, decide_eq_true ⟨h1, h2⟩]
        · rw [decide_eq_false h2, decide_eq_false (fun z => h2 z.2)]
      rw [← e]
      exact q
    · rw [decide_eq_false (fun z => h1 z.1)] at q
      walk_at "go"
      exact q
end
end K09
namespace K09
open PySem PySem.Spec PyProof.Rows L2 Wd
theorem atI_back {xs : List V} {v : V} (h : xs[xs.length - 1]? = some v) : atI xs (-1) = some v := by
  have hp : 0 < xs.length := by
    rcases Nat.eq_zero_or_pos xs.length with e | e
    · have : xs = [] := List.length_eq_zero_iff.mp e
      subst this; cases h
    · exact e
  obtain ⟨ys, y, rfl⟩ : ∃ ys y, xs = ys ++ [y] := ⟨xs.dropLast, xs.getLast (List.length_pos_iff.mp hp), (List.dropLast_concat_getLast _).symm⟩
  rw [List.length_append, List.length_singleton, Nat.add_sub_cancel, List.getElem?_append_right (Nat.le_refl _), Nat.sub_self] at h
  cases h
  exact atI_last _ _
/-! ### lists of lists as data -/
abbrev dI (n : Nat) : PyData := .int (n : Int)
def natD (r : List Nat) : PyData := .list (r.map dI)
def rowsD (rs : List (List Nat)) : PyData := .list (rs.map natD)
theorem natD_can (r : List Nat) : PyData.canLayAll0 (r.map dI) = true := by
  induction r with
  | nil => rfl
  | cons n r ih => simp [PyData.canLayAll0, PyData.canLay0, ih]
theorem natD_depth (r : List Nat) : PyData.depthAll (r.map dI) = 0 := by
  induction r with
  | nil => rfl
  | cons n r ih => simp [PyData.depthAll, PyData.depth, ih]
theorem rowsD_can (rs : List (List Nat)) : PyData.canLayAll0 (rs.map natD) = true := by
  induction rs with
  | nil => rfl
  | cons r rs ih =>
    have := natD_can r
    simp [PyData.canLayAll0, PyData.canLay0, natD, this]
    exact ih
theorem rowsD_depth (rs : List (List Nat)) : PyData.depthAll (rs.map natD) ≤ 1 := by
  induction rs with
  | nil => exact Nat.zero_le _
  | cons r rs ih =>
    have := natD_depth r
    simp only [List.map_cons, PyData.depthAll, natD, PyData.depth, this]
    have e : rs.map natD = rs.map (fun r => PyData.list (r.map dI)) := rfl
    omega
theorem rowsD_shaped (rs : List (List Nat)) : SeqAt.shaped (rowsD rs) = true := by
  have := rowsD_depth rs
  unfold SeqAt.shaped rowsD
  rw [Bool.and_eq_true]
  exact ⟨by simp only [PyData.canLay0]; exact rowsD_can rs, decide_eq_true (by simp only [PyData.depth]; omega)⟩
theorem natD_dp {K : PySem.W.Frag} {H : Hp} {a : Addr} {r : List Nat} (h : SqL K H a (r.map nI)) : Dp K H (.ref a) (natD r) := by
  refine .lst h ?_
  clear h
  induction r with
  | nil => exact .nil
  | cons n r ih => exact .cons (.int _) ih
theorem rows_dp {K : PySem.W.Frag} {H : Hp} {a : Addr} {rs : List (Addr × List Nat)} (h : SqL K H a (rs.map fun r => V.ref r.1)) (own : ∀ r ∈ rs, SqL K H r.1 (r.2.map nI)) : Dp K H (.ref a) (rowsD (rs.map (·.2))) := by
  refine .lst h ?_
  clear h
  induction rs with
  | nil => exact .nil
  | cons r rs ih => exact .cons (natD_dp (own r List.mem_cons_self)) (ih fun y hy => own y (List.mem_cons_of_mem _ hy))
theorem nil_dp {K : PySem.W.Frag} {H : Hp} {a : Addr} (h : H a = some (.lst [])) : Dp K H (.ref a) (.list []) := .lst (SqL.of h) .nil
/-- rows != [] -/
theorem g_neRows {K : PySem.W.Frag} {a b : Addr} {rs : List (Addr × List Nat)} {H : Hp} {Q : VK} (h : SqL K H a (rs.map fun r => V.ref r.1)) (own : ∀ r ∈ rs, SqL K H r.1 (r.2.map nI)) (hb : H b = some (.lst [])) (q : Q (.bl (!rs.isEmpty)) H) : rNeD K (.ref a) (.ref b) H Q := by
  refine ⟨_, _, rows_dp h own, nil_dp hb, rowsD_shaped _, rfl, ?_⟩
  have e : PyData.eqv (rowsD (rs.map (·.2))) (.list []) = rs.isEmpty := by
    unfold rowsD
    rw [PyData.eqv]
    cases rs <;> rfl
  rw [e]; exact q
def lastN (r : List Nat) : Nat := (r[r.length - 1]?).getD 0
theorem lastN_at {r : List Nat} (h : r ≠ []) : r[r.length - 1]? = some (lastN r) := by
  have : r.length - 1 < r.length := by have := List.length_pos_iff.mpr h; omega
  unfold lastN
  rw [List.getElem?_eq_getElem this]; rfl
theorem RowsL.frm {H0 H H' : Hp} {S RR : Addr} {rs : List (Addr × List Nat)} (t : RowsL H0 H RR rs) (f : Frm S H H') (n : RR ≠ S) (ne : ∀ y ∈ rs, y.1 ≠ S) : RowsL H0 H' RR rs := ⟨f _ _ n t.at_, fun r hr => ⟨f _ _ (ne r hr) (t.own r hr).1, (t.own r hr).2⟩⟩
section
variable {P : Program} {w : World} {K : PySem.W.Frag} {mg : Str → Option Value} {base : Heap} {CN CR : Addr}
theorem use_gap {L : Addr} {zs : List Wk} {one : Int} {a p : Nat} {H : Hp} {Q : VK} {E : XK} {vs : List V} (hv : vs = [.ref L, .int one, .int p]) (e : one + 1 = a) (wk : WkL H L zs) (ln : zs.length ≤ 10) (hp : p < zs.length) (ha : a ≤ zs.length)
    (k : ∀ H' t, Same H H' → H' t = some (.tup [.int (sumA (gapA (zs.map (·.2)) a p)), .int (sumB (gapA (zs.map (·.2)) a p))]) → Q (.ref t) H') : sp_gap K vs H Q E := ⟨L, zs, one, a, p, hv, e, wk, ln, hp, ha, k⟩
abbrev s_law_levels : Stmt := top 36
theorem sc_law_levels : FnScope ["_law_window", "_law_works_here", "_law_first", "_law_rows", "_law_found", "_law_level", "_law_row", "_law_place", "_law_other"] ["_law_window", "_law_works_here", "_law_first"] (C8.fnScope s_law_levels) := C8.fnScope_by (by decide +kernel)
def sp_levelsL (K : PySem.W.Frag) : Sp := fun vs H Q _ => ∃ (W L : Addr) (lo hi : Int) (zs : List Wk) (f : Nat), vs = [.ref W, .ref L, .int f] ∧ SqT K H W [.int lo, .int hi] ∧ WkL H L zs ∧ zs.length ≤ 10 ∧ f < zs.length ∧ ∀ H' T rs, Same H H' → H T = none → RowsL H H' T rs → rs.map (·.2) = levels lo hi (zs.map (·.2)) f → Q (.ref T) H'
def pairsN (lo hi : Int) (ws : List (Int × Int)) (b : Nat) : List (List Nat) := (nexts lo hi ws b).map fun p => [b, p]
theorem lev_pw {lo hi : Int} {ws : List (Int × Int)} {l : List Nat} : (lev lo hi ws l).Pairwise (· < ·) := (ups_pw 0 _).filter _
theorem lasts_pairs {lo hi : Int} {ws : List (Int × Int)} (l : List Nat) : (l.flatMap (pairsN lo hi ws)).map lastN = l.flatMap (nexts lo hi ws) := by
  rw [List.map_flatMap]
  congr 1
  funext b
  unfold pairsN
  rw [List.map_map]
  have : (lastN ∘ fun p => [b, p]) = id := by funext p; rfl
  rw [this, List.map_id]
theorem pairs_len {lo hi : Int} {ws : List (Int × Int)} (b : Nat) : (pairsN lo hi ws b).length ≤ ws.length := by
  unfold pairsN
  rw [List.length_map]; exact next_len b
theorem pairs_lens {lo hi : Int} {ws : List (Int × Int)} : ∀ l : List Nat, (l.flatMap (pairsN lo hi ws)).length ≤ l.length * ws.length
  | [] => Nat.zero_le _
  | b :: l => by
    have h1 := pairs_len (lo := lo) (hi := hi) (ws := ws) b
    have h2 := pairs_lens (lo := lo) (hi := hi) (ws := ws) l
    rw [List.flatMap_cons, List.length_append, List.length_cons, Nat.succ_mul]
    omega
theorem pw_len {l : List Nat} {N : Nat} (h : l.Pairwise (· < ·)) (hb : ∀ x ∈ l, x < N) : l.length ≤ N := by
  have nd : l.Nodup := h.imp (fun e => Nat.ne_of_lt e)
  have := List.Nodup.length_le_of_subset (l₂ := List.range N) nd (fun x hx => List.mem_range.mpr (hb x hx))
  rw [List.length_range] at this; exact this
theorem ok_levelsL (T : TxtW K mg CN) {f : Addr} {fd : FuncData} (D : C8.Def K mg "_law_levels" s_law_levels f fd) (b : Binds K fd ["_law_window", "_law_works_here", "_law_first"] []) (g_law_gap : C8.Cal P w K mg base 1 "_law_gap" (sp_gap K) []) (g_law_in : C8.Cal P w K mg base 1 "_law_in" (sp_in K) []) : C8.Cal P w K mg base 2 "_law_levels" (sp_levelsL K) [] := by
  refine C8.cal0 D b .nil sc_law_levels (fun vs H Q E h => ?_) fun cdv A outer s H vs Q E hr h => ?_
  · obtain ⟨W, L, lo, hi, zs, f, rfl, _⟩ := h; rfl
  · obtain ⟨W, L, lo, hi, zs, f, rfl, hW, wk, ln, hf, q⟩ := h
    have nd := sc_law_levels.nd
    refine ⟨_, (pss_cons (ps_set (i := 3) nd rfl (Or.inl rfl) (pe_lst (pa_cons (pe_lst (pa_cons (pv 2) pa_nil)) pa_nil)))
      (pss_cons (ps_set (i := 4) nd rfl (Or.inl rfl) (pe_lst pa_nil))
      (pss_cons (ps_while PassesOwn.never (pt_cmpR (r := rNeD K) (op_neD hr.units) (pv 3) (pe_lst pa_nil) (nomark _)) (pss_cons (ps_set (i := 5) nd rfl (Or.inl rfl) (pe_callB (r := rSortedSet w) (cr_sortedSet rfl) (by rfl) T.n_sorted (by decide +kernel) (pa_cons (pe_callTy (r := rSetOf K w) (cr_setOf rfl) (by rfl) T.n_set (by decide +kernel) (pa_cons (pe_lc (own := [("_law_row", 6)]) (g := gName 6) (tt := tYes) rfl nd (pi_list (pv 3)) (blkOk_by (N := ["_law_window", "_law_works_here", "_law_first", "_law_rows", "_law_found", "_law_level", "_law_row", "_law_place", "_law_other"]) (sc := C8.fnScope s_law_levels) (by decide +kernel)) (fun _ _ _ _ _ => pg_name (i := 6) nd rfl (Or.inl rfl)) (fun _ _ _ _ _ => pts_nil) (fun _ _ _ _ _ => (pe_ix (r := rIxL K) ix_list (pv 6) (pe_un un_neg pe_int) (fun _ _ => rfl)))) pa_nil)) pa_nil)))
      (pss_cons (ps_expr (pe_bmK (K := K) rfl PySem.F.plainAttrs_list PySem.F.slot_list_append PySem.F.type_list_append mt_append (pv 4) (pa_cons (pv 5) pa_nil)))
      (pss_cons (ps_set (i := 3) nd rfl (Or.inl rfl) (pe_lst pa_nil))
      (pss_one (ps_for PassesOwn.never rfl (pi_list (pv 5)) (pg_name (i := 7) nd rfl (Or.inl rfl)) (pss_one (ps_for PassesOwn.never rfl (pi_range2 rfl T.n_range (pa_cons (pe_op op_add (pv 7) pe_int) (pa_cons (pe_callB (r := Wd.rLen K) call_len1 (by rfl) T.n_len PySem.boot_len (pa_cons (pv 1) pa_nil)) pa_nil))) (pg_name (i := 8) nd rfl (Or.inl rfl)) (pss_one (ps_if (pt_val (C8.pe_c g_law_in hr (by first | decide | exact Nat.le_refl _ | omega) (by rfl) (pa_cons (pv 0) (pa_cons (C8.pe_c g_law_gap hr (by first | decide | exact Nat.le_refl _ | omega) (by rfl) (pa_cons (pv 1) (pa_cons (pv 7) (pa_cons (pv 8) pa_nil)))) pa_nil)))) (pss_one (ps_expr (pe_bmK (K := K) rfl PySem.F.plainAttrs_list PySem.F.slot_list_append PySem.F.type_list_append mt_append (pv 3) (pa_cons (pe_lst (pa_cons (pv 7) (pa_cons (pv 8) pa_nil))) pa_nil)))) pss_nil))))))))))
      (pss_one (ps_ret (pv 4)))))), ?_⟩
    generalize hws : zs.map (·.2) = ws at q
    have wl : ws.length = zs.length := by rw [← hws, List.length_map]
    walk_at "go"
    intro A1 hA1
    have s1 := same_new (o := .lst [nI f]) hA1
    have e1 := upd_same (H := H) (a := A1) (o := .lst [nI f])
    generalize upd H A1 (.lst [nI f]) = H1 at s1 e1
    walk_at "go"
    intro RR hRR
    have nRR := Wd.Same.back s1 hRR
    have s2 := s1.trans (same_new (o := .lst [.ref A1]) hRR)
    have rl0 : RowsL H (upd H1 RR (.lst [.ref A1])) RR [(A1, [f])] := ⟨upd_same, fun r hr => by
      rw [List.mem_singleton] at hr; subst hr
      exact ⟨by rw [upd_ne (ne_of_none e1 hRR)]; exact e1, hA1⟩⟩
    generalize upd H1 RR (.lst [.ref A1]) = H2 at s2 rl0
    walk_at "go"
    intro F hF
    have nF := Wd.Same.back s2 hF
    have s3 := s2.trans (same_new (o := .lst []) hF)
    have rl1 := rl0.same (same_new (o := .lst []) hF)
    have fl0 : RowsL H (upd H2 F (.lst [])) F [] := ⟨upd_same, fun r hr => nomatch hr⟩
    generalize upd H2 F (.lst []) = H3 at s3 rl1 fl0
    clear rl0 s1 s2 e1
    walk_at "go"
    refine w_loop (fun n σ H' => ∃ (rr fs : List (Addr × List Nat)) (RR : Addr) (l : List Nat) (k : Nat) (v5 v6 v7 v8 : Option V), σ = [some (.ref W), some (.ref L), some (nI f), some (.ref RR), some (.ref F), v5, v6, v7, v8] ∧ Same H H' ∧ RowsL H H' RR rr ∧ (∀ r ∈ rr, r.2 ≠ []) ∧ (∀ x, x ∈ rr.map (fun r => lastN r.2) ↔ x ∈ l) ∧ rr.length ≤ 100 ∧ l.Pairwise (· < ·) ∧ (∀ x ∈ l, k ≤ x ∧ x < ws.length) ∧ RowsL H H' F fs ∧ (∀ y ∈ fs, y.1 ≠ F) ∧ H RR = none ∧ fs.map (·.2) ++ levs lo hi ws n l = levels lo hi ws f ∧ fs.length = k ∧ k + n = ws.length + 1) (ws.length + 1) ?_ ?_
    · refine ⟨[(A1, [f])], [], RR, [f], 0, _, _, _, _, rfl, s3, rl1, fun r hr => ?_, fun x => Iff.rfl, by show 1 ≤ 100; decide, List.pairwise_singleton _ _, fun x hx => ?_, fl0, fun y hy => (nomatch hy), nRR, rfl, rfl, by omega⟩
      · rw [List.mem_singleton] at hr; subst hr; exact List.cons_ne_nil _ _
      · rw [List.mem_singleton] at hx; omega
    clear rl1 fl0 s3 hA1 hRR nRR hF RR A1 H1 H2 H3
    rintro n σ H4 ⟨rr, fs, RR, l, k, v5, v6, v7, v8, rfl, s4, rl, rne, rm, rlen, lp, lk, fl, nfs, nRR, el, fk, kn⟩
    walk_at "go"
    intro z hz
    have sz := same_new (o := .lst []) hz
    have s5 := s4.trans sz
    have rl5 := rl.same sz
    have fl5 := fl.same sz
    have ez := upd_same (H := H4) (a := z) (o := .lst [])
    generalize upd H4 z (.lst []) = H5 at sz s5 rl5 fl5 ez
    clear rl fl s4 sz hz H4
    walk_at "go"
    refine g_neRows (SqL.of rl5.at_) (fun r hr => SqL.of (rl5.own r hr).1) ez ?_
    clear ez z
    walk_at "go"
    by_cases hrr : rr = []
    · subst hrr
      have hl0 : l = [] := List.eq_nil_iff_forall_not_mem.mpr fun x hx => nomatch (rm x).mpr hx
      subst hl0
      refine L2.iteF ?_
      have e0 : levs lo hi ws n [] = [] := by cases n <;> rfl
      rw [e0, List.append_nil] at el
      walk_at "go"
      exact q _ F fs s5 nF fl5 el
    · have hl0 : l ≠ [] := fun e => by
        obtain ⟨r, hr⟩ := List.exists_mem_of_ne_nil _ hrr
        have := (rm (lastN r.2)).mp (List.mem_map.mpr ⟨r, hr, rfl⟩)
        rw [e] at this; cases this
      have em : (!rr.isEmpty) = true := by
        cases rr with
        | nil => exact absurd rfl hrr
        | cons _ _ => rfl
      rw [em]
      obtain ⟨x0, hx0⟩ := List.exists_mem_of_ne_nil _ hl0
      have hk0 := lk x0 hx0
      match n, kn, el with
      | 0, kn, _ => omega
      | n + 1, kn, el =>
      refine L2.iteT ⟨fun σ' H' => ∃ (rr fs : List (Addr × List Nat)) (RR : Addr) (l : List Nat) (k : Nat) (v5 v6 v7 v8 : Option V), σ' = [some (.ref W), some (.ref L), some (nI f), some (.ref RR), some (.ref F), v5, v6, v7, v8] ∧ Same H H' ∧ RowsL H H' RR rr ∧ (∀ r ∈ rr, r.2 ≠ []) ∧ (∀ x, x ∈ rr.map (fun r => lastN r.2) ↔ x ∈ l) ∧ rr.length ≤ 100 ∧ l.Pairwise (· < ·) ∧ (∀ x ∈ l, k ≤ x ∧ x < ws.length) ∧ RowsL H H' F fs ∧ (∀ y ∈ fs, y.1 ≠ F) ∧ H RR = none ∧ fs.map (·.2) ++ levs lo hi ws n l = levels lo hi ws f ∧ fs.length = k ∧ k + n = ws.length + 1, fun σ' H' h => ⟨n, Nat.lt_succ_self n, h⟩, ?_⟩
      walk_at "go"
      refine w_lcList (SqL.of rl5.at_) (fun D i H' => Same H5 H' ∧ H' D = some (.lst (((rr.take i).map fun r => ((lastN r.2 : Nat) : Int)).map V.int))) (fun D hD => ⟨same_new hD, upd_same⟩) (fun D i H' hD _ h => SqL.of (h.1 _ _ rl5.at_)) (fun D i y H' hD hy h => ?_) (fun D6 H6 hD6 h => ?_)
      · obtain ⟨r, hr', rfl⟩ := map_at2 hy
        have rmem := List.mem_of_getElem? hr'
        have il := (List.getElem?_eq_some_iff.mp hr').1
        have h2 := lastN_at (rne r rmem)
        walk_at "go"
        refine ⟨rfl, ?_⟩
        walk_at "go"
        refine g_ixL (v := nI (lastN r.2)) (SqL.of (h.1 _ _ (rl5.own r rmem).1)) (atI_back (by rw [List.length_map, List.getElem?_map, h2]; rfl)) ?_
        exact ⟨_, h.2, by rw [sizeLine_eq, List.length_map, List.length_map]; have := List.length_take_le i rr; omega, Wd.Same.mut h.1 hD, by rw [upd_same, take_snocM _ hr', List.map_append]; rfl⟩
      obtain ⟨s56, e6⟩ := h
      rw [List.length_map, List.take_length] at e6
      walk_at "go"
      refine ⟨D6, _, rfl, SqL.of e6, by rw [List.length_map]; omega, fun p c es hp endu em2 elen => ?_⟩
      have s6 := s5.trans s56
      have s7 := same_new (o := SetO w p (fun j => decide (j ∈ rr.map fun r => ((lastN r.2 : Nat) : Int))) c) hp
      have e7 := upd_same (H := H6) (a := p) (o := SetO w p (fun j => decide (j ∈ rr.map fun r => ((lastN r.2 : Nat) : Int))) c)
      generalize upd H6 p (SetO w p (fun j => decide (j ∈ rr.map fun r => ((lastN r.2 : Nat) : Int))) c) = H7 at s7 e7
      have lset : ∀ x : Int, x ∈ (rr.map fun r => ((lastN r.2 : Nat) : Int)) ↔ x ∈ l.map fun y : Nat => (y : Int) := fun x => by
        rw [List.mem_map, List.mem_map]
        constructor
        · rintro ⟨r, hr', rfl⟩; exact ⟨_, (rm _).mp (List.mem_map.mpr ⟨r, hr', rfl⟩), rfl⟩
        · rintro ⟨y, hy, rfl⟩
          obtain ⟨r, hr', rfl⟩ := List.mem_map.mp ((rm y).mpr hy)
          exact ⟨r, hr', rfl⟩
      have llen := pw_len lp (fun x hx => (lk x hx).2)
      have clen : c ≤ 10 := by
        have := List.Nodup.length_le_of_subset (l₂ := l.map fun y : Nat => (y : Int)) endu (fun x hx => (lset x).mp ((em2 x).mp hx))
        rw [List.length_map] at this
        omega
      walk_at "go"
      refine ⟨p, _, c, rfl, e7, by omega, fun ns A hpw hm hlen hA => ?_⟩
      have ens : ns = l.map fun y : Nat => (y : Int) := rise_eq hpw (List.pairwise_map.mpr (lp.imp (fun h => by omega))) fun x => by rw [hm, decide_eq_true_iff]; exact lset x
      subst ens
      have s8 := s7.trans (same_new (o := .lst ((l.map fun y : Nat => (y : Int)).map V.int)) hA)
      have s08 := (s6.trans s8)
      have s58 := s56.trans s8
      have e8 : upd H7 A (.lst ((l.map fun y : Nat => (y : Int)).map V.int)) A = some (.lst (l.map nI)) := by rw [upd_same, List.map_map]; rfl
      have nA := Wd.Same.back (s6.trans s7) hA
      generalize upd H7 A (.lst ((l.map fun y : Nat => (y : Int)).map V.int)) = H8 at s8 s08 s58 e8
      have fl8 := fl5.same s58
      have nAF : A ≠ F := (ne_of_none ((s56.trans s7) _ _ fl5.at_) hA).symm
      clear s7 s8 s6 s56 s58 e6 e7 hA hp hm hlen hpw em2 endu elen rl5 fl5
      walk_at "go"
      refine g_tyL fl8.at_ ?_
      walk_at "go"
      refine g_append fl8.at_ (by rw [List.length_map]; omega) ?_
      have fl9 := fl8.put e8 nA nAF nfs
      have s09 := Wd.Same.mut (o := .lst ((fs.map fun r => V.ref r.1) ++ [.ref A])) s08 nF
      have e9 : upd H8 F (.lst ((fs.map fun r => V.ref r.1) ++ [.ref A])) A = some (.lst (l.map nI)) := by rw [upd_ne nAF]; exact e8
      generalize upd H8 F (.lst ((fs.map fun r => V.ref r.1) ++ [.ref A])) = H9 at fl9 s09 e9
      clear fl8 s08 e8
      have nfs9 : ∀ y ∈ fs ++ [(A, l)], y.1 ≠ F := fun y hy => by
        rw [List.mem_append, List.mem_singleton] at hy
        rcases hy with hy | rfl
        · exact nfs y hy
        · exact nAF
      walk_at "go"
      intro R2 hR2
      have nR2 := Wd.Same.back s09 hR2
      have nFR : F ≠ R2 := ne_of_none fl9.at_ hR2
      have nfR : ∀ y ∈ fs ++ [(A, l)], y.1 ≠ R2 := fun y hy => ne_of_none (fl9.own y hy).1 hR2
      have nAR : A ≠ R2 := ne_of_none e9 hR2
      have sA := same_new (o := .lst []) hR2
      have s0A := s09.trans sA
      have rlA : RowsL H (upd H9 R2 (.lst [])) R2 [] := ⟨upd_same, fun r hr => nomatch hr⟩
      have flA := fl9.same sA
      have eA := sA _ _ e9
      generalize upd H9 R2 (.lst []) = HA at sA s0A rlA flA eA
      clear fl9 s09 e9 sA hR2
      have back : ∀ {H' : Hp}, Frm R2 HA H' → Same H H' := fun f b o h => f b o (ne_of_none h nR2) (s0A b o h)
      walk_at "go"
      refine w_list (xs := l.map nI) (fun i σ H' => ∃ (rr : List (Addr × List Nat)) (v6 v7 v8 : Option V), σ = [some (.ref W), some (.ref L), some (nI f), some (.ref R2), some (.ref F), some (.ref A), v6, v7, v8] ∧ Frm R2 HA H' ∧ RowsL H H' R2 rr ∧ (∀ y ∈ rr, y.1 ≠ R2) ∧ rr.map (·.2) = (l.take i).flatMap (pairsN lo hi ws)) ?_ ?_ ?_ ?_
      · exact ⟨[], _, _, _, rfl, .refl _ _, rlA, fun y hy => (nomatch hy), rfl⟩
      · rintro i σ H' _ ⟨rr, v6, v7, v8, rfl, fr, _⟩
        exact SqL.of (fr _ _ nAR eA)
      · rintro i x σ H10 hx ⟨r2, v6, v7, v8, rfl, fr, rl10, n10, er⟩
        obtain ⟨b, hb, rfl⟩ := nI_at hx
        have bm := List.mem_of_getElem? hb
        have bl := (lk b bm).2
        have il := (List.getElem?_eq_some_iff.mp hb).1
        have s10 := back fr
        have len0 : ((l.take i).flatMap (pairsN lo hi ws)).length ≤ 100 := by
          have h1 := pairs_lens (lo := lo) (hi := hi) (ws := ws) (l.take i)
          have h2 := List.length_take_le i l
          have h3 : (l.take i).length * ws.length ≤ 10 * 10 := Nat.mul_le_mul (by omega) (by omega)
          omega
        walk_at "go"
        refine g_len (.inl (SqL.of (s10 _ _ wk.at_))) ?_
        walk_at "go"
        rw [List.length_map]
        refine w_range2 (by omega) (fun j σ H' => ∃ (rr : List (Addr × List Nat)) (v6 v8 : Option V), σ = [some (.ref W), some (.ref L), some (nI f), some (.ref R2), some (.ref F), some (.ref A), v6, some (nI b), v8] ∧ Frm R2 HA H' ∧ RowsL H H' R2 rr ∧ (∀ y ∈ rr, y.1 ≠ R2) ∧ rr.map (·.2) = (l.take i).flatMap (pairsN lo hi ws) ++ ((ups (b + 1) j).filter fun p => fit lo hi ws p b).map fun p => [b, p]) ?_ ?_ ?_
        · exact ⟨r2, _, _, rfl, fr, rl10, n10, by rw [er]; exact (List.append_nil _).symm⟩
        · clear fr rl10 n10 er s10 r2
          rintro j σ H11 hj ⟨r2, v6, v8, rfl, fr, rl11, n11, er⟩
          have jl : b + 1 + j < zs.length := by omega
          have ex : (ups (b + 1) (j + 1)).filter (fun p => fit lo hi ws p b) = _ := filter_snoc (fun p => fit lo hi ws p b) (ups (b + 1) j) (b + 1 + j)
          have len1 : ((ups (b + 1) j).filter fun p => fit lo hi ws p b).length ≤ 10 := by
            have h1 := List.length_filter_le (fun p => fit lo hi ws p b) (ups (b + 1) j)
            rw [ups_len] at h1; omega
          have s11 := back fr
          have e2 : (b : Int) + 1 + (j : Int) = ((b + 1 + j : Nat) : Int) := by omega
          rw [e2]
          walk_at "go"
          refine use_gap (a := b + 1) rfl rfl (wk.same s11) ln jl (by omega) fun H12 t s12 et => ?_
          have sx := s11.trans s12
          have fx := fr.trans (.of s12)
          have rl12 := rl11.same s12
          walk_at "go"
          refine ⟨W, t, lo, hi, _, _, rfl, tup_same sx hW, SqT.of et, ?_⟩
          refine ⟨_, rfl, ?_⟩
          have fd : decide (lo ≤ sumA (gapA (zs.map (·.2)) (b + 1) (b + 1 + j)) ∧ sumB (gapA (zs.map (·.2)) (b + 1) (b + 1 + j)) ≤ hi) = fit lo hi ws (b + 1 + j) b := by rw [gapA_L, hws]; rfl
          rw [fd]
          cases hfit : fit lo hi ws (b + 1 + j) b with
          | false =>
            rw [hfit, if_neg (by decide), List.append_nil] at ex
            walk_at "go"
            exact ⟨r2, _, _, rfl, fx, rl12, n11, by rw [ex]; exact er⟩
          | true =>
            rw [if_pos hfit] at ex
            walk_at "go"
            refine g_tyL rl12.at_ ?_
            walk_at "go"
            intro M hM
            have nM := Wd.Same.back sx hM
            have sM := same_new (o := .lst [nI b, nI (b + 1 + j)]) hM
            have rl13 := rl12.same sM
            have eM := upd_same (H := H12) (a := M) (o := .lst [nI b, nI (b + 1 + j)])
            have fM := fx.trans (.of sM)
            have nMR : M ≠ R2 := (ne_of_none rl12.at_ hM).symm
            generalize upd H12 M (.lst [nI b, nI (b + 1 + j)]) = H13 at sM rl13 eM fM
            have rlen2 : r2.length ≤ 200 := by
              have := congrArg List.length er
              rw [List.length_map, List.length_append, List.length_map] at this
              omega
            walk_at "go"
            refine g_append rl13.at_ (by rw [List.length_map]; omega) ?_
            walk_at "go"
            refine ⟨r2 ++ [(M, [b, b + 1 + j])], _, _, rfl, fM.trans .set, rl13.put eM nM nMR n11, fun y hy => ?_, ?_⟩
            · rw [List.mem_append, List.mem_singleton] at hy
              rcases hy with hy | rfl
              · exact n11 y hy
              · exact nMR
            · rw [List.map_append, er, ex, List.map_append, List.append_assoc]; rfl
        · clear fr rl10 n10 er s10 r2
          rintro σ H11 ⟨r2, v6, v8, rfl, fr, rl11, n11, er⟩
          have et : (((zs.length : Nat) : Int) - ((b : Int) + 1)).toNat = ws.length - (b + 1) := by omega
          rw [et] at er
          walk_at "go"
          exact ⟨r2, _, _, _, rfl, fr, rl11, n11, by rw [er, take_snoc1 hb, List.flatMap_append, List.flatMap_singleton]; rfl⟩
      · rintro σ H10 ⟨r2, v6, v7, v8, rfl, fr, rl10, n10, er⟩
        rw [List.length_map, List.take_length] at er
        have elast : r2.map (fun r => lastN r.2) = l.flatMap (nexts lo hi ws) := by
          rw [← lasts_pairs, ← er, List.map_map]; rfl
        walk_at "go"
        refine ⟨r2, fs ++ [(A, l)], R2, lev lo hi ws l, k + 1, _, _, _, _, rfl, back fr, rl10, fun r hr' => ?_, fun x => ?_, ?_, lev_pw, fun x hx => ⟨lev_ge (fun y hy => (lk y hy).1) hx, lev_lt hx⟩, flA.frm fr nFR nfR, nfs9, nR2, ?_, ?_, by omega⟩
        · have : r.2 ∈ l.flatMap (pairsN lo hi ws) := by rw [← er]; exact List.mem_map.mpr ⟨r, hr', rfl⟩
          obtain ⟨b, _, hb⟩ := List.mem_flatMap.mp this
          obtain ⟨p, _, ep⟩ := List.mem_map.mp hb
          rw [← ep]
          exact List.cons_ne_nil _ _
        · rw [elast, lev_mem]
        · have h1 := pairs_lens (lo := lo) (hi := hi) (ws := ws) l
          have h3 : l.length * ws.length ≤ 10 * 10 := Nat.mul_le_mul (by omega) (by omega)
          have := congrArg List.length er
          rw [List.length_map] at this
          omega
        · rw [← el, List.map_append, List.append_assoc]
          congr 1
          show [l] ++ _ = if l = [] then [] else _
          rw [if_neg hl0]; rfl
        · rw [List.length_append, fk]; rfl
end
end K09
namespace K09
open PySem PySem.Spec PyProof.Rows L2 Wd
theorem nI_cast (l : List Nat) : (l.map fun y : Nat => (y : Int)).map V.int = l.map nI := by rw [List.map_map]; rfl
section
variable {P : Program} {w : World} {K : PySem.W.Frag} {mg : Str → Option Value} {base : Heap} {CN CR : Addr}
abbrev s_law_far : Stmt := top 29
theorem sc_law_far : FnScope ["_law_state", "_law_most", "_law_far_here"] ["_law_state", "_law_most"] (C8.fnScope s_law_far) := C8.fnScope_by (by decide +kernel)
def sp_far (K : PySem.W.Frag) : Sp := fun vs H Q _ => ∃ (B : Hp) (S : Addr) (n : Int), vs = [.ref S, .int n] ∧ Dst K B H S ∧ ∀ H' v, Frm S H H' → Dst K B H' S → (v < 0 ∨ n < v) → Q (.int v) H'
theorem ok_far (T : Txt K mg) {f : Addr} {fd : FuncData} (D : C8.Def K mg "_law_far" s_law_far f fd) (b : Binds K fd ["_law_state", "_law_most"] []) (g_law_drawn : C8.Cal P w K mg base 1 "_law_drawn" (sp_drawn K) []) : C8.Cal P w K mg base 2 "_law_far" (sp_far K) [] := by
  refine C8.cal0 D b .nil sc_law_far (fun vs H Q E h => ?_) fun cdv A outer s H vs Q E hr h => ?_
  · obtain ⟨B, S, n, rfl, _⟩ := h; rfl
  · obtain ⟨B, S, n, rfl, d, q⟩ := h
    have nd := sc_law_far.nd
    refine ⟨_, (pss_cons (ps_set (i := 2) nd rfl (Or.inl rfl) (pe_ix (r := rIxL K) ix_list (pe_lst (pa_cons pe_int (pa_cons pe_int (pa_cons (pe_op op_pow pe_int pe_int) pa_nil)))) (C8.pe_c g_law_drawn hr (by first | decide | exact Nat.le_refl _ | omega) (by rfl) (pa_cons (pv 0) (pa_cons pe_int pa_nil))) (fun _ _ => rfl)))
      (pss_one (ps_ret (pe_ix (r := rIxL K) ix_list (pe_lst (pa_cons (pe_op op_sub (pe_op op_sub pe_int pe_int) (C8.pe_c g_law_drawn hr (by first | decide | exact Nat.le_refl _ | omega) (by rfl) (pa_cons (pv 0) (pa_cons (pv 2) pa_nil)))) (pa_cons (pe_op op_add (pe_op op_add (pv 1) pe_int) (C8.pe_c g_law_drawn hr (by first | decide | exact Nat.le_refl _ | omega) (by rfl) (pa_cons (pv 0) (pa_cons (pv 2) pa_nil)))) pa_nil))) (C8.pe_c g_law_drawn hr (by first | decide | exact Nat.le_refl _ | omega) (by rfl) (pa_cons (pv 0) (pa_cons pe_int pa_nil))) (fun _ _ => rfl))))), ?_⟩
    walk_at "go"
    refine g_I (pow_small (by decide) (by decide) (by decide)) ?_
    walk_at "go"
    intro l hl
    have d1 := d.same (same_new (o := .lst [.int 1, .int 20, .int (10 ^ (29 : Int).toNat)]) hl)
    walk_at "go"
    refine use_drawn d1 (by decide) (by decide) fun H2 v f2 d2 v0 v1 => ?_
    have h2 := f2 _ _ (d.ne hl) upd_same
    obtain ⟨x, hx, hx2⟩ := atI_mem (xs := [.int 1, .int 20, .int (10 ^ (29 : Int).toNat)]) v0 v1
    refine g_ixL (SqL.of h2) hx2 ?_
    obtain ⟨z, rfl, z0, z1⟩ : ∃ z, x = V.int z ∧ 0 < z ∧ z < 10 ^ 38 := by
      simp only [List.mem_cons, List.not_mem_nil, or_false] at hx
      rcases hx with rfl | rfl | rfl
      · exact ⟨_, rfl, by decide, by decide⟩
      · exact ⟨_, rfl, by decide, by decide⟩
      · exact ⟨_, rfl, by decide, by decide⟩
    walk_at "go"
    refine use_drawn d2 z0 z1 fun H3 v3 f3 d3 v30 v31 => ?_
    walk_at "go"
    refine use_drawn d3 z0 z1 fun H4 v4 f4 d4 v40 v41 => ?_
    walk_at "go"
    intro l2 hl2
    have d5 := d4.same (same_new (o := .lst [.int (0 - 1 - v3), .int (n + 1 + v4)]) hl2)
    walk_at "go"
    refine use_drawn (n := 2) d5 (by decide) (by decide) fun H6 v6 f6 d6 v60 v61 => ?_
    have h6 := f6 _ _ (d4.ne hl2) upd_same
    have fr : Frm S H H6 := (((((Frm.new hl).trans f2).trans f3).trans f4).trans (.new hl2)).trans f6
    obtain ⟨y, hy, hy2⟩ := atI_mem (xs := [.int (0 - 1 - v3), .int (n + 1 + v4)]) v60 v61
    refine g_ixL (SqL.of h6) hy2 ?_
    simp only [List.mem_cons, List.not_mem_nil, or_false] at hy
    rcases hy with rfl | rfl
    · exact q _ _ fr d6 (.inl (by omega))
    · exact q _ _ fr d6 (.inr (by omega))

abbrev s_law_closes : Stmt := top 37
theorem sc_law_closes : FnScope ["_law_window", "_law_works_here", "_law_levels_here", "_law_many", "_law_level", "_law_place"] ["_law_window", "_law_works_here", "_law_levels_here", "_law_many"] (C8.fnScope s_law_closes) := C8.fnScope_by (by decide +kernel)
def sp_closes (K : PySem.W.Frag) : Sp := fun vs H Q _ => ∃ (H0 : Hp) (W L A : Addr) (lo hi m : Int) (zs : List Wk) (f : Nat) (rs : List (Addr × List Nat)), vs = [.ref W, .ref L, .ref A, .int m] ∧ SqT K H W [.int lo, .int hi] ∧ WkL H L zs ∧ zs.length ≤ 10 ∧ f < zs.length ∧ RowsL H0 H A rs ∧ rs.length ≤ 100 ∧ (∀ r ∈ rs, r.2.length ≤ 100 ∧ ∀ x ∈ r.2, x < zs.length) ∧ (∃ r0, rs[0]? = some r0 ∧ r0.2[0]? = some f) ∧ ∀ H', Same H H' → Q (.bl (backTo lo hi (zs.map (·.2)) f ((rs.map (·.2)).take (looked m)))) H'
theorem ok_closes (T : TxtW K mg CN) {f : Addr} {fd : FuncData} (D : C8.Def K mg "_law_closes" s_law_closes f fd) (b : Binds K fd ["_law_window", "_law_works_here", "_law_levels_here", "_law_many"] []) (g_law_gap : C8.Cal P w K mg base 1 "_law_gap" (sp_gap K) []) (g_law_in : C8.Cal P w K mg base 1 "_law_in" (sp_in K) []) : C8.Cal P w K mg base 2 "_law_closes" (sp_closes K) [] := by
  refine C8.cal0 D b .nil sc_law_closes (fun vs H Q E h => ?_) fun cdv A outer s H vs Q E hr h => ?_
  · obtain ⟨H0, W, L, A, lo, hi, m, zs, f, rs, rfl, _⟩ := h; rfl
  · obtain ⟨H0, W, L, A, lo, hi, m, zs, f, rs, rfl, hW, wk, ln, hf, rl, rsl, lt, ⟨r0, hr0, hf0⟩, q⟩ := h
    have nd := sc_law_closes.nd
    refine ⟨_, (pss_cons (ps_for PassesOwn.never rfl (pi_list (pe_slice (r := rSlL K) sl_list (pv 2) po_none (po_some (pe_callB (call_max1 rfl) (by rfl) T.n_max (by decide +kernel) (pa_cons pe_int (pa_cons (pe_op op_sub (pv 3) pe_int) pa_nil)))))) (pg_name (i := 4) nd rfl (Or.inl rfl)) (pss_one (ps_if (pt_cmpR (r := rNeD K) (op_neD hr.units) (pe_lc (own := [("_law_place", 5)]) (g := gName 5) rfl nd (pi_list (pv 4)) (blkOk_by (N := ["_law_window", "_law_works_here", "_law_levels_here", "_law_many", "_law_level", "_law_place"]) (sc := C8.fnScope s_law_closes) (by decide +kernel)) (fun _ _ _ _ _ => pg_name (i := 5) nd rfl (Or.inl rfl)) (fun _ _ _ _ _ => pts_one (pt_val (C8.pe_c g_law_in hr (by first | decide | exact Nat.le_refl _ | omega) (by rfl) (pa_cons (pv 0) (pa_cons (C8.pe_c g_law_gap hr (by first | decide | exact Nat.le_refl _ | omega) (by rfl) (pa_cons (pv 1) (pa_cons (pv 5) (pa_cons (pe_ix (r := rIxL K) ix_list (pe_ix (r := rIxL K) ix_list (pv 2) pe_int (fun _ _ => rfl)) pe_int (fun _ _ => rfl)) pa_nil)))) pa_nil))))) (fun _ _ _ _ _ => (pv 5))) (pe_lst pa_nil) (nomark _)) (pss_one (ps_ret pe_bl)) pss_nil)))
      (pss_one (ps_ret pe_bl))), ?_⟩
    generalize hws : zs.map (·.2) = ws at q
    have wl : ws.length = zs.length := by rw [← hws, List.length_map]
    walk_at "go"
    have elk : (if m - 1 > 0 then m - 1 else 0) = ((looked m : Nat) : Int) := by unfold looked; split <;> omega
    rw [elk]
    refine g_slL (SqL.of rl.at_) fun A2 hA2 => ?_
    rw [cut_any]
    have s2 := same_new (o := .lst ((rs.take (looked m)).map fun r => V.ref r.1)) hA2
    have i2 := upd_same (H := H) (a := A2) (o := .lst ((rs.take (looked m)).map fun r => V.ref r.1))
    generalize upd H A2 (.lst ((rs.take (looked m)).map fun r => V.ref r.1)) = H2 at s2 i2
    refine w_list (xs := (rs.take (looked m)).map fun r => V.ref r.1) (fun i σ H' => ∃ v4 v5 : Option V, σ = [some (.ref W), some (.ref L), some (.ref A), some (.int m), v4, v5] ∧ Same H2 H' ∧ ∀ j r, j < i → (rs.take (looked m))[j]? = some r → (r.2.any fun p => fit lo hi ws f p) = false) ?_ ?_ ?_ ?_
    · exact ⟨_, _, rfl, fun _ _ h => h, fun j r hj => by omega⟩
    · rintro i σ H' _ ⟨v4, v5, rfl, sm, _⟩
      exact SqL.of (sm _ _ i2)
    · rintro i x σ H5 hx ⟨v4, v5, rfl, sm, no⟩
      obtain ⟨r, hr', rfl⟩ := map_at2 hx
      have rm := List.mem_of_mem_take (List.mem_of_getElem? hr')
      have ro := rl.own r rm
      have s25 := s2.trans sm
      have er5 := s25 _ _ ro.1
      walk_at "go"
      refine w_lcList (SqL.of er5) (fun D i H' => Same H5 H' ∧ H' D = some (.lst ((((r.2.take i).filter fun p => fit lo hi ws f p).map fun y : Nat => (y : Int)).map V.int))) (fun D hD => ⟨same_new hD, upd_same⟩) (fun D i H' hD _ h => SqL.of (h.1 _ _ er5)) (fun D i y H' hD hy h => ?_) (fun D6 H6 hD6 h => ?_)
      · obtain ⟨p, hp, rfl⟩ := nI_at hy
        have pm := List.mem_of_getElem? hp
        have pl := (lt r rm).2 p pm
        have il := (List.getElem?_eq_some_iff.mp hp).1
        have s56 := s25.trans h.1
        have ex : (r.2.take i ++ [p]).filter (fun p => fit lo hi ws f p) = _ := filter_snoc (fun p => fit lo hi ws f p) (r.2.take i) p
        rw [← take_snoc1 hp] at ex
        have fl := List.length_filter_le (fun p => fit lo hi ws f p) (r.2.take i)
        have tl := List.length_take_le i r.2
        have rl2 := (lt r rm).1
        walk_at "go"
        refine ⟨rfl, ?_⟩
        walk_at "go"
        have eA := s56 _ _ rl.at_
        refine g_ixL (v := V.ref r0.1) (SqL.of eA) (at_of (j := 0) rfl (by rw [List.getElem?_map, hr0]; rfl)) ?_
        walk_at "go"
        refine g_ixL (v := nI f) (SqL.of (s56 _ _ (rl.own r0 (List.mem_of_getElem? hr0)).1)) (at_of (j := 0) rfl (by rw [List.getElem?_map, hf0]; rfl)) ?_
        walk_at "go"
        refine use_gap (a := p + 1) rfl rfl (wk.same s56) ln hf (by omega) fun H7 t s7 et => ?_
        have s57 := h.1.trans s7
        have s07 := s56.trans s7
        walk_at "go"
        refine ⟨W, t, lo, hi, _, _, rfl, tup_same s07 hW, SqT.of et, ?_⟩
        refine ⟨_, rfl, ?_⟩
        have fd : decide (lo ≤ sumA (gapA (zs.map (·.2)) (p + 1) f) ∧ sumB (gapA (zs.map (·.2)) (p + 1) f) ≤ hi) = fit lo hi ws f p := by rw [gapA_L, hws]; rfl
        rw [fd]
        have eD := s7 _ _ h.2
        cases hfit : fit lo hi ws f p with
        | true =>
          rw [if_pos hfit] at ex
          walk_at "go"
          exact ⟨_, eD, by rw [sizeLine_eq, List.length_map, List.length_map]; omega, Wd.Same.mut s57 hD, by rw [upd_same, ex, List.map_append, List.map_append]; rfl⟩
        | false =>
          rw [hfit, if_neg (by decide), List.append_nil] at ex
          walk_at "go"
          exact ⟨s57, by rw [ex]; exact eD⟩
      obtain ⟨s56, e6⟩ := h
      rw [List.length_map, List.take_length] at e6
      walk_at "go"
      intro z hz
      have sz := same_new (o := .lst []) hz
      walk_at "go"
      refine g_neLI (ns := (r.2.filter fun p => fit lo hi ws f p).map fun y : Nat => (y : Int)) (ms := []) (SqL.of (sz _ _ e6)) (SqL.of upd_same) ?_
      have s6z := (sm.trans s56).trans sz
      cases hany : r.2.any fun p => fit lo hi ws f p with
      | true =>
        have e : (!decide ((r.2.filter fun p => fit lo hi ws f p).map (fun y : Nat => (y : Int)) = [])) = true := by
          rw [Bool.not_eq_true', decide_eq_false_iff_not]
          intro e0
          obtain ⟨p, hp, hq⟩ := List.any_eq_true.mp hany
          have : p ∈ r.2.filter fun p => fit lo hi ws f p := List.mem_filter.mpr ⟨hp, hq⟩
          rw [List.map_eq_nil_iff.mp e0] at this
          cases this
        rw [e]
        walk_at "go"
        have eb : backTo lo hi ws f ((rs.map (·.2)).take (looked m)) = true := by
          unfold backTo
          rw [List.any_eq_true, ← List.map_take]
          exact ⟨r.2, List.mem_map.mpr ⟨r, List.mem_of_getElem? hr', rfl⟩, hany⟩
        rw [eb] at q
        exact q _ (s2.trans s6z)
      | false =>
        have e : (!decide ((r.2.filter fun p => fit lo hi ws f p).map (fun y : Nat => (y : Int)) = [])) = false := by
          rw [Bool.not_eq_false', decide_eq_true_iff, List.map_eq_nil_iff, List.filter_eq_nil_iff]
          intro p hp
          have := List.any_eq_false.mp hany p hp
          exact this
        rw [e]
        walk_at "go"
        refine ⟨_, _, rfl, s6z, fun j r2 hj hr2 => ?_⟩
        by_cases c : j < i
        · exact no j r2 c hr2
        · have : j = i := by omega
          subst this
          cases hr'.symm.trans hr2
          exact hany
    · rintro σ H6 ⟨v4, v5, rfl, sm, no⟩
      rw [List.length_map] at no
      walk_at "go"
      have e : backTo lo hi ws f ((rs.map (·.2)).take (looked m)) = false := by
        unfold backTo
        rw [List.any_eq_false, ← List.map_take]
        intro l hl
        obtain ⟨r, hr', rfl⟩ := List.mem_map.mp hl
        obtain ⟨j, hj, rfl⟩ := List.mem_iff_getElem.mp hr'
        rw [no j _ hj (List.getElem?_eq_getElem hj)]
        decide
      rw [e] at q
      exact q _ (s2.trans sm)
end
end K09
namespace K09
open PySem PySem.Spec PyProof.Rows L2 Wd
section
variable {P : Program} {w : World} {K : PySem.W.Frag} {mg : Str → Option Value} {base : Heap} {CW : Addr}
/-- the classes of the refusals, at their places -/
structure Refs (K : PySem.W.Frag) (mg : Str → Option Value) (CD : Addr) (cs : List Addr) : Prop where
  n_isinstance : mg "isinstance" = none
  n_ValueError : mg "ValueError" = none
  g_DogError : mg "DogError" = some (.ref CD)
  g_BadWindow : ∃ C, cs[0]? = some C ∧ mg "BadWindow" = some (.ref C)
  g_BadPlan : ∃ C, cs[1]? = some C ∧ mg "BadPlan" = some (.ref C)
  g_BadDelays : ∃ C, cs[2]? = some C ∧ mg "BadDelays" = some (.ref C)
  g_BadWorks : ∃ C, cs[3]? = some C ∧ mg "BadWorks" = some (.ref C)
  g_NoPats : ∃ C, cs[4]? = some C ∧ mg "NoPats" = some (.ref C)
  g_NoPlace : ∃ C, cs[5]? = some C ∧ mg "NoPlace" = some (.ref C)
  g_BadTasks : ∃ C, cs[6]? = some C ∧ mg "BadTasks" = some (.ref C)
  g_BadBeat : ∃ C, cs[7]? = some C ∧ mg "BadBeat" = some (.ref C)
  g_TooMuch : ∃ C, cs[8]? = some C ∧ mg "TooMuch" = some (.ref C)
/-- a refusal without a dict of its own, of the i-th class: an error of DogError's, a ValueError, and of none of the others -/
structure IsRef (K : PySem.W.Frag) (CD : Addr) (cs : List Addr) (i : Nat) (C : Addr) : Prop where
  cls : cs[i]? = some C
  exc : ExcC K C
  dog : PySem.W.exmOne K (.ref C) (.ref CD) = some true
  val : PySem.W.kitOne K (.ref C) (.type "ValueError") = some true
  own : ∀ (j : Nat) (C' : Addr), cs[j]? = some C' → PySem.W.kitOne K (.ref C) (.ref C') = some (decide (i = j))
def kindW : List Str := ["BadWindow", "BadPlan", "BadDelays", "BadWorks", "NoPats", "NoPlace", "BadTasks", "BadBeat", "TooMuch"]
/-- what is wished of an exception: a refusal, whose word is told -/
def EKind (K : PySem.W.Frag) (CD : Addr) (cs : List Addr) (Q : VK) : XK := fun cls d H => ∃ (i : Nat) (C : Addr) (x : Str), cls = .ref C ∧ d = none ∧ IsRef K CD cs i C ∧ kindW[i]? = some x ∧ ∀ H', Same H H' → Q (.str x) H'
def TKind (K : PySem.W.Frag) (CD : Addr) (cs : List Addr) : (XK → Hp → VK → Prop) → Hp → VK → Prop := fun tl H Q => tl (EKind K CD cs Q) H Q
abbrev s_law_kind : Stmt := top 28
theorem sc_law_kind : FnScope ["_law_work", "e", "_law_kinds", "_law_words"] ["_law_work"] (C8.fnScope s_law_kind) := C8.fnScope_by (by decide +kernel)
theorem kind_gives {X : Cx} {g CD : Addr} {cs : List Addr} {cdg : Value} {q : Str} (T : Refs X.K X.mg CD cs) :
    LamX.GivesTo X ["_law_work", "e", "_law_kinds", "_law_words"] "_law_kind" (C8.fnScope s_law_kind) g cdg (C8.fnBody s_law_kind) "_law_work" q (TKind X.K CD cs) := by
  intro f c' s H Q tl act hc h
  have nd := sc_law_kind.nd
  obtain ⟨C0, e0, m0⟩ := T.g_BadWindow
  obtain ⟨C1, e1, m1⟩ := T.g_BadPlan
  obtain ⟨C2, e2, m2⟩ := T.g_BadDelays
  obtain ⟨C3, e3, m3⟩ := T.g_BadWorks
  obtain ⟨C4, e4, m4⟩ := T.g_NoPats
  obtain ⟨C5, e5, m5⟩ := T.g_NoPlace
  obtain ⟨C6, e6, m6⟩ := T.g_BadTasks
  obtain ⟨C7, e7, m7⟩ := T.g_BadBeat
  obtain ⟨C8', e8, m8⟩ := T.g_TooMuch
  refine ⟨_, pss_one (ps_try_as (X := (cxOf C8.CX0 X.prog X.w X.K X.mg X.base ["_law_work", "e", "_law_kinds", "_law_words"] "_law_kind" (C8.fnScope s_law_kind) g cdg X.A X.stack s H C8.E0).nox) (c := .ref CD) (i := 1)
      (tb := fun W D σ H => ∃ Ech : XK, (∀ cls d σ' H', Ech cls d H' → σ'.length = 4 → W cls d σ' H') ∧ σ[0]? = some (some (.ref f)) ∧ H c' = some (LamX.CodeO c' q) ∧ tl Ech H D.rt) (Wout := fun _ _ _ _ => False)
      rfl rfl nd rfl rfl ⟨rfl, by decide, .inl T.g_DogError⟩ LamX.takes0 (fun W pn xe tk _ => ?_) (fun a oe cls d pn hz hf => (pss_cons (ps_set (i := 2) nd rfl (Or.inl rfl) (pe_lst (pa_cons (pe_callB (r := rIsE2 X.K cls d a) (call_isE2 hz hf) (by rfl) T.n_isinstance (by decide +kernel) (pa_cons (pv 1) (pa_cons (pe_glob (v := .ref C0) rfl m0 rfl) pa_nil))) (pa_cons (pe_callB (r := rIsE2 X.K cls d a) (call_isE2 hz hf) (by rfl) T.n_isinstance (by decide +kernel) (pa_cons (pv 1) (pa_cons (pe_glob (v := .ref C1) rfl m1 rfl) pa_nil))) (pa_cons (pe_callB (r := rIsE2 X.K cls d a) (call_isE2 hz hf) (by rfl) T.n_isinstance (by decide +kernel) (pa_cons (pv 1) (pa_cons (pe_glob (v := .ref C2) rfl m2 rfl) pa_nil))) (pa_cons (pe_callB (r := rIsE2 X.K cls d a) (call_isE2 hz hf) (by rfl) T.n_isinstance (by decide +kernel) (pa_cons (pv 1) (pa_cons (pe_glob (v := .ref C3) rfl m3 rfl) pa_nil))) pa_nil))))))
      (pss_cons (ps_set (i := 2) nd rfl (Or.inl rfl) (pe_op op_cat (pv 2) (pe_lst (pa_cons (pe_callB (r := rIsE2 X.K cls d a) (call_isE2 hz hf) (by rfl) T.n_isinstance (by decide +kernel) (pa_cons (pv 1) (pa_cons (pe_glob (v := .ref C4) rfl m4 rfl) pa_nil))) (pa_cons (pe_callB (r := rIsE2 X.K cls d a) (call_isE2 hz hf) (by rfl) T.n_isinstance (by decide +kernel) (pa_cons (pv 1) (pa_cons (pe_glob (v := .ref C5) rfl m5 rfl) pa_nil))) (pa_cons (pe_callB (r := rIsE2 X.K cls d a) (call_isE2 hz hf) (by rfl) T.n_isinstance (by decide +kernel) (pa_cons (pv 1) (pa_cons (pe_glob (v := .ref C6) rfl m6 rfl) pa_nil))) (pa_cons (pe_callB (r := rIsE2 X.K cls d a) (call_isE2 hz hf) (by rfl) T.n_isinstance (by decide +kernel) (pa_cons (pv 1) (pa_cons (pe_glob (v := .ref C7) rfl m7 rfl) pa_nil))) pa_nil)))))))
      (pss_cons (ps_expr (pe_bmK (K := X.K) rfl PySem.F.plainAttrs_list PySem.F.slot_list_append PySem.F.type_list_append mt_append (pv 2) (pa_cons (pe_callB (r := rIsE2 X.K cls d a) (call_isE2 hz hf) (by rfl) T.n_isinstance (by decide +kernel) (pa_cons (pv 1) (pa_cons (pe_glob (v := .ref C8') rfl m8 rfl) pa_nil))) pa_nil)))
      (pss_cons (ps_set (i := 3) nd rfl (Or.inl rfl) (pe_lst (pa_cons pe_str (pa_cons pe_str (pa_cons pe_str (pa_cons pe_str (pa_cons pe_str (pa_cons pe_str (pa_cons pe_str (pa_cons pe_str (pa_cons pe_str pa_nil)))))))))))
      (pss_cons (ps_if (PW.pt (pw_or (pt_cmpR op_ne (pe_bmK (K := X.K) rfl PySem.F.plainAttrs_list PySem.F.slot_list_count PySem.F.type_list_count (r := rCntV X.K) mt_lcountV (pv 2) (pa_cons pe_bl pa_nil)) pe_int (nomark _)) (pw_or1 (pt_not (pt_val (pe_callB (r := rIsE2 X.K cls d a) (call_isE2 hz hf) (by rfl) T.n_isinstance (by decide +kernel) (pa_cons (pv 1) (pa_cons (pe_bltn (v := .ty "ValueError") (by rfl) T.n_ValueError (by decide +kernel) rfl) pa_nil)))))))) (pss_one (ps_ret pe_str)) pss_nil)
      (pss_one (ps_ret (pe_ix (r := rIxL X.K) ix_list (pv 3) (pe_bmK (K := X.K) rfl PySem.F.plainAttrs_list PySem.F.slot_list_index PySem.F.type_list_index (r := rIndex X.K) mt_index (pv 2) (pa_cons pe_bl pa_nil)) (fun _ _ => rfl))))))))))), ?_⟩
  · refine ⟨fun pins s' σ H' D I h' => ?_⟩
    obtain ⟨Ech, hW, h1, h2, h3⟩ := h'
    exact (pss_one (ps_ret (act _ pn xe Ech _ _ (takes_len tk) hW))).run pins s' σ H' D I ⟨h1, h2, h3⟩
  · refine ⟨EKind X.K CD cs Q, fun cls d σ' H' hE hlen => ?_, rfl, hc, h⟩
    obtain ⟨i, C, x, rfl, rfl, R, hx, k⟩ := hE
    obtain ⟨v0, v1, v2, v3, rfl⟩ : ∃ v0 v1 v2 v3, σ' = [v0, v1, v2, v3] := by
      match σ', hlen with
      | [v0, v1, v2, v3], _ => exact ⟨v0, v1, v2, v3, rfl⟩
    refine ⟨true, R.dog, fun _ a ha => ?_, fun q => nomatch q⟩
    show tSeq _ _ _ _ _
    have isC : ∀ (j : Nat) (C' : Addr) (H : Hp) (Q : VK), cs[j]? = some C' → Q (.bl (decide (i = j))) H → rIsE2 X.K (.ref C) none a [.ref a, .ref C'] H Q := fun j C' H Q e q => ⟨C, .ref C', .ref C', _, rfl, rfl, R.exc, rfl, fun u r => r, R.own j C' e, q⟩
    walk_at "go"
    refine isC 0 _ _ _ e0 ?_
    walk_at "go"
    refine isC 1 _ _ _ e1 ?_
    walk_at "go"
    refine isC 2 _ _ _ e2 ?_
    walk_at "go"
    refine isC 3 _ _ _ e3 ?_
    walk_at "go"
    intro l1 hl1
    walk_at "go"
    refine isC 4 _ _ _ e4 ?_
    walk_at "go"
    refine isC 5 _ _ _ e5 ?_
    walk_at "go"
    refine isC 6 _ _ _ e6 ?_
    walk_at "go"
    refine isC 7 _ _ _ e7 ?_
    walk_at "go"
    intro l2 hl2
    have n12 : l1 ≠ l2 := fun e => by rw [← e, upd_same] at hl2; cases hl2
    walk_at "go"
    refine ⟨l1, l2, _, _, rfl, rfl, by rw [upd_ne n12, upd_same], upd_same, (by show 8 ≤ sizeLine; decide), fun l3 hl3 => ?_⟩
    walk_at "go"
    refine g_tyL upd_same ?_
    walk_at "go"
    refine isC 8 _ _ _ e8 ?_
    walk_at "go"
    refine g_append upd_same (by show 8 < 100000; decide) ?_
    walk_at "go"
    intro l4 hl4
    have n34 : l3 ≠ l4 := fun e => by rw [← e, upd_same] at hl4; cases hl4
    have S5 := ((((same_new (o := .lst [V.bl (decide (i = 0)), V.bl (decide (i = 1)), V.bl (decide (i = 2)), V.bl (decide (i = 3))]) hl1).trans (same_new (o := .lst [V.bl (decide (i = 4)), V.bl (decide (i = 5)), V.bl (decide (i = 6)), V.bl (decide (i = 7))]) hl2)).trans
      (Same.mut (same_new (o := .lst ([V.bl (decide (i = 0)), V.bl (decide (i = 1)), V.bl (decide (i = 2)), V.bl (decide (i = 3))] ++ [V.bl (decide (i = 4)), V.bl (decide (i = 5)), V.bl (decide (i = 6)), V.bl (decide (i = 7))])) hl3)
        (o := .lst ([V.bl (decide (i = 0)), V.bl (decide (i = 1)), V.bl (decide (i = 2)), V.bl (decide (i = 3))] ++ [V.bl (decide (i = 4)), V.bl (decide (i = 5)), V.bl (decide (i = 6)), V.bl (decide (i = 7))] ++ [V.bl (decide (i = 8))])) hl3)).trans (same_new (o := .lst (kindW.map V.str)) hl4))
    have S6 := same_new (o := .lst (kindW.map V.str)) hl4
    have a3 := S6 l3 _ upd_same
    have a4 : upd _ l4 (.lst (kindW.map V.str)) l4 = some (.lst (kindW.map V.str)) := upd_same (H := upd (upd (upd (upd H' l1 (.lst [V.bl (decide (i = 0)), V.bl (decide (i = 1)), V.bl (decide (i = 2)), V.bl (decide (i = 3))])) l2 (.lst [V.bl (decide (i = 4)), V.bl (decide (i = 5)), V.bl (decide (i = 6)), V.bl (decide (i = 7))])) l3
      (.lst ([V.bl (decide (i = 0)), V.bl (decide (i = 1)), V.bl (decide (i = 2)), V.bl (decide (i = 3))] ++ [V.bl (decide (i = 4)), V.bl (decide (i = 5)), V.bl (decide (i = 6)), V.bl (decide (i = 7))]))) l3
        (.lst ([V.bl (decide (i = 0)), V.bl (decide (i = 1)), V.bl (decide (i = 2)), V.bl (decide (i = 3))] ++ [V.bl (decide (i = 4)), V.bl (decide (i = 5)), V.bl (decide (i = 6)), V.bl (decide (i = 7))] ++ [V.bl (decide (i = 8))])))
    have hi : i < 9 := (List.getElem?_eq_some_iff.mp hx).1
    have c9 : i = 0 ∨ i = 1 ∨ i = 2 ∨ i = 3 ∨ i = 4 ∨ i = 5 ∨ i = 6 ∨ i = 7 ∨ i = 8 := by omega
    -- of the nine answers one is True, at i
    have fA : ([V.bl (decide (i = 0)), V.bl (decide (i = 1)), V.bl (decide (i = 2)), V.bl (decide (i = 3))] ++ [V.bl (decide (i = 4)), V.bl (decide (i = 5)), V.bl (decide (i = 6)), V.bl (decide (i = 7))] ++ [V.bl (decide (i = 8))]).all flatV = true := rfl
    have nA : ([V.bl (decide (i = 0)), V.bl (decide (i = 1)), V.bl (decide (i = 2)), V.bl (decide (i = 3))] ++ [V.bl (decide (i = 4)), V.bl (decide (i = 5)), V.bl (decide (i = 6)), V.bl (decide (i = 7))] ++ [V.bl (decide (i = 8))]).countP (fun z => eqV z (.bl true)) = 1 := by
      rcases c9 with rfl | rfl | rfl | rfl | rfl | rfl | rfl | rfl | rfl <;> rfl
    have iA : ([V.bl (decide (i = 0)), V.bl (decide (i = 1)), V.bl (decide (i = 2)), V.bl (decide (i = 3))] ++ [V.bl (decide (i = 4)), V.bl (decide (i = 5)), V.bl (decide (i = 6)), V.bl (decide (i = 7))] ++ [V.bl (decide (i = 8))])[i]? = some (V.bl true) := by
      rcases c9 with rfl | rfl | rfl | rfl | rfl | rfl | rfl | rfl | rfl <;> rfl
    have mA : ∀ (m : Nat) (z' : V), m < i → ([V.bl (decide (i = 0)), V.bl (decide (i = 1)), V.bl (decide (i = 2)), V.bl (decide (i = 3))] ++ [V.bl (decide (i = 4)), V.bl (decide (i = 5)), V.bl (decide (i = 6)), V.bl (decide (i = 7))] ++ [V.bl (decide (i = 8))])[m]? = some z' → eqV z' (.bl true) = false := by
      intro m z' hm e
      have c8 : m = 0 ∨ m = 1 ∨ m = 2 ∨ m = 3 ∨ m = 4 ∨ m = 5 ∨ m = 6 ∨ m = 7 := by omega
      rcases c8 with rfl | rfl | rfl | rfl | rfl | rfl | rfl | rfl <;> (cases (Option.some.inj e); rw [decide_eq_false (by omega)]; rfl)
    generalize ([V.bl (decide (i = 0)), V.bl (decide (i = 1)), V.bl (decide (i = 2)), V.bl (decide (i = 3))] ++ [V.bl (decide (i = 4)), V.bl (decide (i = 5)), V.bl (decide (i = 6)), V.bl (decide (i = 7))] ++ [V.bl (decide (i = 8))]) = A at S5 S6 a3 a4 fA nA iA mA ⊢
    walk_at "go"
    refine g_tyL a3 ?_
    walk_at "go"
    refine ⟨l3, A, .bl true, rfl, rfl, SqL.of a3, rfl, fA, ?_⟩
    rw [nA]
    walk_at "go"
    refine ⟨C, .ty "ValueError", .type "ValueError", true, rfl, rfl, R.exc, rfl, fun u r => r, R.val, ?_⟩
    walk_at "go"
    refine g_tyL a3 ?_
    walk_at "go"
    refine ⟨l3, A, .bl true, i, .bl true, rfl, rfl, SqL.of a3, rfl, fA, iA, rfl, mA, ?_⟩
    refine g_ixL (v := .str x) (SqL.of a4) (at_of (j := i) rfl (by rw [List.getElem?_map, hx]; rfl)) ?_
    exact k _ S5
end
end K09
namespace K09
open PySem PySem.Spec PyProof.Rows L2 Wd
/-! ### dicts -/
section
variable {σ : L2.St} {H : Hp} {Q : VK} {td ty tx tv : TE} {D : Ends}
theorem g_dget (h : td σ H fun x H1 => ty σ H1 fun y H2 => ∃ a v, x = .ref a ∧ DGet H2 a y (some v) ∧ Q v H2) : tDGet td ty σ H Q := h
theorem g_dget2 (h : td σ H fun x H1 => ∃ a, x = .ref a ∧ IsD H1 a ∧ ty σ H1 fun y H2 => tx σ H2 fun z H3 => ∃ o, DGet H3 a y o ∧ Q (o.getD z) H3) : tDGet2 td ty tx σ H Q := h
theorem g_dput {a : L2.St → Hp → Prop} {b : VK} {c d : L2.St → Hp → Prop} (h : tv σ H fun v H1 => td σ H1 fun x H2 => ty σ H2 fun y H3 => ∃ p H4, x = .ref p ∧ DPut H3 p y v H4 ∧ a σ H4) : sDPut td ty tv ⟨a, b, c, d⟩ σ H := h
theorem g_keys {R : It → Hp → Prop} (h : td σ H fun x H1 => ∃ d o, x = .ref d ∧ ((∃ kvs, H1 d = some (.frz o (.dK kvs)) ∧ R (Itk d o kvs) H1) ∨ ∃ kvs, H1 d = some (.frz o (.dT kvs)) ∧ R (Itkt d o kvs) H1)) : iKeys td σ H R := h
theorem w_lcKeys {g : TG} {tt : TT} {te : TE} {vs : List Nat} {d : Addr} {o : Obj} {kvs : List (Key × V)} (hd0 : H d = some (.frz o (.dK kvs))) (Pv : Addr → Nat → Hp → Prop) (h0 : ∀ D, H D = none → Pv D 0 (upd H D (.lst []))) (hq : ∀ D i H', H D = none → Pv D i H' → H' d = some (.frz o (.dK kvs)))
    (hs : ∀ D i k v H', H D = none → kvs[i]? = some (k, v) → Pv D i H' → g (kV k) (wipe σ vs) H' fun σ2 H2 => wipe σ2 vs = wipe σ vs ∧ tt σ2 H2 fun b H3 =>
      if b = true then te σ2 H3 fun y H4 => ∃ acc, H4 D = some (.lst acc) ∧ acc.length < sizeLine ∧ Pv D (i + 1) (upd H4 D (.lst (acc ++ [y]))) else Pv D (i + 1) H3) (hd : ∀ D H', H D = none → Pv D kvs.length H' → Q (.ref D) H') :
    ∃ p o', V.ref d = .ref p ∧ ((∃ kvs, H p = some (.frz o' (.dK kvs)) ∧ LcEnd g tt te vs σ Q (Itk p o' kvs) H) ∨ ∃ kvs, H p = some (.frz o' (.dT kvs)) ∧ LcEnd g tt te vs σ Q (Itkt p o' kvs) H) := by
  refine ⟨d, o, rfl, .inl ⟨kvs, hd0, fun D hD => ?_⟩⟩
  refine ⟨fun i m H' => m = kvs.length - i ∧ i ≤ kvs.length ∧ Pv D i H', ⟨kvs.length, by simp, Nat.zero_le _, h0 D hD⟩, ?_⟩
  rintro i m H' ⟨rfl, hi, pv⟩
  have q := hq D i H' hD pv
  by_cases hlt : i < kvs.length
  · refine .inr ⟨⟨q, hlt⟩, Pv D (i + 1), fun H' p' => ⟨kvs.length - (i + 1), by omega, rfl, hlt, p'⟩, fun x H'' y => ?_⟩
    obtain ⟨rfl, k, v, e, rfl⟩ := y
    exact hs D i k v _ hD e pv
  · have e : i = kvs.length := by omega
    subst e
    exact .inl ⟨⟨q, Nat.le_refl _⟩, hd D H' hD pv⟩
/-- all but dicts stays -/
def KD (H H' : Hp) : Prop := ∀ b o, H b = some o → (∀ kvs, o ≠ .dK kvs) → H' b = some o
theorem KD.of {H H' : Hp} (e : Same H H') : KD H H' := fun b o h _ => e b o h
theorem KD.trans {H H1 H2 : Hp} (a : KD H H1) (b : KD H1 H2) : KD H H2 := fun c o h n => b c o (a c o h n) n
theorem KD.put {H H' : Hp} {E : Addr} {kvs : List (Key × V)} (h : H E = some (.dK kvs)) (f : Frm E H H') : KD H H' := fun b o e n => f b o (fun z => by rw [z, h] at e; cases e; exact n _ rfl) e
theorem KD.tup {H H' : Hp} {a : Addr} {xs : List V} (e : KD H H') (h : H a = some (.tup xs)) : H' a = some (.tup xs) := e _ _ h (fun _ z => nomatch z)
theorem KD.lst {H H' : Hp} {a : Addr} {xs : List V} (e : KD H H') (h : H a = some (.lst xs)) : H' a = some (.lst xs) := e _ _ h (fun _ z => nomatch z)
theorem KD.tabs {H H' : Hp} {T : List (Addr × Str)} (e : KD H H') (t : LamX.Tabs T H) : LamX.Tabs T H' := fun p hp => by
  obtain ⟨ps, h1, h2, h3⟩ := t p hp
  refine ⟨ps, e _ _ h1 (fun _ z => nomatch z), h2, fun pos cv hc => ?_⟩
  obtain ⟨c', e1, e2⟩ := h3 pos cv hc
  exact ⟨c', e1, e _ _ e2 (fun _ z => nomatch z)⟩
theorem same_unlock {E : Addr} {H H' : Hp} {u : HO} (h : H E = some u) (f : Frm E H H') : Same H (upd H' E u) := fun b o e => by
  by_cases c : b = E
  · rw [c, upd_same, ← h, ← c, e]
  · rw [upd_ne c]; exact f b o c e
end
theorem WkL.kd {H H' : Hp} {L : Addr} {zs : List Wk} (w : WkL H L zs) (e : KD H H') : WkL H' L zs := ⟨e.lst w.at_, fun z hz => e.tup (w.own z hz)⟩
theorem WkL.ext {H H' : Hp} {L : Addr} {zs : List Wk} (w : WkL H L zs) (e : LamX.ExtN H H') : WkL H' L zs := ⟨e _ _ w.at_ (fun _ z => nomatch z), fun z hz => e _ _ (w.own z hz) (fun _ z => nomatch z)⟩
theorem RowsL.kd {H0 H H' : Hp} {A : Addr} {rs : List (Addr × List Nat)} (t : RowsL H0 H A rs) (e : KD H H') : RowsL H0 H' A rs := ⟨e.lst t.at_, fun r hr => ⟨e.lst (t.own r hr).1, (t.own r hr).2⟩⟩
theorem RowsL.ext {H0 H H' : Hp} {A : Addr} {rs : List (Addr × List Nat)} (t : RowsL H0 H A rs) (e : LamX.ExtN H H') : RowsL H0 H' A rs := ⟨e _ _ t.at_ (fun _ z => nomatch z), fun r hr => ⟨e _ _ (t.own r hr).1 (fun _ z => nomatch z), (t.own r hr).2⟩⟩
/-! ### what the law's dict holds -/
def evK (ps : List (Nat × Addr)) : List (Key × V) := ps.map fun p => (Sum.inl (p.1 : Int), V.ref p.2)
/-- the levels of p at a, apart from S -/
structure LvS (lo hi : Int) (ws : List (Int × Int)) (S : Addr) (H : Hp) (p : Nat) (a : Addr) : Prop where
  ex : ∃ H0 rs, RowsL H0 H a rs ∧ rs.map (·.2) = levels lo hi ws p ∧ a ≠ S ∧ ∀ r ∈ rs, r.1 ≠ S
theorem LvS.kd {lo hi : Int} {ws : List (Int × Int)} {S : Addr} {H H' : Hp} {p : Nat} {a : Addr} (t : LvS lo hi ws S H p a) (e : KD H H') : LvS lo hi ws S H' p a := by
  obtain ⟨H0, rs, h1, h2⟩ := t.ex
  exact ⟨H0, rs, h1.kd e, h2⟩
theorem LvS.ext {lo hi : Int} {ws : List (Int × Int)} {S : Addr} {H H' : Hp} {p : Nat} {a : Addr} (t : LvS lo hi ws S H p a) (e : LamX.ExtN H H') : LvS lo hi ws S H' p a := by
  obtain ⟨H0, rs, h1, h2⟩ := t.ex
  exact ⟨H0, rs, h1.ext e, h2⟩
theorem LvS.frm {lo hi : Int} {ws : List (Int × Int)} {S : Addr} {H H' : Hp} {p : Nat} {a : Addr} (t : LvS lo hi ws S H p a) (f : Frm S H H') : LvS lo hi ws S H' p a := by
  obtain ⟨H0, rs, h1, h2, h3, h4⟩ := t.ex
  exact ⟨H0, rs, h1.frm f h3 h4, h2, h3, h4⟩
structure EvL (lo hi : Int) (ws : List (Int × Int)) (S : Addr) (H : Hp) (E : Addr) (ps : List (Nat × Addr)) : Prop where
  at_ : H E = some (.dK (evK ps))
  nS : E ≠ S
  own : ∀ p ∈ ps, LvS lo hi ws S H p.1 p.2
theorem EvL.same {lo hi : Int} {ws : List (Int × Int)} {S : Addr} {H H' : Hp} {E : Addr} {ps : List (Nat × Addr)} (t : EvL lo hi ws S H E ps) (e : Same H H') : EvL lo hi ws S H' E ps := ⟨e _ _ t.at_, t.nS, fun p hp => (t.own p hp).kd (.of e)⟩
theorem EvL.ext {lo hi : Int} {ws : List (Int × Int)} {S : Addr} {H H' : Hp} {E : Addr} {ps : List (Nat × Addr)} (t : EvL lo hi ws S H E ps) (e : LamX.ExtN H H') : EvL lo hi ws S H' E ps := ⟨e _ _ t.at_ (fun _ z => nomatch z), t.nS, fun p hp => (t.own p hp).ext e⟩
theorem EvL.frm {lo hi : Int} {ws : List (Int × Int)} {S : Addr} {H H' : Hp} {E : Addr} {ps : List (Nat × Addr)} (t : EvL lo hi ws S H E ps) (e : Frm S H H') : EvL lo hi ws S H' E ps := ⟨e _ _ t.nS t.at_, t.nS, fun p hp => (t.own p hp).frm e⟩
theorem ev_none : ∀ (ps : List (Nat × Addr)) (z : Int), (∀ p : Nat, p ∈ ps.map (·.1) → (p : Int) ≠ z) → valV (evK ps) (Sum.inl z) = none
  | [], _, _ => rfl
  | p :: ps, z, h => by
    have h1 : ¬ (Sum.inl (p.1 : Int) : Key) = Sum.inl z := fun e => h p.1 (by simp) (Sum.inl.inj e)
    show valV ((Sum.inl (p.1 : Int), V.ref p.2) :: evK ps) _ = none
    rw [valV_neg h1]
    exact ev_none ps z fun q hq => h q (by simp at hq ⊢; exact .inr hq)
theorem ev_some : ∀ (ps : List (Nat × Addr)) (p : Nat), p ∈ ps.map (·.1) → ∃ a, (p, a) ∈ ps ∧ valV (evK ps) (Sum.inl (p : Int)) = some (.ref a)
  | [], _, h => nomatch h
  | q :: ps, p, h => by
    by_cases e : q.1 = p
    · subst e
      exact ⟨q.2, List.mem_cons_self, valV_pos (p := (Sum.inl (q.1 : Int), V.ref q.2)) rfl⟩
    · have h1 : ¬ (Sum.inl (q.1 : Int) : Key) = Sum.inl (p : Int) := fun z => e (by have := Sum.inl.inj z; omega)
      have h2 : p ∈ ps.map (·.1) := by
        rw [List.map_cons, List.mem_cons] at h
        rcases h with h | h
        · exact absurd h.symm e
        · exact h
      obtain ⟨a, ha, hv⟩ := ev_some ps p h2
      refine ⟨a, List.mem_cons_of_mem _ ha, ?_⟩
      show valV ((Sum.inl (q.1 : Int), V.ref q.2) :: evK ps) _ = _
      rw [valV_neg h1]; exact hv
theorem ev_put {ps : List (Nat × Addr)} {p : Nat} {a : Addr} (h : ∀ q : Nat, q ∈ ps.map (·.1) → q < p) : putK (evK ps) (Sum.inl (p : Int)) (.ref a) = evK (ps ++ [(p, a)]) := by
  have hn := ev_none ps p (fun q hq => by have := h q hq; omega)
  unfold putK
  rw [valV_any, hn]
  show evK ps ++ [_] = _
  unfold evK
  rw [List.map_append]; rfl
/-- what due holds -/
def dueV (lo hi : Int) (ws : List (Int × Int)) (S : Addr) (H : Hp) (z : Int) (v : V) : Prop := (∃ (p : Nat) (a : Addr), z = p ∧ p ∈ firsts lo hi ws ∧ v = .ref a ∧ LvS lo hi ws S H p a) ∨ ((∀ p ∈ firsts lo hi ws, (p : Int) ≠ z) ∧ v = .str "NoPlace")
theorem okd_rows {rs : List (List Nat)} (h : rs.length ≤ 100) (h2 : ∀ r ∈ rs, r.length ≤ 100) : OkD 2 (rowsD rs) := .lst (by rw [List.length_map]; omega) (fun d hd => by
  obtain ⟨r, hr, rfl⟩ := List.mem_map.mp hd
  have := h2 r hr
  exact .lst (by rw [List.length_map]; omega) (fun d hd => by
    obtain ⟨n, _, rfl⟩ := List.mem_map.mp hd
    exact .int _))
section
variable {lo hi : Int} {ws : List (Int × Int)}
theorem levs_len : ∀ (n : Nat) (l : List Nat), (levs lo hi ws n l).length ≤ n
  | 0, _ => Nat.zero_le _
  | n + 1, l => by
    unfold levs
    split
    · exact Nat.zero_le _
    · rw [List.length_cons]; have := levs_len n (lev lo hi ws l); omega
theorem levs_row : ∀ (n : Nat) (l : List Nat), l.length ≤ 1 ∨ l.length ≤ ws.length → ∀ r ∈ levs lo hi ws n l, r.length ≤ 1 ∨ r.length ≤ ws.length
  | 0, _, _, r, hr => by cases hr
  | n + 1, l, h, r, hr => by
    unfold levs at hr
    split at hr
    · cases hr
    · rw [List.mem_cons] at hr
      rcases hr with rfl | hr
      · exact h
      · exact levs_row n _ (.inr (lev_len l)) r hr
theorem levels_head (f : Nat) : ∃ rest, levels lo hi ws f = [f] :: rest := ⟨_, rfl⟩
end
theorem g_kind {K : PySem.W.Frag} {CD : Addr} {cs : List Addr} {tl : XK → Hp → VK → Prop} {H : Hp} {Q : VK} (h : tl (EKind K CD cs Q) H Q) : TKind K CD cs tl H Q := h
theorem dueV.kd {lo hi : Int} {ws : List (Int × Int)} {S : Addr} {H H' : Hp} {z : Int} {v : V} (h : dueV lo hi ws S H z v) (e : KD H H') : dueV lo hi ws S H' z v := by
  rcases h with ⟨p, a, h1, h2, h3, h4⟩ | h
  · exact .inl ⟨p, a, h1, h2, h3, h4.kd e⟩
  · exact .inr h
theorem dueV.ext {lo hi : Int} {ws : List (Int × Int)} {S : Addr} {H H' : Hp} {z : Int} {v : V} (h : dueV lo hi ws S H z v) (e : LamX.ExtN H H') : dueV lo hi ws S H' z v := by
  rcases h with ⟨p, a, h1, h2, h3, h4⟩ | h
  · exact .inl ⟨p, a, h1, h2, h3, h4.ext e⟩
  · exact .inr h
theorem WkS.kd {S : Addr} {H H' : Hp} {L : Addr} {zs : List Wk} (t : WkS S H L zs) (e : KD H H') : WkS S H' L zs := ⟨e.lst t.at_, t.nS, fun z hz => ⟨e.tup (t.own z hz).1, (t.own z hz).2⟩⟩
theorem WkS.ext {S : Addr} {H H' : Hp} {L : Addr} {zs : List Wk} (t : WkS S H L zs) (e : LamX.ExtN H H') : WkS S H' L zs := ⟨e _ _ t.at_ (fun _ z => nomatch z), t.nS, fun z hz => ⟨e _ _ (t.own z hz).1 (fun _ z => nomatch z), (t.own z hz).2⟩⟩
def lamQ : Str := "law.<locals>.<lambda>"
/-- what stands through a turn of the law -/
structure Bn (K : PySem.W.Frag) (B : Hp) (S L W EV Pt : Addr) (lo hi : Int) (zs : List Wk) (ws : List (Int × Int)) (ps : List (Nat × Addr)) (H : Hp) : Prop where
  wk : WkS S H L zs
  w : H W = some (.tup [.int lo, .int hi])
  nW : W ≠ S
  d : Dst K (noT B) H S
  tb : LamX.Tabs [(Pt, lamQ)] H
  ev : EvL lo hi ws S H EV ps
section
variable {K : PySem.W.Frag} {B : Hp} {S L W EV Pt : Addr} {lo hi : Int} {zs : List Wk} {ws : List (Int × Int)} {ps : List (Nat × Addr)} {H H' : Hp}
theorem Bn.same (b : Bn K B S L W EV Pt lo hi zs ws ps H) (e : Same H H') : Bn K B S L W EV Pt lo hi zs ws ps H' := ⟨b.wk.frm (.of e), e _ _ b.w, b.nW, b.d.same e, tabs_same b.tb e, b.ev.same e⟩
theorem Bn.ext (b : Bn K B S L W EV Pt lo hi zs ws ps H) (e : LamX.ExtN H H') (tb : LamX.Tabs [(Pt, lamQ)] H') : Bn K B S L W EV Pt lo hi zs ws ps H' := ⟨b.wk.ext e, e _ _ b.w (fun _ z => nomatch z), b.nW, b.d.ext e, tb, b.ev.ext e⟩
theorem Bn.frm (b : Bn K B S L W EV Pt lo hi zs ws ps H) (f : Frm S H H') (d : Dst K (noT B) H' S) : Bn K B S L W EV Pt lo hi zs ws ps H' := ⟨b.wk.frm f, f _ _ b.nW b.w, b.nW, d, tabs_frm b.tb b.d f, b.ev.frm f⟩
end
section
variable {σ : L2.St} {H : Hp} {Q : VK}
theorem g_lstRg {te : L2.St → Hp → (Int → Int → Hp → Prop) → Prop} (h : te σ H fun a b H1 => RgOk a b ∧ ∀ q, H1 q = none → Q (.ref q) (upd H1 q (.lst (rgV a b)))) : tLstRg te σ H Q := h
theorem g_rg2 {ta tb : TE} {QR : Int → Int → Hp → Prop} (h : ta σ H fun x H1 => tb σ H1 fun y H2 => ∃ i j, x = .int i ∧ y = .int j ∧ QR i j H2) : tRg2 ta tb σ H QR := h
end
theorem rg_int {a b : Int} {x : V} (h : x ∈ rgV a b) : ∃ z : Int, x = .int z := by
  unfold rgV at h
  obtain ⟨i, _, rfl⟩ := List.mem_map.mp h
  exact ⟨_, rfl⟩
section
variable {P : Program} {w : World} {K : PySem.W.Frag} {mg : Str → Option Value} {base : Heap} {CN : Addr}
abbrev s_law : Stmt := top 38
theorem sc_law : FnScope ["_law_script", "_law_state", "_law_turn", "_law_works_here", "_law_window", "_law_every", "_law_place", "_law_due", "_law_again", "_law_found", "_law_many", "_law_closed"] ["_law_script"] (C8.fnScope s_law) := C8.fnScope_by (by decide +kernel)
def sp_law (K : PySem.W.Frag) (Pt : Addr) : Sp := fun vs H Q _ => ∃ (sc : Addr) (ns : List Int), vs = [.ref sc] ∧ SqL K H sc (ns.map V.int) ∧ ns.length ≤ 63 ∧ H Pt = some (.tbl #[]) ∧ ∀ H', Q (.bl true) H'
theorem ok_law (T : TxtW K mg CN) {CD : Addr} {cs : List Addr} (R : Refs K mg CD cs) (RN : IsRef K CD cs 5 CN) {c Pt : Addr} (TB : LamX.TabB base mg c Pt)
    {f fk : Addr} {fdk : FuncData} {dV kV doc pm ct oc : Value} {an od : Option Addr} {osl : Array (Option Value)}
    (lk : K.lookup f = some ⟨oc, od, .func (PySem.W.fnOf "law" "law" (C8.fnArgs s_law) (C8.fnBody s_law) (C8.fnScope s_law) dV kV doc pm an (.ref c) ct), osl⟩) (hcd : PySem.W.codeIn K (.ref c) "law" = true)
    (Dk : C8.Def K mg "_law_kind" s_law_kind fk fdk) (bk : Binds K fdk ["_law_work"] [])
    (g_law_start : C8.Cal P w K mg base 1 "_law_start" (sp_start K) []) (g_law_works : C8.Cal P w K mg base 2 "_law_works" (sp_works K) []) (g_law_wide : C8.Cal P w K mg base 2 "_law_wide" (sp_wide K) [])
    (g_law_gap : C8.Cal P w K mg base 1 "_law_gap" (sp_gap K) []) (g_law_in : C8.Cal P w K mg base 1 "_law_in" (sp_in K) []) (g_law_levels : C8.Cal P w K mg base 2 "_law_levels" (sp_levelsL K) []) (g_law_closes : C8.Cal P w K mg base 2 "_law_closes" (sp_closes K) []) (g_law_far : C8.Cal P w K mg base 2 "_law_far" (sp_far K) [])
    (g_law_same : C8.Cal P w K mg base 3 "_law_same" (sp_same K 3) []) (g_levels_from : CalX P w K mg base 6 "levels_from" (sp_from K CN)) (g_shown : C8.Cal P w K mg base 6 "shown" (sp_shown K CN) []) :
    FnOk P w K mg base C8.CX0 10 f (PySem.W.fnOf "law" "law" (C8.fnArgs s_law) (C8.fnBody s_law) (C8.fnScope s_law) dV kV doc pm an (.ref c) ct) ["_law_script"] (sp_law K Pt) := by
  refine fn_code lk hcd sc_law (fun vs H Q E h => ?_) fun A outer s H vs Q E hr h => ?_
  · obtain ⟨sc, ns, rfl, _⟩ := h; rfl
  · obtain ⟨sc, ns, rfl, hsc, hl, hT, q⟩ := h
    have nd := sc_law.nd
    obtain ⟨oc', od', dV', kV', doc', pm', an', cdv', ct', osl', rfl, lkk, hck⟩ := Dk.fn.ex
    refine ⟨_, (pss_cons (ps_set (i := 1) nd rfl (Or.inl rfl) (C8.pe_c g_law_start hr (by first | decide | exact Nat.le_refl _ | omega) (by rfl) (pa_cons (pv 0) pa_nil)))
      (pss_cons (ps_for PassesOwn.never rfl (pi_range1 rfl T.n_range (pa_cons pe_int pa_nil)) (pg_name (i := 2) nd rfl (Or.inl rfl)) (pss_cons (ps_set (i := 3) nd rfl (Or.inr rfl) (C8.pe_c g_law_works hr (by first | decide | exact Nat.le_refl _ | omega) (by rfl) (pa_cons (pv 1) pa_nil)))
      (pss_cons (ps_set (i := 4) nd rfl (Or.inr rfl) (C8.pe_c g_law_wide hr (by first | decide | exact Nat.le_refl _ | omega) (by rfl) (pa_cons (pv 1) (pa_cons (pv 3) pa_nil))))
      (pss_cons (ps_set (i := 5) nd rfl (Or.inr rfl) pe_dnewK)
      (pss_cons (ps_for PassesOwn.never rfl (pi_range1 rfl T.n_range (pa_cons (pe_callB (r := Wd.rLen K) call_len1 (by rfl) T.n_len PySem.boot_len (pa_cons (pv 3) pa_nil)) pa_nil)) (pg_name (i := 6) nd rfl (Or.inr rfl)) (pss_one (ps_if (pt_val (C8.pe_c g_law_in hr (by first | decide | exact Nat.le_refl _ | omega) (by rfl) (pa_cons (pv 4) (pa_cons (C8.pe_c g_law_gap hr (by first | decide | exact Nat.le_refl _ | omega) (by rfl) (pa_cons (pv 3) (pa_cons (pe_op op_sub pe_int pe_int) (pa_cons (pv 6) pa_nil)))) pa_nil)))) (pss_one (ps_dput (Nat.lt_of_le_of_lt (Nat.add_le_add_left (by decide) _) hr.units) (pv 5) (pv 6) (C8.pe_c g_law_levels hr (by first | decide | exact Nat.le_refl _ | omega) (by rfl) (pa_cons (pv 4) (pa_cons (pv 3) (pa_cons (pv 6) pa_nil)))) rfl)) pss_nil)))
      (pss_cons (ps_for PassesOwn.never rfl (pi_list (pe_op op_cat (pe_listRg rfl (by rfl) T.n_list (prg_2 (by rfl) T.n_range (pe_op op_sub pe_int pe_int) (pe_op op_add (pe_callB (r := Wd.rLen K) call_len1 (by rfl) T.n_len PySem.boot_len (pa_cons (pv 3) pa_nil)) pe_int))) (pe_lst (pa_cons (C8.pe_c g_law_far hr (by first | decide | exact Nat.le_refl _ | omega) (by rfl) (pa_cons (pv 1) (pa_cons pe_int pa_nil))) pa_nil)))) (pg_name (i := 6) nd rfl (Or.inr rfl)) (pss_cons (ps_set (i := 7) nd rfl (Or.inl rfl) (pe_dget2 (Nat.lt_of_le_of_lt (Nat.add_le_add_left (by decide) _) hr.units) (pv 5) (pv 6) pe_str ⟨by rfl, by rfl, by rfl, by rfl⟩))
      (pss_one (ps_for PassesOwn.never rfl (pi_range1 rfl T.n_range (pa_cons pe_int pa_nil)) (pg_name (i := 8) nd rfl (Or.inl rfl)) (pss_cons (ps_set (i := 9) nd rfl (Or.inl rfl) (LamX.pe_lamcall (k := 7) (T := [(Pt, lamQ)]) (TT := TKind K CD cs) (by rfl) Dk.mgf Dk.kp lkk hck bk sc_law_kind rfl (Or.inl rfl) (kind_gives R) TB rfl (List.mem_singleton.mpr rfl) (fun p hp _ => by rw [List.mem_singleton.mp hp]; rfl) hr (LamX.lamS_by (show LamX.lamSB (C8.fnScope s_law) _ = true by decide +kernel)) rfl (fun _ _ _ _ _ => rfl) (fun A outer s H E f c' hr2 => (pe_cX g_levels_from hr2 (by first | decide | exact Nat.le_refl _ | omega) (by rfl) (fun σ => passAt (takes_of rfl rfl rfl rfl) σ) (pa_cons (pv 4) (pa_cons (pv 3) (pa_cons (pv 6) pa_nil)))))))
      (pss_cons (ps_if (pt_not (pt_val (C8.pe_c g_law_same hr (by first | decide | exact Nat.le_refl _ | omega) (by rfl) (pa_cons (pv 9) (pa_cons (pv 7) pa_nil))))) (pss_one (ps_ret pe_bl)) pss_nil)
      (pss_one (ps_if (pt_val (pe_callB (r := rIsi K) call_isi (by rfl) T.n_isinstance (by decide +kernel) (pa_cons (pv 9) (pa_cons (pe_bltn (v := .ty "list") (by rfl) T.n_list (by decide +kernel) rfl) pa_nil)))) (pss_one (ps_expr (pe_bmK (K := K) rfl PySem.F.plainAttrs_list PySem.F.slot_list_append PySem.F.type_list_append mt_append (pe_ix (r := rIx K) ix_seq (pv 9) pe_int (fun _ _ => rfl)) (pa_cons pe_int pa_nil)))) pss_nil))))))))
      (pss_one (ps_for PassesOwn.never rfl (pi_list (pe_op op_cat (pe_listRg rfl (by rfl) T.n_list (prg_2 (by rfl) T.n_range (pe_op op_sub pe_int pe_int) pe_int)) (pe_lst (pa_cons (C8.pe_c g_law_far hr (by first | decide | exact Nat.le_refl _ | omega) (by rfl) (pa_cons (pv 1) (pa_cons pe_int pa_nil))) pa_nil)))) (pg_name (i := 10) nd rfl (Or.inr rfl)) (pss_cons (ps_lock (ps_setLc (i := 11) (own := [("_law_place", 6)]) (g := gName 6) rfl nd rfl rfl (sw_true rfl rfl rfl (by decide +kernel)) (pi_keys (pv 5)) (blkOk_by (N := ["_law_script", "_law_state", "_law_turn", "_law_works_here", "_law_window", "_law_every", "_law_place", "_law_due", "_law_again", "_law_found", "_law_many", "_law_closed"]) (sc := C8.fnScope s_law) (by decide +kernel)) (fun _ _ _ _ _ => pg_name (i := 6) nd rfl (Or.inl rfl)) (fun _ _ _ _ _ => pts_one (pt_val (C8.pe_c g_law_closes hr (by first | decide | exact Nat.le_refl _ | omega) (by rfl) (pa_cons (pv 4) (pa_cons (pv 3) (pa_cons (pe_dget (Nat.lt_of_le_of_lt (Nat.add_le_add_left (by decide) _) hr.units) (pv 5) (pv 6) (fun _ _ => rfl)) (pa_cons (pv 10) pa_nil))))))) (fun _ _ _ _ _ => (pv 6))))
      (pss_one (ps_if (pt_not (pt_val (C8.pe_c g_law_same hr (by first | decide | exact Nat.le_refl _ | omega) (by rfl) (pa_cons (C8.pe_c g_shown hr (by first | decide | exact Nat.le_refl _ | omega) (by rfl) (pa_cons (pv 4) (pa_cons (pv 3) (pa_cons (pv 10) pa_nil)))) (pa_cons (pe_cmpR (r := rEqD K) (op_eqD hr.units) (pv 11) (pe_lst pa_nil) (nomark _)) pa_nil))))) (pss_one (ps_ret pe_bl)) pss_nil)))))))))))
      (pss_one (ps_ret pe_bl)))), ?_⟩
    walk_at "go"
    refine ⟨noT H, sc, ns, rfl, noT_list hsc, noT_same H, hl, fun H1 S nS s1 d1 => ?_⟩
    have tb1 : LamX.Tabs [(Pt, lamQ)] H1 := fun p hp => by
      rw [List.mem_singleton.mp hp]
      exact .nil (s1 _ _ hT)
    walk_at "go"
    refine w_range (by decide) (by decide) (fun i σ H' => ∃ v2 v3 v4 v5 v6 v7 v8 v9 v10 v11 : Option V, σ = [some (.ref sc), some (.ref S), v2, v3, v4, v5, v6, v7, v8, v9, v10, v11] ∧ Dst K (noT H) H' S ∧ LamX.Tabs [(Pt, lamQ)] H') ?_ ?_ ?_
    · exact ⟨_, _, _, _, _, _, _, _, _, _, rfl, d1, tb1⟩
    · clear d1 tb1
      rintro i σ H0 hi' ⟨v2, v3, v4, v5, v6, v7, v8, v9, v10, v11, rfl, d, tb⟩
      walk_at "go"
      refine ⟨_, S, rfl, d, fun H2 L zs f2 d2 ws2 okz ne ln => ?_⟩
      have tb2 := tabs_frm tb d f2
      walk_at "go"
      refine ⟨_, S, L, zs, rfl, d2, ws2, okz, ne, ln, fun H3 W lo hi f3 d3 hW nW okw => ?_⟩
      have tb3 := tabs_frm tb2 d2 f3
      have wk3 := ws2.frm f3
      clear ws2 f2 f3 d2 tb2 tb d
      generalize hws : zs.map (·.2) = ws
      have wl : ws.length = zs.length := by rw [← hws, List.length_map]
      have zp : 0 < zs.length := List.length_pos_iff.mpr ne
      walk_at "go"
      intro EV hEV
      have nES := d3.ne hEV
      have s4 := same_new (o := .dK []) hEV
      have e4 : EvL lo hi ws S (upd H3 EV (.dK [])) EV [] := ⟨upd_same, nES, fun p hp => nomatch hp⟩
      have d4 := d3.same s4
      have wk4 := wk3.frm (.of s4)
      have hW4 := s4 _ _ hW
      have tb4 := tabs_same tb3 s4
      have bEV := d3.fresh hEV
      generalize upd H3 EV (.dK []) = H4 at s4 e4 d4 wk4 hW4 tb4
      clear s4 d3 wk3 hW tb3 hEV
      walk_at "go"
      refine g_len (.inl (SqL.of wk4.at_)) ?_
      walk_at "go"
      rw [List.length_map]
      have firstD : ∀ p : Nat, decide (lo ≤ sumA (gapA ws 0 p) ∧ sumB (gapA ws 0 p) ≤ hi) = tim lo hi (ws.take (p + 1)) := fun p => by rw [gapA_0]; rfl
      refine w_range (by omega) (by omega) (fun j σ H' => ∃ (ps : List (Nat × Addr)) (v6 : Option V), σ = [some (.ref sc), some (.ref S), some (.int i), some (.ref L), some (.ref W), some (.ref EV), v6, v7, v8, v9, v10, v11] ∧ KD H4 H' ∧ EvL lo hi ws S H' EV ps ∧ Dst K (noT H) H' S ∧ ps.map (·.1) = (ups 0 j).filter fun p => tim lo hi (ws.take (p + 1))) ?_ ?_ ?_
      · exact ⟨[], _, rfl, .of (fun _ _ h => h), e4, d4, rfl⟩
      · clear e4 d4
        rintro j σ H5 hj ⟨ps, v6, rfl, k5, e5, d5, eps⟩
        have jl : j < zs.length := by omega
        have wk5 := wk4.wk.kd k5
        have hW5 := k5.tup hW4
        have plen : ps.length ≤ 100 := by
          have h1 := congrArg List.length eps
          have h2 := List.length_filter_le (fun p => tim lo hi (ws.take (p + 1))) (ups 0 j)
          rw [ups_len] at h2
          rw [List.length_map] at h1
          omega
        have ex : (ups 0 (j + 1)).filter (fun p => tim lo hi (ws.take (p + 1))) = _ := filter_snoc (fun p => tim lo hi (ws.take (p + 1))) (ups 0 j) (0 + j)
        rw [Nat.zero_add] at ex
        walk_at "go"
        refine use_gap (a := 0) rfl (by decide) wk5 ln jl (Nat.zero_le _) fun H6 t s6 et => ?_
        rw [hws] at et
        walk_at "go"
        refine ⟨W, t, lo, hi, _, _, rfl, SqT.of (s6 _ _ hW5), SqT.of et, ?_⟩
        rw [firstD]
        refine ⟨_, rfl, ?_⟩
        have k6 := k5.trans (.of s6)
        have e6 := e5.same s6
        have d6 := d5.same s6
        cases hc : tim lo hi (ws.take (j + 1)) with
        | false =>
          rw [hc, if_neg (by decide), List.append_nil] at ex
          walk_at "go"
          exact ⟨ps, _, rfl, k6, e6, d6, by rw [ex]; exact eps⟩
        | true =>
          rw [if_pos hc] at ex
          refine L2.iteT ?_
          refine g_dput ?_
          walk_at "go"
          refine ⟨W, L, lo, hi, zs, j, rfl, SqT.of (k6.tup hW4), wk4.wk.kd k6, ln, jl, fun H7 TT rs s7 hTT rl er => ?_⟩
          rw [hws] at er
          have e7 := e6.same s7
          walk_at "go"
          refine ⟨EV, _, rfl, DPut.k (k := Sum.inl (j : Int)) e7.at_ (by rw [sizeLine_eq]; unfold evK; rw [List.length_map]; omega), ?_⟩
          have eput : putK (evK ps) (Sum.inl (j : Int)) (.ref TT) = evK (ps ++ [(j, TT)]) := ev_put fun q hq => by
            rw [eps, List.mem_filter, ups_mem] at hq
            omega
          rw [eput]
          have kp : KD H7 (upd H7 EV (.dK (evK (ps ++ [(j, TT)])))) := .put e7.at_ .set
          refine ⟨ps ++ [(j, TT)], _, rfl, (k6.trans (.of s7)).trans kp, ⟨upd_same, nES, fun p hp => ?_⟩, (d6.same s7).mut nES bEV, ?_⟩
          · rw [List.mem_append, List.mem_singleton] at hp
            rcases hp with hp | rfl
            · exact (e7.own p hp).kd kp
            · exact ⟨H6, rs, rl.kd kp, er, d6.ne hTT, fun r hr => d6.ne (rl.own r hr).2⟩
          · rw [List.map_append, eps, ex]; rfl
      clear e4 d4
      rintro σ H5 ⟨ps, v6, rfl, k5, e5, d5, eps⟩
      have et : ((zs.length : Nat) : Int).toNat = ws.length := by omega
      rw [et] at eps
      have epf : ps.map (·.1) = firsts lo hi ws := eps
      have plen : ps.length ≤ 10 := by
        have h1 := congrArg List.length epf
        have h2 := List.length_filter_le (fun p => tim lo hi (ws.take (p + 1))) (ups 0 ws.length)
        rw [ups_len] at h2
        rw [List.length_map] at h1
        unfold firsts at h1
        omega
      clear eps
      have bn : Bn K H S L W EV Pt lo hi zs ws ps H5 := ⟨wk4.kd k5, k5.tup hW4, nW, d5, k5.tabs tb4, e5⟩
      clear k5 e5 d5 wk4 hW4 tb4 et firstD H3 H4
      have lvlen : ∀ p, (levels lo hi ws p).length ≤ 11 := fun p => by
        have := levs_len (lo := lo) (hi := hi) (ws := ws) (ws.length + 1) [p]
        show (levs lo hi ws (ws.length + 1) [p]).length ≤ 11
        omega
      have lvrow : ∀ p, ∀ r ∈ levels lo hi ws p, r.length ≤ 100 := fun p r hr => by
        have := levs_row (lo := lo) (hi := hi) (ws := ws) (ws.length + 1) [p] (.inl (Nat.le_refl _)) r hr
        omega
      walk_at "go"
      refine g_lstRg (g_rg2 ?_)
      walk_at "go"
      refine g_len (.inl (SqL.of bn.wk.at_)) ?_
      walk_at "go"
      rw [List.length_map]
      refine ⟨_, _, rfl, rfl, ⟨by omega, by omega, by omega, by omega, by omega⟩, fun l1 hl1 => ?_⟩
      have s6 := same_new (o := .lst (rgV (0 - 1) ((zs.length : Int) + 1))) hl1
      have n1 := bn.d.ne hl1
      have bn6 := bn.same s6
      have e1 := upd_same (H := H5) (a := l1) (o := .lst (rgV (0 - 1) ((zs.length : Int) + 1)))
      have rgl : (rgV (0 - 1) ((zs.length : Int) + 1)).length ≤ 100 := by rw [rgV_length]; omega
      have rgi : ∀ x ∈ rgV (0 - 1) ((zs.length : Int) + 1), ∃ z : Int, x = .int z := fun x hx => rg_int hx
      generalize rgV (0 - 1) ((zs.length : Int) + 1) = xs0 at s6 bn6 e1 rgl rgi
      generalize upd H5 l1 (.lst xs0) = H6 at s6 bn6 e1
      clear s6 bn hl1 H5
      walk_at "go"
      refine ⟨_, S, 10, rfl, bn6.d, fun H7 fv f7 d7 _ => ?_⟩
      have bn7 := bn6.frm f7 d7
      have e17 := f7 _ _ n1 e1
      clear bn6 e1 f7 d7 H6
      walk_at "go"
      intro l2 hl2
      have s8 := same_new (o := .lst [.int fv]) hl2
      have bn8 := bn7.same s8
      have e18 := s8 _ _ e17
      have e28 := upd_same (H := H7) (a := l2) (o := .lst [.int fv])
      generalize upd H7 l2 (.lst [.int fv]) = H8 at s8 bn8 e18 e28
      clear s8 bn7 e17 hl2 H7
      walk_at "go"
      refine ⟨l1, l2, _, _, rfl, rfl, e18, e28, by rw [sizeLine_eq]; show xs0.length + 1 ≤ _; omega, fun l3 hl3 => ?_⟩
      have s9 := same_new (o := .lst (xs0 ++ [.int fv])) hl3
      have bn9 := bn8.same s9
      have e39 := upd_same (H := H8) (a := l3) (o := .lst (xs0 ++ [.int fv]))
      generalize upd H8 l3 (.lst (xs0 ++ [.int fv])) = H9 at s9 bn9 e39
      clear s9 bn8 e18 e28 hl3 H8 n1
      refine w_list (xs := xs0 ++ [.int fv]) (fun j σ H' => ∃ v6 v7 v8 v9 : Option V, σ = [some (.ref sc), some (.ref S), some (.int i), some (.ref L), some (.ref W), some (.ref EV), v6, v7, v8, v9, v10, v11] ∧ Bn K H S L W EV Pt lo hi zs ws ps H' ∧ H' l3 = some (.lst (xs0 ++ [.int fv]))) ?_ ?_ ?_ ?_
      · exact ⟨_, _, _, _, rfl, bn9, e39⟩
      · rintro j σ H' _ ⟨v6, v7, v8, v9, rfl, _, e⟩; exact SqL.of e
      · clear bn9 e39
        rintro j x σ H5 hx ⟨v6, v7, v8, v9, rfl, bn, e3⟩
        obtain ⟨z, rfl⟩ : ∃ z : Int, x = .int z := by
          have hm := List.mem_of_getElem? hx
          rw [List.mem_append, List.mem_singleton] at hm
          rcases hm with hm | rfl
          · exact rgi x hm
          · exact ⟨_, rfl⟩
        have du : dueV lo hi ws S H5 z ((valV (evK ps) (Sum.inl z)).getD (.str "NoPlace")) := by
          by_cases c : ∃ p ∈ firsts lo hi ws, (p : Int) = z
          · obtain ⟨p, hp, rfl⟩ := c
            obtain ⟨a, ha, hv⟩ := ev_some ps p (by rw [epf]; exact hp)
            rw [hv]
            exact .inl ⟨p, a, rfl, hp, rfl, bn.ev.own _ ha⟩
          · rw [ev_none ps z (fun p hp e => c ⟨p, by rw [← epf]; exact hp, e⟩)]
            exact .inr ⟨fun p hp e => c ⟨p, hp, e⟩, rfl⟩
        walk_at "go"
        refine g_dget2 ?_
        walk_at "go"
        refine ⟨EV, rfl, .inl ⟨_, .inl bn.ev.at_⟩, ?_⟩
        walk_at "go"
        refine ⟨_, DGet.k (k := Sum.inl z) bn.ev.at_, ?_⟩
        generalize (valV (evK ps) (Sum.inl z)).getD (.str "NoPlace") = dv at du
        walk_at "go"
        refine w_range (by decide) (by decide) (fun m σ H' => ∃ v8 v9 : Option V, σ = [some (.ref sc), some (.ref S), some (.int i), some (.ref L), some (.ref W), some (.ref EV), some (.int z), some dv, v8, v9, v10, v11] ∧ Bn K H S L W EV Pt lo hi zs ws ps H' ∧ H' l3 = some (.lst (xs0 ++ [.int fv])) ∧ dueV lo hi ws S H' z dv) ?_ ?_ ?_
        · exact ⟨_, _, rfl, bn, e3, du⟩
        · clear bn e3 du
          rintro m σ H6 hm ⟨v8, v9, rfl, bn, e3, du⟩
          walk_at "go"
          refine g_lam bn.tb fun H7 x7 tb7 => ?_
          have bn7 := bn.ext x7 tb7
          have e37 := x7 _ _ e3 (fun _ z => nomatch z)
          have du7 := du.ext x7
          clear bn e3 du x7 tb7
          refine g_kind ?_
          walk_at "go"
          refine ⟨W, L, lo, hi, zs, z, rfl, SqT.of bn7.w, okw, bn7.wk.wk, okz, ne, ln, fun p ez hp H8 TT rs s8 hTT rl er => ?_, fun hn H8 s8 => ?_⟩
          · rw [hws] at hp er
            rcases du7 with ⟨p', a, ez', hp', rfl, lv⟩ | ⟨hno, _⟩
            · have epp : p' = p := by omega
              subst epp
              have lv' := lv
              obtain ⟨Ha, ra, rla, era, _, _⟩ := lv
              have rla8 := rla.same s8
              have dT : Dp K H8 (.ref TT) (rowsD (levels lo hi ws p')) := by rw [← er]; exact rows_dp (SqL.of rl.at_) (fun r hr => SqL.of (rl.own r hr).1)
              have dA : Dp K H8 (.ref a) (rowsD (levels lo hi ws p')) := by rw [← era]; exact rows_dp (SqL.of rla8.at_) (fun r hr => SqL.of (rla8.own r hr).1)
              walk_at "go"
              refine use_same (n := 2) dT dA (okd_rows (by have := lvlen p'; omega) (lvrow p')) fun H9 s9 => ?_
              have rl9 := rl.same s9
              have s79 := s8.trans s9
              walk_at "go"
              refine g_isi (b := true) (.ty "list") (ty_list (SqL.of rl9.at_)) (kit_ty (by decide +kernel)) ?_
              walk_at "go"
              obtain ⟨rest, hrest⟩ := levels_head (lo := lo) (hi := hi) (ws := ws) p'
              obtain ⟨r0, rs', rfl⟩ : ∃ r0 rs', rs = r0 :: rs' := by
                cases rs with
                | nil => rw [hrest] at er; cases er
                | cons r0 rs' => exact ⟨r0, rs', rfl⟩
              have er0 : r0.2 = [p'] := by rw [hrest] at er; exact (List.cons.inj er).1
              have o0 := rl9.own r0 List.mem_cons_self
              refine .inl ⟨TT, _, 0, V.ref r0.1, rfl, rfl, SqL.of rl9.at_, at_of (j := 0) rfl rfl, ?_⟩
              refine g_tyL o0.1 ?_
              walk_at "go"
              refine g_append o0.1 (by rw [er0]; show 1 < 100000; decide) ?_
              walk_at "go"
              have sF : Same H7 (upd H9 r0.1 (.lst (r0.2.map nI ++ [.int 9]))) := Wd.Same.mut s79 o0.2
              exact ⟨_, _, rfl, bn7.same sF, sF _ _ e37, .inl ⟨p', a, ez', hp', rfl, lv'.kd (.of sF)⟩⟩
            · exact absurd ez.symm (hno p hp)
          · rw [hws] at hn
            rcases du7 with ⟨p', a, ez', hp', rfl, lv⟩ | ⟨hno, rfl⟩
            · exact absurd ez'.symm (hn p' hp')
            · refine ⟨5, CN, "NoPlace", rfl, rfl, RN, rfl, fun H9 s9 => ?_⟩
              have s89 := s8.trans s9
              walk_at "go"
              refine use_same (n := 2) (d := .str "NoPlace") (.str _) (.str _) (.str _) fun H10 s10 => ?_
              have sF := s89.trans s10
              walk_at "go"
              refine g_isi (b := false) (.ty "list") (.base (.str _)) (kit_ty (by decide +kernel)) ?_
              walk_at "go"
              exact ⟨_, _, rfl, bn7.same sF, sF _ _ e37, .inr ⟨hno, rfl⟩⟩
        · rintro σ H6 ⟨v8, v9, rfl, bn, e3, du⟩
          walk_at "go"
          exact ⟨_, _, _, _, rfl, bn, e3⟩
      clear bn9 e39 rgi rgl
      rintro σ H5 ⟨v6, v7, v8, v9, rfl, bn, e3⟩
      clear e3
      walk_at "go"
      refine g_lstRg (g_rg2 ?_)
      walk_at "go"
      refine ⟨_, _, rfl, rfl, ⟨by omega, by omega, by omega, by omega, by decide⟩, fun l1 hl1 => ?_⟩
      have s6 := same_new (o := .lst (rgV (0 - 2) 13)) hl1
      have n1 := bn.d.ne hl1
      have bn6 := bn.same s6
      have e1 := upd_same (H := H5) (a := l1) (o := .lst (rgV (0 - 2) 13))
      have rgl : (rgV (0 - 2) 13).length ≤ 100 := by rw [rgV_length]; decide
      have rgi : ∀ x ∈ rgV (0 - 2) 13, ∃ z : Int, x = .int z := fun x hx => rg_int hx
      generalize rgV (0 - 2) 13 = xs0 at s6 bn6 e1 rgl rgi
      generalize upd H5 l1 (.lst xs0) = H6 at s6 bn6 e1
      clear s6 bn hl1 H5
      walk_at "go"
      refine ⟨_, S, 12, rfl, bn6.d, fun H7 fv f7 d7 _ => ?_⟩
      have bn7 := bn6.frm f7 d7
      have e17 := f7 _ _ n1 e1
      clear bn6 e1 f7 d7 H6
      walk_at "go"
      intro l2 hl2
      have s8 := same_new (o := .lst [.int fv]) hl2
      have bn8 := bn7.same s8
      have e18 := s8 _ _ e17
      have e28 := upd_same (H := H7) (a := l2) (o := .lst [.int fv])
      generalize upd H7 l2 (.lst [.int fv]) = H8 at s8 bn8 e18 e28
      clear s8 bn7 e17 hl2 H7
      walk_at "go"
      refine ⟨l1, l2, _, _, rfl, rfl, e18, e28, by rw [sizeLine_eq]; show xs0.length + 1 ≤ _; omega, fun l3 hl3 => ?_⟩
      have s9 := same_new (o := .lst (xs0 ++ [.int fv])) hl3
      have bn9 := bn8.same s9
      have e39 := upd_same (H := H8) (a := l3) (o := .lst (xs0 ++ [.int fv]))
      generalize upd H8 l3 (.lst (xs0 ++ [.int fv])) = H9 at s9 bn9 e39
      clear s9 bn8 e18 e28 hl3 H8 n1
      refine w_list (xs := xs0 ++ [.int fv]) (fun j σ H' => ∃ v10 v11 : Option V, σ = [some (.ref sc), some (.ref S), some (.int i), some (.ref L), some (.ref W), some (.ref EV), v6, v7, v8, v9, v10, v11] ∧ Bn K H S L W EV Pt lo hi zs ws ps H' ∧ H' l3 = some (.lst (xs0 ++ [.int fv]))) ?_ ?_ ?_ ?_
      · exact ⟨_, _, rfl, bn9, e39⟩
      · rintro j σ H' _ ⟨v10, v11, rfl, _, e⟩; exact SqL.of e
      · clear bn9 e39
        rintro j x σ H5 hx ⟨v10, v11, rfl, bn, e3⟩
        obtain ⟨m, rfl⟩ : ∃ z : Int, x = .int z := by
          have hm := List.mem_of_getElem? hx
          rw [List.mem_append, List.mem_singleton] at hm
          rcases hm with hm | rfl
          · exact rgi x hm
          · exact ⟨_, rfl⟩
        walk_at "go"
        refine ⟨EV, .dK (evK ps), bn.ev.at_, trivial, fun od => ?_⟩
        have fL : Frm EV H5 (upd H5 EV (.frz od (.dK (evK ps)))) := .set
        have eL := upd_same (H := H5) (a := EV) (o := .frz od (.dK (evK ps)))
        have nL : ∀ {D : Addr}, upd H5 EV (.frz od (.dK (evK ps))) D = none → D ≠ EV := fun h z => by rw [z, upd_same] at h; cases h
        generalize upd H5 EV (.frz od (.dK (evK ps))) = HL at fL eL nL
        walk_at "go"
        refine g_keys ?_
        walk_at "go"
        refine w_lcKeys eL (fun D i H' => Frm EV H5 H' ∧ H' EV = some (.frz od (.dK (evK ps))) ∧ H' D = some (.lst (((((ps.take i).map (·.1)).filter fun f => backTo lo hi ws f ((levels lo hi ws f).take (looked m))).map fun y : Nat => (y : Int)).map V.int))) (fun D hD => ⟨fL.mut (fL.back (nL hD) hD), by rw [upd_ne (nL hD).symm]; exact eL, upd_same⟩) (fun D i H' hD h => h.2.1) (fun D i k v H' hD hk h => ?_) (fun D6 H6 hD6 h => ?_)
        · obtain ⟨f1, eE, eD⟩ := h
          obtain ⟨pa, hpa, hkv⟩ : ∃ pa, ps[i]? = some pa ∧ (k, v) = (Sum.inl (pa.1 : Int), V.ref pa.2) := by
            unfold evK at hk
            rw [List.getElem?_map] at hk
            cases hq : ps[i]? with
            | none => rw [hq] at hk; cases hk
            | some z => rw [hq] at hk; exact ⟨z, rfl, (Option.some.inj hk).symm⟩
          obtain ⟨p1, a1⟩ := pa
          obtain ⟨rfl, rfl⟩ : k = Sum.inl (p1 : Int) ∧ v = V.ref a1 := ⟨congrArg Prod.fst hkv, congrArg Prod.snd hkv⟩
          have pm : p1 ∈ ps.map (·.1) := List.mem_map.mpr ⟨_, List.mem_of_getElem? hpa, rfl⟩
          obtain ⟨a, ha, hv⟩ := ev_some ps p1 pm
          have pf : p1 < zs.length := by
            rw [epf] at pm
            have := (first_mem.mp pm).1
            omega
          have kd : KD H5 H' := .put bn.ev.at_ f1
          obtain ⟨Ha, ra, rla, era, _, _⟩ := ((bn.ev.own _ ha).kd kd).ex
          have era : ra.map (·.2) = levels lo hi ws p1 := era
          have il := (List.getElem?_eq_some_iff.mp hpa).1
          have ral : ra.length ≤ 100 := by
            have h1 := congrArg List.length era
            have h2 := lvlen p1
            rw [List.length_map] at h1
            omega
          have ex : ((ps.take i).map (·.1) ++ [p1]).filter (fun f => backTo lo hi ws f ((levels lo hi ws f).take (looked m))) = _ := filter_snoc (fun f => backTo lo hi ws f ((levels lo hi ws f).take (looked m))) ((ps.take i).map (·.1)) p1
          rw [← take_snocM (·.1) hpa] at ex
          have fl := List.length_filter_le (fun f => backTo lo hi ws f ((levels lo hi ws f).take (looked m))) ((ps.take i).map (·.1))
          have tl := List.length_take_le i ps
          walk_at "go"
          refine ⟨rfl, ?_⟩
          walk_at "go"
          refine g_dget ?_
          walk_at "go"
          refine ⟨EV, .ref a, rfl, .inl ⟨evK ps, Sum.inl (p1 : Int), .inr ⟨od, eE⟩, rfl, hv.symm⟩, ?_⟩
          walk_at "go"
          refine ⟨Ha, W, L, a, lo, hi, m, zs, p1, ra, rfl, SqT.of (kd.tup bn.w), bn.wk.wk.kd kd, ln, pf, rla, ral, fun r hr => ?_, ?_, fun H7 s7 => ?_⟩
          · have rm : r.2 ∈ levels lo hi ws p1 := by rw [← era]; exact List.mem_map.mpr ⟨r, hr, rfl⟩
            have := (levs_lt (ws.length + 1) [p1] (fun y hy => by rw [List.mem_singleton] at hy; omega) r.2 rm).2
            exact ⟨lvrow _ _ rm, fun x hx => by have := this x hx; omega⟩
          · obtain ⟨rest, hrest⟩ := levels_head (lo := lo) (hi := hi) (ws := ws) p1
            cases ra with
            | nil => rw [hrest] at era; cases era
            | cons r0 rs' =>
              rw [hrest] at era
              have e0 : r0.2 = [p1] := (List.cons.inj era).1
              exact ⟨r0, rfl, by rw [e0]; rfl⟩
          · rw [hws, era]
            refine ⟨_, rfl, ?_⟩
            have f7 := f1.trans (.of s7)
            cases hc : backTo lo hi ws p1 ((levels lo hi ws p1).take (looked m)) with
            | true =>
              rw [if_pos hc] at ex
              walk_at "go"
              exact ⟨_, s7 _ _ eD, by rw [sizeLine_eq, List.length_map, List.length_map]; rw [List.length_map] at fl; omega, f7.mut (fL.back (nL hD) hD), by rw [upd_ne (nL hD).symm]; exact s7 _ _ eE, by rw [upd_same, ex, List.map_append, List.map_append]; rfl⟩
            | false =>
              rw [hc, if_neg (by decide), List.append_nil] at ex
              walk_at "go"
              exact ⟨f7, s7 _ _ eE, by rw [ex]; exact s7 _ _ eD⟩
        · obtain ⟨f1, eE, eD⟩ := h
          have el : (evK ps).length = ps.length := by unfold evK; rw [List.length_map]
          rw [el, List.take_length, epf] at eD
          walk_at "go"
          refine ⟨eE, ?_⟩
          have sU := same_unlock bn.ev.at_ f1
          have eDU : upd H6 EV (.dK (evK ps)) D6 = some (.lst ((((firsts lo hi ws).filter fun f => backTo lo hi ws f ((levels lo hi ws f).take (looked m))).map fun y : Nat => (y : Int)).map V.int)) := by rw [upd_ne (nL hD6)]; exact eD
          have bnU := bn.same sU
          have e3U := sU _ _ e3
          generalize upd H6 EV (.dK (evK ps)) = H8 at eDU bnU e3U
          clear eL nL fL f1 eE eD sU bn e3
          walk_at "go"
          refine ⟨W, L, lo, hi, zs, m, rfl, SqT.of bnU.w, okw, bnU.wk.wk, okz, ne, ln, fun H9 s9 => ?_⟩
          rw [hws]
          walk_at "go"
          intro z hz
          have sz := same_new (o := .lst []) hz
          walk_at "go"
          refine g_eqLI (ms := []) (SqL.of (sz _ _ (s9 _ _ eDU))) (SqL.of upd_same) ?_
          have ebl : decide (((firsts lo hi ws).filter fun f => backTo lo hi ws f ((levels lo hi ws f).take (looked m))).map (fun y : Nat => (y : Int)) = []) = shownB lo hi ws m := by
            unfold shownB
            cases hany : (firsts lo hi ws).any fun f => backTo lo hi ws f ((levels lo hi ws f).take (looked m)) with
            | true =>
              rw [Bool.not_true, decide_eq_false_iff_not]
              intro e0
              obtain ⟨p, hp, hq⟩ := List.any_eq_true.mp hany
              have hm : p ∈ (firsts lo hi ws).filter fun f => backTo lo hi ws f ((levels lo hi ws f).take (looked m)) := List.mem_filter.mpr ⟨hp, hq⟩
              rw [List.map_eq_nil_iff.mp e0] at hm
              cases hm
            | false =>
              rw [Bool.not_false, decide_eq_true_iff, List.map_eq_nil_iff, List.filter_eq_nil_iff]
              intro p hp
              exact List.any_eq_false.mp hany p hp
          rw [ebl]
          walk_at "go"
          refine use_same (n := 2) (d := .bool (shownB lo hi ws m)) (.bl _) (.bl _) (.bl _) fun H10 s10 => ?_
          have sF := (s9.trans sz).trans s10
          walk_at "go"
          exact ⟨_, _, rfl, bnU.same sF, sF _ _ e3U⟩
      · rintro σ H6 ⟨v10, v11, rfl, bn, e3⟩
        walk_at "go"
        exact ⟨_, _, _, _, _, _, _, _, _, _, rfl, bn.d, bn.tb⟩
    · rintro σ H' ⟨v2, v3, v4, v5, v6, v7, v8, v9, v10, v11, rfl, d, tb⟩
      walk_at "go"
      exact q H'
end
end K09
namespace K09
open PySem PySem.Spec PyProof.Rows L2 Wd
theorem law_at {l : PySem.W.OpenLaw} {w : World} {K : PySem.W.Frag} {h : Heap} {mg : Str → Option Value} {fa : Addr} (X : K.In h) (G : h.Ns mainGlobals mg) (hfa : mg "law" = some (.ref fa))
    {f_is_number : Addr} {oc_is_number kV_is_number dc_is_number pm_is_number cd_is_number ct_is_number : Value} {od_is_number an_is_number : Option Addr} {sl_is_number : Array (Option Value)}
    {f_is_range : Addr} {oc_is_range kV_is_range dc_is_range pm_is_range cd_is_range ct_is_range : Value} {od_is_range an_is_range : Option Addr} {sl_is_range : Array (Option Value)}
    {f_check_window : Addr} {oc_check_window kV_check_window dc_check_window pm_check_window cd_check_window ct_check_window : Value} {od_check_window an_check_window : Option Addr} {sl_check_window : Array (Option Value)}
    {f_check_works : Addr} {oc_check_works kV_check_works dc_check_works pm_check_works cd_check_works ct_check_works : Value} {od_check_works an_check_works : Option Addr} {sl_check_works : Array (Option Value)}
    {f_levels_from : Addr} {oc_levels_from kV_levels_from dc_levels_from pm_levels_from cd_levels_from ct_levels_from : Value} {od_levels_from an_levels_from : Option Addr} {sl_levels_from : Array (Option Value)}
    {f_shown : Addr} {oc_shown kV_shown dc_shown pm_shown cd_shown ct_shown : Value} {od_shown an_shown : Option Addr} {sl_shown : Array (Option Value)}
    {f_law_start : Addr} {oc_law_start kV_law_start dc_law_start pm_law_start cd_law_start ct_law_start : Value} {od_law_start an_law_start : Option Addr} {sl_law_start : Array (Option Value)}
    {f_law_drawn : Addr} {oc_law_drawn kV_law_drawn dc_law_drawn pm_law_drawn cd_law_drawn ct_law_drawn : Value} {od_law_drawn an_law_drawn : Option Addr} {sl_law_drawn : Array (Option Value)}
    {f_law_same : Addr} {oc_law_same kV_law_same dc_law_same pm_law_same cd_law_same ct_law_same : Value} {od_law_same an_law_same : Option Addr} {sl_law_same : Array (Option Value)}
    {f_law_kind : Addr} {oc_law_kind kV_law_kind dc_law_kind pm_law_kind cd_law_kind ct_law_kind : Value} {od_law_kind an_law_kind : Option Addr} {sl_law_kind : Array (Option Value)}
    {f_law_works : Addr} {oc_law_works kV_law_works dc_law_works pm_law_works cd_law_works ct_law_works : Value} {od_law_works an_law_works : Option Addr} {sl_law_works : Array (Option Value)}
    {f_law_wide : Addr} {oc_law_wide kV_law_wide dc_law_wide pm_law_wide cd_law_wide ct_law_wide : Value} {od_law_wide an_law_wide : Option Addr} {sl_law_wide : Array (Option Value)}
    {f_law_gap : Addr} {oc_law_gap kV_law_gap dc_law_gap pm_law_gap cd_law_gap ct_law_gap : Value} {od_law_gap an_law_gap : Option Addr} {sl_law_gap : Array (Option Value)}
    {f_law_in : Addr} {oc_law_in kV_law_in dc_law_in pm_law_in cd_law_in ct_law_in : Value} {od_law_in an_law_in : Option Addr} {sl_law_in : Array (Option Value)}
    {f_law_far : Addr} {oc_law_far kV_law_far dc_law_far pm_law_far cd_law_far ct_law_far : Value} {od_law_far an_law_far : Option Addr} {sl_law_far : Array (Option Value)}
    {f_law_levels : Addr} {oc_law_levels kV_law_levels dc_law_levels pm_law_levels cd_law_levels ct_law_levels : Value} {od_law_levels an_law_levels : Option Addr} {sl_law_levels : Array (Option Value)}
    {f_law_closes : Addr} {oc_law_closes kV_law_closes dc_law_closes pm_law_closes cd_law_closes ct_law_closes : Value} {od_law_closes an_law_closes : Option Addr} {sl_law_closes : Array (Option Value)}
    {fa0 : Addr} {oc_law kV_law dc_law pm_law ct_law : Value} {od_law an_law : Option Addr} {sl_law : Array (Option Value)}
    {C_Ring : Addr}
    {f_Ring_init : Addr} {oc_Ring_init kV_Ring_init dc_Ring_init pm_Ring_init cd_Ring_init ct_Ring_init : Value} {od_Ring_init an_Ring_init : Option Addr} {sl_Ring_init : Array (Option Value)}
    {f_Ring_is_timely : Addr} {oc_Ring_is_timely kV_Ring_is_timely dc_Ring_is_timely pm_Ring_is_timely cd_Ring_is_timely ct_Ring_is_timely : Value} {od_Ring_is_timely an_Ring_is_timely : Option Addr} {sl_Ring_is_timely : Array (Option Value)}
    {f_Ring_fits : Addr} {oc_Ring_fits kV_Ring_fits dc_Ring_fits pm_Ring_fits cd_Ring_fits ct_Ring_fits : Value} {od_Ring_fits an_Ring_fits : Option Addr} {sl_Ring_fits : Array (Option Value)}
    {f_Ring_first_places : Addr} {oc_Ring_first_places kV_Ring_first_places dc_Ring_first_places pm_Ring_first_places cd_Ring_first_places ct_Ring_first_places : Value} {od_Ring_first_places an_Ring_first_places : Option Addr} {sl_Ring_first_places : Array (Option Value)}
    {f_Ring_next_places : Addr} {oc_Ring_next_places kV_Ring_next_places dc_Ring_next_places pm_Ring_next_places cd_Ring_next_places ct_Ring_next_places : Value} {od_Ring_next_places an_Ring_next_places : Option Addr} {sl_Ring_next_places : Array (Option Value)}
    {f_Ring_next_level : Addr} {oc_Ring_next_level kV_Ring_next_level dc_Ring_next_level pm_Ring_next_level cd_Ring_next_level ct_Ring_next_level : Value} {od_Ring_next_level an_Ring_next_level : Option Addr} {sl_Ring_next_level : Array (Option Value)}
    {f_Ring_levels_of : Addr} {oc_Ring_levels_of kV_Ring_levels_of dc_Ring_levels_of pm_Ring_levels_of cd_Ring_levels_of ct_Ring_levels_of : Value} {od_Ring_levels_of an_Ring_levels_of : Option Addr} {sl_Ring_levels_of : Array (Option Value)}
    {f_Ring_comes_back : Addr} {oc_Ring_comes_back kV_Ring_comes_back dc_Ring_comes_back pm_Ring_comes_back cd_Ring_comes_back ct_Ring_comes_back : Value} {od_Ring_comes_back an_Ring_comes_back : Option Addr} {sl_Ring_comes_back : Array (Option Value)}
    {cc Pt : Addr} {occ : Value} {odc : Option Addr} {slc : Array (Option Value)} {vsc : Array Value}
    {t_GREATEST_HIGH : Tok}
    {t_MOST_WORKS : Tok}
    {t_LONGEST_WORK : Tok}
    {CD C_0 C_1 C_2 C_3 C_4 C_5 C_6 C_7 C_8 : Addr}
    (a_is_number : PySem.W.nsIn K mainGlobals "is_number" = some (some (.ref f_is_number)))
    (l_is_number : K.lookup f_is_number = some ⟨oc_is_number, od_is_number, .func (PySem.W.fnOf "is_number" "is_number" (C8.fnArgs s_is_number) (C8.fnBody s_is_number) (C8.fnScope s_is_number) .none kV_is_number dc_is_number pm_is_number an_is_number cd_is_number ct_is_number), sl_is_number⟩)
    (c_is_number : PySem.W.codeIn K cd_is_number "is_number" = true)
    (k_is_number : PySem.W.keepIn K (.ref f_is_number) = true)
    (a_is_range : PySem.W.nsIn K mainGlobals "is_range" = some (some (.ref f_is_range)))
    (l_is_range : K.lookup f_is_range = some ⟨oc_is_range, od_is_range, .func (PySem.W.fnOf "is_range" "is_range" (C8.fnArgs s_is_range) (C8.fnBody s_is_range) (C8.fnScope s_is_range) .none kV_is_range dc_is_range pm_is_range an_is_range cd_is_range ct_is_range), sl_is_range⟩)
    (c_is_range : PySem.W.codeIn K cd_is_range "is_range" = true)
    (k_is_range : PySem.W.keepIn K (.ref f_is_range) = true)
    (a_check_window : PySem.W.nsIn K mainGlobals "check_window" = some (some (.ref f_check_window)))
    (l_check_window : K.lookup f_check_window = some ⟨oc_check_window, od_check_window, .func (PySem.W.fnOf "check_window" "check_window" (C8.fnArgs s_check_window) (C8.fnBody s_check_window) (C8.fnScope s_check_window) .none kV_check_window dc_check_window pm_check_window an_check_window cd_check_window ct_check_window), sl_check_window⟩)
    (c_check_window : PySem.W.codeIn K cd_check_window "check_window" = true)
    (k_check_window : PySem.W.keepIn K (.ref f_check_window) = true)
    (a_check_works : PySem.W.nsIn K mainGlobals "check_works" = some (some (.ref f_check_works)))
    (l_check_works : K.lookup f_check_works = some ⟨oc_check_works, od_check_works, .func (PySem.W.fnOf "check_works" "check_works" (C8.fnArgs s_check_works) (C8.fnBody s_check_works) (C8.fnScope s_check_works) .none kV_check_works dc_check_works pm_check_works an_check_works cd_check_works ct_check_works), sl_check_works⟩)
    (c_check_works : PySem.W.codeIn K cd_check_works "check_works" = true)
    (k_check_works : PySem.W.keepIn K (.ref f_check_works) = true)
    (a_levels_from : PySem.W.nsIn K mainGlobals "levels_from" = some (some (.ref f_levels_from)))
    (l_levels_from : K.lookup f_levels_from = some ⟨oc_levels_from, od_levels_from, .func (PySem.W.fnOf "levels_from" "levels_from" (C8.fnArgs s_levels_from) (C8.fnBody s_levels_from) (C8.fnScope s_levels_from) .none kV_levels_from dc_levels_from pm_levels_from an_levels_from cd_levels_from ct_levels_from), sl_levels_from⟩)
    (c_levels_from : PySem.W.codeIn K cd_levels_from "levels_from" = true)
    (k_levels_from : PySem.W.keepIn K (.ref f_levels_from) = true)
    (a_shown : PySem.W.nsIn K mainGlobals "shown" = some (some (.ref f_shown)))
    (l_shown : K.lookup f_shown = some ⟨oc_shown, od_shown, .func (PySem.W.fnOf "shown" "shown" (C8.fnArgs s_shown) (C8.fnBody s_shown) (C8.fnScope s_shown) .none kV_shown dc_shown pm_shown an_shown cd_shown ct_shown), sl_shown⟩)
    (c_shown : PySem.W.codeIn K cd_shown "shown" = true)
    (k_shown : PySem.W.keepIn K (.ref f_shown) = true)
    (a_law_start : PySem.W.nsIn K mainGlobals "_law_start" = some (some (.ref f_law_start)))
    (l_law_start : K.lookup f_law_start = some ⟨oc_law_start, od_law_start, .func (PySem.W.fnOf "_law_start" "_law_start" (C8.fnArgs s_law_start) (C8.fnBody s_law_start) (C8.fnScope s_law_start) .none kV_law_start dc_law_start pm_law_start an_law_start cd_law_start ct_law_start), sl_law_start⟩)
    (c_law_start : PySem.W.codeIn K cd_law_start "_law_start" = true)
    (k_law_start : PySem.W.keepIn K (.ref f_law_start) = true)
    (a_law_drawn : PySem.W.nsIn K mainGlobals "_law_drawn" = some (some (.ref f_law_drawn)))
    (l_law_drawn : K.lookup f_law_drawn = some ⟨oc_law_drawn, od_law_drawn, .func (PySem.W.fnOf "_law_drawn" "_law_drawn" (C8.fnArgs s_law_drawn) (C8.fnBody s_law_drawn) (C8.fnScope s_law_drawn) .none kV_law_drawn dc_law_drawn pm_law_drawn an_law_drawn cd_law_drawn ct_law_drawn), sl_law_drawn⟩)
    (c_law_drawn : PySem.W.codeIn K cd_law_drawn "_law_drawn" = true)
    (k_law_drawn : PySem.W.keepIn K (.ref f_law_drawn) = true)
    (a_law_same : PySem.W.nsIn K mainGlobals "_law_same" = some (some (.ref f_law_same)))
    (l_law_same : K.lookup f_law_same = some ⟨oc_law_same, od_law_same, .func (PySem.W.fnOf "_law_same" "_law_same" (C8.fnArgs s_law_same) (C8.fnBody s_law_same) (C8.fnScope s_law_same) .none kV_law_same dc_law_same pm_law_same an_law_same cd_law_same ct_law_same), sl_law_same⟩)
    (c_law_same : PySem.W.codeIn K cd_law_same "_law_same" = true)
    (k_law_same : PySem.W.keepIn K (.ref f_law_same) = true)
    (a_law_kind : PySem.W.nsIn K mainGlobals "_law_kind" = some (some (.ref f_law_kind)))
    (l_law_kind : K.lookup f_law_kind = some ⟨oc_law_kind, od_law_kind, .func (PySem.W.fnOf "_law_kind" "_law_kind" (C8.fnArgs s_law_kind) (C8.fnBody s_law_kind) (C8.fnScope s_law_kind) .none kV_law_kind dc_law_kind pm_law_kind an_law_kind cd_law_kind ct_law_kind), sl_law_kind⟩)
    (c_law_kind : PySem.W.codeIn K cd_law_kind "_law_kind" = true)
    (k_law_kind : PySem.W.keepIn K (.ref f_law_kind) = true)
    (a_law_works : PySem.W.nsIn K mainGlobals "_law_works" = some (some (.ref f_law_works)))
    (l_law_works : K.lookup f_law_works = some ⟨oc_law_works, od_law_works, .func (PySem.W.fnOf "_law_works" "_law_works" (C8.fnArgs s_law_works) (C8.fnBody s_law_works) (C8.fnScope s_law_works) .none kV_law_works dc_law_works pm_law_works an_law_works cd_law_works ct_law_works), sl_law_works⟩)
    (c_law_works : PySem.W.codeIn K cd_law_works "_law_works" = true)
    (k_law_works : PySem.W.keepIn K (.ref f_law_works) = true)
    (a_law_wide : PySem.W.nsIn K mainGlobals "_law_wide" = some (some (.ref f_law_wide)))
    (l_law_wide : K.lookup f_law_wide = some ⟨oc_law_wide, od_law_wide, .func (PySem.W.fnOf "_law_wide" "_law_wide" (C8.fnArgs s_law_wide) (C8.fnBody s_law_wide) (C8.fnScope s_law_wide) .none kV_law_wide dc_law_wide pm_law_wide an_law_wide cd_law_wide ct_law_wide), sl_law_wide⟩)
    (c_law_wide : PySem.W.codeIn K cd_law_wide "_law_wide" = true)
    (k_law_wide : PySem.W.keepIn K (.ref f_law_wide) = true)
    (a_law_gap : PySem.W.nsIn K mainGlobals "_law_gap" = some (some (.ref f_law_gap)))
    (l_law_gap : K.lookup f_law_gap = some ⟨oc_law_gap, od_law_gap, .func (PySem.W.fnOf "_law_gap" "_law_gap" (C8.fnArgs s_law_gap) (C8.fnBody s_law_gap) (C8.fnScope s_law_gap) .none kV_law_gap dc_law_gap pm_law_gap an_law_gap cd_law_gap ct_law_gap), sl_law_gap⟩)
    (c_law_gap : PySem.W.codeIn K cd_law_gap "_law_gap" = true)
    (k_law_gap : PySem.W.keepIn K (.ref f_law_gap) = true)
    (a_law_in : PySem.W.nsIn K mainGlobals "_law_in" = some (some (.ref f_law_in)))
    (l_law_in : K.lookup f_law_in = some ⟨oc_law_in, od_law_in, .func (PySem.W.fnOf "_law_in" "_law_in" (C8.fnArgs s_law_in) (C8.fnBody s_law_in) (C8.fnScope s_law_in) .none kV_law_in dc_law_in pm_law_in an_law_in cd_law_in ct_law_in), sl_law_in⟩)
    (c_law_in : PySem.W.codeIn K cd_law_in "_law_in" = true)
    (k_law_in : PySem.W.keepIn K (.ref f_law_in) = true)
    (a_law_far : PySem.W.nsIn K mainGlobals "_law_far" = some (some (.ref f_law_far)))
    (l_law_far : K.lookup f_law_far = some ⟨oc_law_far, od_law_far, .func (PySem.W.fnOf "_law_far" "_law_far" (C8.fnArgs s_law_far) (C8.fnBody s_law_far) (C8.fnScope s_law_far) .none kV_law_far dc_law_far pm_law_far an_law_far cd_law_far ct_law_far), sl_law_far⟩)
    (c_law_far : PySem.W.codeIn K cd_law_far "_law_far" = true)
    (k_law_far : PySem.W.keepIn K (.ref f_law_far) = true)
    (a_law_levels : PySem.W.nsIn K mainGlobals "_law_levels" = some (some (.ref f_law_levels)))
    (l_law_levels : K.lookup f_law_levels = some ⟨oc_law_levels, od_law_levels, .func (PySem.W.fnOf "_law_levels" "_law_levels" (C8.fnArgs s_law_levels) (C8.fnBody s_law_levels) (C8.fnScope s_law_levels) .none kV_law_levels dc_law_levels pm_law_levels an_law_levels cd_law_levels ct_law_levels), sl_law_levels⟩)
    (c_law_levels : PySem.W.codeIn K cd_law_levels "_law_levels" = true)
    (k_law_levels : PySem.W.keepIn K (.ref f_law_levels) = true)
    (a_law_closes : PySem.W.nsIn K mainGlobals "_law_closes" = some (some (.ref f_law_closes)))
    (l_law_closes : K.lookup f_law_closes = some ⟨oc_law_closes, od_law_closes, .func (PySem.W.fnOf "_law_closes" "_law_closes" (C8.fnArgs s_law_closes) (C8.fnBody s_law_closes) (C8.fnScope s_law_closes) .none kV_law_closes dc_law_closes pm_law_closes an_law_closes cd_law_closes ct_law_closes), sl_law_closes⟩)
    (c_law_closes : PySem.W.codeIn K cd_law_closes "_law_closes" = true)
    (k_law_closes : PySem.W.keepIn K (.ref f_law_closes) = true)
    (a_law : PySem.W.nsIn K mainGlobals "law" = some (some (.ref fa0)))
    (l_law : K.lookup fa0 = some ⟨oc_law, od_law, .func (PySem.W.fnOf "law" "law" (C8.fnArgs s_law) (C8.fnBody s_law) (C8.fnScope s_law) .none kV_law dc_law pm_law an_law (.ref cc) ct_law), sl_law⟩)
    (c_law : PySem.W.codeIn K (.ref cc) "law" = true)
    (k_law : PySem.W.keepIn K (.ref fa0) = true)
    (aC_Ring : PySem.W.nsIn K mainGlobals "Ring" = some (some (.ref C_Ring)))
    (a_Ring_init : PySem.W.findIn K (.ref C_Ring) "__init__" = some (some (.ref f_Ring_init)))
    (i_Ring_init : PySem.W.isFn K (.ref f_Ring_init) = true)
    (l_Ring_init : K.lookup f_Ring_init = some ⟨oc_Ring_init, od_Ring_init, .func (PySem.W.fnOf "__init__" "Ring.__init__" (C8.fnArgs s_Ring_init) (C8.fnBody s_Ring_init) (C8.fnScope s_Ring_init) .none kV_Ring_init dc_Ring_init pm_Ring_init an_Ring_init cd_Ring_init ct_Ring_init), sl_Ring_init⟩)
    (c_Ring_init : PySem.W.codeIn K cd_Ring_init "Ring.__init__" = true)
    (k_Ring_init : PySem.W.keepIn K (.ref f_Ring_init) = true)
    (a_Ring_is_timely : PySem.W.findIn K (.ref C_Ring) "is_timely" = some (some (.ref f_Ring_is_timely)))
    (i_Ring_is_timely : PySem.W.isFn K (.ref f_Ring_is_timely) = true)
    (l_Ring_is_timely : K.lookup f_Ring_is_timely = some ⟨oc_Ring_is_timely, od_Ring_is_timely, .func (PySem.W.fnOf "is_timely" "Ring.is_timely" (C8.fnArgs s_Ring_is_timely) (C8.fnBody s_Ring_is_timely) (C8.fnScope s_Ring_is_timely) .none kV_Ring_is_timely dc_Ring_is_timely pm_Ring_is_timely an_Ring_is_timely cd_Ring_is_timely ct_Ring_is_timely), sl_Ring_is_timely⟩)
    (c_Ring_is_timely : PySem.W.codeIn K cd_Ring_is_timely "Ring.is_timely" = true)
    (k_Ring_is_timely : PySem.W.keepIn K (.ref f_Ring_is_timely) = true)
    (a_Ring_fits : PySem.W.findIn K (.ref C_Ring) "fits" = some (some (.ref f_Ring_fits)))
    (i_Ring_fits : PySem.W.isFn K (.ref f_Ring_fits) = true)
    (l_Ring_fits : K.lookup f_Ring_fits = some ⟨oc_Ring_fits, od_Ring_fits, .func (PySem.W.fnOf "fits" "Ring.fits" (C8.fnArgs s_Ring_fits) (C8.fnBody s_Ring_fits) (C8.fnScope s_Ring_fits) .none kV_Ring_fits dc_Ring_fits pm_Ring_fits an_Ring_fits cd_Ring_fits ct_Ring_fits), sl_Ring_fits⟩)
    (c_Ring_fits : PySem.W.codeIn K cd_Ring_fits "Ring.fits" = true)
    (k_Ring_fits : PySem.W.keepIn K (.ref f_Ring_fits) = true)
    (a_Ring_first_places : PySem.W.findIn K (.ref C_Ring) "first_places" = some (some (.ref f_Ring_first_places)))
    (i_Ring_first_places : PySem.W.isFn K (.ref f_Ring_first_places) = true)
    (l_Ring_first_places : K.lookup f_Ring_first_places = some ⟨oc_Ring_first_places, od_Ring_first_places, .func (PySem.W.fnOf "first_places" "Ring.first_places" (C8.fnArgs s_Ring_first_places) (C8.fnBody s_Ring_first_places) (C8.fnScope s_Ring_first_places) .none kV_Ring_first_places dc_Ring_first_places pm_Ring_first_places an_Ring_first_places cd_Ring_first_places ct_Ring_first_places), sl_Ring_first_places⟩)
    (c_Ring_first_places : PySem.W.codeIn K cd_Ring_first_places "Ring.first_places" = true)
    (k_Ring_first_places : PySem.W.keepIn K (.ref f_Ring_first_places) = true)
    (a_Ring_next_places : PySem.W.findIn K (.ref C_Ring) "next_places" = some (some (.ref f_Ring_next_places)))
    (i_Ring_next_places : PySem.W.isFn K (.ref f_Ring_next_places) = true)
    (l_Ring_next_places : K.lookup f_Ring_next_places = some ⟨oc_Ring_next_places, od_Ring_next_places, .func (PySem.W.fnOf "next_places" "Ring.next_places" (C8.fnArgs s_Ring_next_places) (C8.fnBody s_Ring_next_places) (C8.fnScope s_Ring_next_places) .none kV_Ring_next_places dc_Ring_next_places pm_Ring_next_places an_Ring_next_places cd_Ring_next_places ct_Ring_next_places), sl_Ring_next_places⟩)
    (c_Ring_next_places : PySem.W.codeIn K cd_Ring_next_places "Ring.next_places" = true)
    (k_Ring_next_places : PySem.W.keepIn K (.ref f_Ring_next_places) = true)
    (a_Ring_next_level : PySem.W.findIn K (.ref C_Ring) "next_level" = some (some (.ref f_Ring_next_level)))
    (i_Ring_next_level : PySem.W.isFn K (.ref f_Ring_next_level) = true)
    (l_Ring_next_level : K.lookup f_Ring_next_level = some ⟨oc_Ring_next_level, od_Ring_next_level, .func (PySem.W.fnOf "next_level" "Ring.next_level" (C8.fnArgs s_Ring_next_level) (C8.fnBody s_Ring_next_level) (C8.fnScope s_Ring_next_level) .none kV_Ring_next_level dc_Ring_next_level pm_Ring_next_level an_Ring_next_level cd_Ring_next_level ct_Ring_next_level), sl_Ring_next_level⟩)
    (c_Ring_next_level : PySem.W.codeIn K cd_Ring_next_level "Ring.next_level" = true)
    (k_Ring_next_level : PySem.W.keepIn K (.ref f_Ring_next_level) = true)
    (a_Ring_levels_of : PySem.W.findIn K (.ref C_Ring) "levels_of" = some (some (.ref f_Ring_levels_of)))
    (i_Ring_levels_of : PySem.W.isFn K (.ref f_Ring_levels_of) = true)
    (l_Ring_levels_of : K.lookup f_Ring_levels_of = some ⟨oc_Ring_levels_of, od_Ring_levels_of, .func (PySem.W.fnOf "levels_of" "Ring.levels_of" (C8.fnArgs s_Ring_levels_of) (C8.fnBody s_Ring_levels_of) (C8.fnScope s_Ring_levels_of) .none kV_Ring_levels_of dc_Ring_levels_of pm_Ring_levels_of an_Ring_levels_of cd_Ring_levels_of ct_Ring_levels_of), sl_Ring_levels_of⟩)
    (c_Ring_levels_of : PySem.W.codeIn K cd_Ring_levels_of "Ring.levels_of" = true)
    (k_Ring_levels_of : PySem.W.keepIn K (.ref f_Ring_levels_of) = true)
    (a_Ring_comes_back : PySem.W.findIn K (.ref C_Ring) "comes_back" = some (some (.ref f_Ring_comes_back)))
    (i_Ring_comes_back : PySem.W.isFn K (.ref f_Ring_comes_back) = true)
    (l_Ring_comes_back : K.lookup f_Ring_comes_back = some ⟨oc_Ring_comes_back, od_Ring_comes_back, .func (PySem.W.fnOf "comes_back" "Ring.comes_back" (C8.fnArgs s_Ring_comes_back) (C8.fnBody s_Ring_comes_back) (C8.fnScope s_Ring_comes_back) .none kV_Ring_comes_back dc_Ring_comes_back pm_Ring_comes_back an_Ring_comes_back cd_Ring_comes_back ct_Ring_comes_back), sl_Ring_comes_back⟩)
    (c_Ring_comes_back : PySem.W.codeIn K cd_Ring_comes_back "Ring.comes_back" = true)
    (k_Ring_comes_back : PySem.W.keepIn K (.ref f_Ring_comes_back) = true)
    (pg_Ring : PySem.W.plainGet K C_Ring Str.empty = true)
    (hdd_Ring : PySem.W.hasDictIn K C_Ring = true)
    (po_Ring : PySem.W.plainOver K C_Ring = true)
    (sa_Ring : PySem.W.findIn K (.ref C_Ring) "__setattr__" = some (some (.builtin "object.__setattr__")))
    (mk_Ring : PySem.W.makesIn K C_Ring = true)
    (kc_Ring : PySem.W.keepIn K (.ref C_Ring) = true)
    (n_Ring_low : PySem.W.findIn K (.ref C_Ring) "low" = some none)
    (n_Ring_high : PySem.W.findIn K (.ref C_Ring) "high" = some none)
    (n_Ring_works : PySem.W.findIn K (.ref C_Ring) "works" = some none)
    (lc : K.lookup cc = some ⟨occ, odc, .fields vsc, slc⟩)
    (v11 : vsc[11]? = some (.ref Pt))
    (hch : PySem.W.codeHdIn K cc Pt = true)
    (nPt : K.lookup Pt = none)
    (z_isinstance : PySem.W.nsIn K mainGlobals "isinstance" = some none)
    (z_len : PySem.W.nsIn K mainGlobals "len" = some none)
    (z_int : PySem.W.nsIn K mainGlobals "int" = some none)
    (z_bool : PySem.W.nsIn K mainGlobals "bool" = some none)
    (z_range : PySem.W.nsIn K mainGlobals "range" = some none)
    (z_list : PySem.W.nsIn K mainGlobals "list" = some none)
    (z_tuple : PySem.W.nsIn K mainGlobals "tuple" = some none)
    (z_str : PySem.W.nsIn K mainGlobals "str" = some none)
    (z_sum : PySem.W.nsIn K mainGlobals "sum" = some none)
    (z_ValueError : PySem.W.nsIn K mainGlobals "ValueError" = some none)
    (z_max : PySem.W.nsIn K mainGlobals "max" = some none)
    (z_min : PySem.W.nsIn K mainGlobals "min" = some none)
    (z_sorted : PySem.W.nsIn K mainGlobals "sorted" = some none)
    (z_set : PySem.W.nsIn K mainGlobals "set" = some none)
    (q_GREATEST_HIGH : PySem.W.nsIn K mainGlobals "GREATEST_HIGH" = some (some (.int 1000 t_GREATEST_HIGH)))
    (q_MOST_WORKS : PySem.W.nsIn K mainGlobals "MOST_WORKS" = some (some (.int 10 t_MOST_WORKS)))
    (q_LONGEST_WORK : PySem.W.nsIn K mainGlobals "LONGEST_WORK" = some (some (.int 1000 t_LONGEST_WORK)))
    (aD : PySem.W.nsIn K mainGlobals "DogError" = some (some (.ref CD)))
    (aC0 : PySem.W.nsIn K mainGlobals "BadWindow" = some (some (.ref C_0)))
    (aC1 : PySem.W.nsIn K mainGlobals "BadPlan" = some (some (.ref C_1)))
    (aC2 : PySem.W.nsIn K mainGlobals "BadDelays" = some (some (.ref C_2)))
    (aC3 : PySem.W.nsIn K mainGlobals "BadWorks" = some (some (.ref C_3)))
    (aC4 : PySem.W.nsIn K mainGlobals "NoPats" = some (some (.ref C_4)))
    (aC5 : PySem.W.nsIn K mainGlobals "NoPlace" = some (some (.ref C_5)))
    (aC6 : PySem.W.nsIn K mainGlobals "BadTasks" = some (some (.ref C_6)))
    (aC7 : PySem.W.nsIn K mainGlobals "BadBeat" = some (some (.ref C_7)))
    (aC8 : PySem.W.nsIn K mainGlobals "TooMuch" = some (some (.ref C_8)))
    (bD : PySem.W.subIn K (.ref CD) (.type "BaseException") = some true)
    (hD : PySem.W.hasDictIn K CD = true)
    (tD : PySem.W.typeIn K (.ref CD) = some (.type "type"))
    (xn : PySem.W.specialIn K (.builtin "object.__class__") "__get__" = some (some (.builtin "getset_descriptor.__get__")))
    (xt : PySem.W.takesIn K (.builtin "object.__class__") = some true)
    (x5 : PySem.W.excIn K C_5 [.type "ValueError", .type "Exception", .type "BaseException", .type "object"] "ValueError.__new__" = true)
    (kk5 : PySem.W.keepIn K (.ref C_5) = true)
    (b5 : PySem.W.subIn K (.ref C_5) (.type "BaseException") = some true)
    (t5 : PySem.W.typeIn K (.ref C_5) = some (.type "type"))
    (hg5 : PySem.W.findIn K (.ref C_5) "__getattribute__" = some (some (.builtin "BaseException.__getattribute__")))
    (hk5 : PySem.W.findIn K (.ref C_5) "__getattr__" = some none)
    (hd5 : PySem.W.hasDictIn K C_5 = true)
    (ha5 : PySem.W.findIn K (.ref C_5) "__class__" = some (some (.builtin "object.__class__")))
    (hm5 : PySem.W.mroIn K C_5 (.type "object") = some true)
    (sD5 : PySem.W.subIn K (.ref C_5) (.ref CD) = some true)
    (kv5 : PySem.W.kitOne K (.ref C_5) (.type "ValueError") = some true)
    (ki5_0 : PySem.W.kitOne K (.ref C_5) (.ref C_0) = some false)
    (ki5_1 : PySem.W.kitOne K (.ref C_5) (.ref C_1) = some false)
    (ki5_2 : PySem.W.kitOne K (.ref C_5) (.ref C_2) = some false)
    (ki5_3 : PySem.W.kitOne K (.ref C_5) (.ref C_3) = some false)
    (ki5_4 : PySem.W.kitOne K (.ref C_5) (.ref C_4) = some false)
    (ki5_5 : PySem.W.kitOne K (.ref C_5) (.ref C_5) = some true)
    (ki5_6 : PySem.W.kitOne K (.ref C_5) (.ref C_6) = some false)
    (ki5_7 : PySem.W.kitOne K (.ref C_5) (.ref C_7) = some false)
    (ki5_8 : PySem.W.kitOne K (.ref C_5) (.ref C_8) = some false)
    (hT : h.get? Pt = some { cls := .none, data := .fields #[] }) :
    LamX.LawAtS l w K C8.CX0 10 63 "_law_script" mg fa h := by
  have e := hfa.symm.trans (PySem.W.mg_of X G a_law)
  cases e
  have D_is_number : C8.Def K mg "is_number" s_is_number f_is_number _ := ⟨⟨_, _, _, _, _, _, _, _, _, _, rfl, l_is_number, c_is_number⟩, PySem.W.mg_of X G a_is_number, k_is_number⟩
  have B_is_number := C8.Fun.binds (ps := ["value"]) D_is_number.fn rfl fun _ _ _ _ _ _ us hl => match us, hl with | [_], _ => rfl
  have D_is_range : C8.Def K mg "is_range" s_is_range f_is_range _ := ⟨⟨_, _, _, _, _, _, _, _, _, _, rfl, l_is_range, c_is_range⟩, PySem.W.mg_of X G a_is_range, k_is_range⟩
  have B_is_range := C8.Fun.binds (ps := ["least", "most", "limit"]) D_is_range.fn rfl fun _ _ _ _ _ _ us hl => match us, hl with | [_, _, _], _ => rfl
  have D_check_window : C8.Def K mg "check_window" s_check_window f_check_window _ := ⟨⟨_, _, _, _, _, _, _, _, _, _, rfl, l_check_window, c_check_window⟩, PySem.W.mg_of X G a_check_window, k_check_window⟩
  have B_check_window := C8.Fun.binds (ps := ["window"]) D_check_window.fn rfl fun _ _ _ _ _ _ us hl => match us, hl with | [_], _ => rfl
  have D_check_works : C8.Def K mg "check_works" s_check_works f_check_works _ := ⟨⟨_, _, _, _, _, _, _, _, _, _, rfl, l_check_works, c_check_works⟩, PySem.W.mg_of X G a_check_works, k_check_works⟩
  have B_check_works := C8.Fun.binds (ps := ["works"]) D_check_works.fn rfl fun _ _ _ _ _ _ us hl => match us, hl with | [_], _ => rfl
  have D_levels_from : C8.Def K mg "levels_from" s_levels_from f_levels_from _ := ⟨⟨_, _, _, _, _, _, _, _, _, _, rfl, l_levels_from, c_levels_from⟩, PySem.W.mg_of X G a_levels_from, k_levels_from⟩
  have B_levels_from := C8.Fun.binds (ps := ["window", "works", "first"]) D_levels_from.fn rfl fun _ _ _ _ _ _ us hl => match us, hl with | [_, _, _], _ => rfl
  have D_shown : C8.Def K mg "shown" s_shown f_shown _ := ⟨⟨_, _, _, _, _, _, _, _, _, _, rfl, l_shown, c_shown⟩, PySem.W.mg_of X G a_shown, k_shown⟩
  have B_shown := C8.Fun.binds (ps := ["window", "works", "many"]) D_shown.fn rfl fun _ _ _ _ _ _ us hl => match us, hl with | [_, _, _], _ => rfl
  have D_law_start : C8.Def K mg "_law_start" s_law_start f_law_start _ := ⟨⟨_, _, _, _, _, _, _, _, _, _, rfl, l_law_start, c_law_start⟩, PySem.W.mg_of X G a_law_start, k_law_start⟩
  have B_law_start := C8.Fun.binds (ps := ["_law_script"]) D_law_start.fn rfl fun _ _ _ _ _ _ us hl => match us, hl with | [_], _ => rfl
  have D_law_drawn : C8.Def K mg "_law_drawn" s_law_drawn f_law_drawn _ := ⟨⟨_, _, _, _, _, _, _, _, _, _, rfl, l_law_drawn, c_law_drawn⟩, PySem.W.mg_of X G a_law_drawn, k_law_drawn⟩
  have B_law_drawn := C8.Fun.binds (ps := ["_law_state", "_law_many"]) D_law_drawn.fn rfl fun _ _ _ _ _ _ us hl => match us, hl with | [_, _], _ => rfl
  have D_law_same : C8.Def K mg "_law_same" s_law_same f_law_same _ := ⟨⟨_, _, _, _, _, _, _, _, _, _, rfl, l_law_same, c_law_same⟩, PySem.W.mg_of X G a_law_same, k_law_same⟩
  have B_law_same := C8.Fun.binds (ps := ["_law_found", "_law_due"]) D_law_same.fn rfl fun _ _ _ _ _ _ us hl => match us, hl with | [_, _], _ => rfl
  have D_law_kind : C8.Def K mg "_law_kind" s_law_kind f_law_kind _ := ⟨⟨_, _, _, _, _, _, _, _, _, _, rfl, l_law_kind, c_law_kind⟩, PySem.W.mg_of X G a_law_kind, k_law_kind⟩
  have B_law_kind := C8.Fun.binds (ps := ["_law_work"]) D_law_kind.fn rfl fun _ _ _ _ _ _ us hl => match us, hl with | [_], _ => rfl
  have D_law_works : C8.Def K mg "_law_works" s_law_works f_law_works _ := ⟨⟨_, _, _, _, _, _, _, _, _, _, rfl, l_law_works, c_law_works⟩, PySem.W.mg_of X G a_law_works, k_law_works⟩
  have B_law_works := C8.Fun.binds (ps := ["_law_state"]) D_law_works.fn rfl fun _ _ _ _ _ _ us hl => match us, hl with | [_], _ => rfl
  have D_law_wide : C8.Def K mg "_law_wide" s_law_wide f_law_wide _ := ⟨⟨_, _, _, _, _, _, _, _, _, _, rfl, l_law_wide, c_law_wide⟩, PySem.W.mg_of X G a_law_wide, k_law_wide⟩
  have B_law_wide := C8.Fun.binds (ps := ["_law_state", "_law_works_here"]) D_law_wide.fn rfl fun _ _ _ _ _ _ us hl => match us, hl with | [_, _], _ => rfl
  have D_law_gap : C8.Def K mg "_law_gap" s_law_gap f_law_gap _ := ⟨⟨_, _, _, _, _, _, _, _, _, _, rfl, l_law_gap, c_law_gap⟩, PySem.W.mg_of X G a_law_gap, k_law_gap⟩
  have B_law_gap := C8.Fun.binds (ps := ["_law_works_here", "_law_one", "_law_other"]) D_law_gap.fn rfl fun _ _ _ _ _ _ us hl => match us, hl with | [_, _, _], _ => rfl
  have D_law_in : C8.Def K mg "_law_in" s_law_in f_law_in _ := ⟨⟨_, _, _, _, _, _, _, _, _, _, rfl, l_law_in, c_law_in⟩, PySem.W.mg_of X G a_law_in, k_law_in⟩
  have B_law_in := C8.Fun.binds (ps := ["_law_window", "_law_gap_here"]) D_law_in.fn rfl fun _ _ _ _ _ _ us hl => match us, hl with | [_, _], _ => rfl
  have D_law_far : C8.Def K mg "_law_far" s_law_far f_law_far _ := ⟨⟨_, _, _, _, _, _, _, _, _, _, rfl, l_law_far, c_law_far⟩, PySem.W.mg_of X G a_law_far, k_law_far⟩
  have B_law_far := C8.Fun.binds (ps := ["_law_state", "_law_most"]) D_law_far.fn rfl fun _ _ _ _ _ _ us hl => match us, hl with | [_, _], _ => rfl
  have D_law_levels : C8.Def K mg "_law_levels" s_law_levels f_law_levels _ := ⟨⟨_, _, _, _, _, _, _, _, _, _, rfl, l_law_levels, c_law_levels⟩, PySem.W.mg_of X G a_law_levels, k_law_levels⟩
  have B_law_levels := C8.Fun.binds (ps := ["_law_window", "_law_works_here", "_law_first"]) D_law_levels.fn rfl fun _ _ _ _ _ _ us hl => match us, hl with | [_, _, _], _ => rfl
  have D_law_closes : C8.Def K mg "_law_closes" s_law_closes f_law_closes _ := ⟨⟨_, _, _, _, _, _, _, _, _, _, rfl, l_law_closes, c_law_closes⟩, PySem.W.mg_of X G a_law_closes, k_law_closes⟩
  have B_law_closes := C8.Fun.binds (ps := ["_law_window", "_law_works_here", "_law_levels_here", "_law_many"]) D_law_closes.fn rfl fun _ _ _ _ _ _ us hl => match us, hl with | [_, _, _, _], _ => rfl
  have F_Ring_init : C8.Fun K "__init__" "Ring.__init__" s_Ring_init f_Ring_init _ := ⟨_, _, _, _, _, _, _, _, _, _, rfl, l_Ring_init, c_Ring_init⟩
  have B_Ring_init := C8.Fun.binds (ps := ["self", "window", "works"]) F_Ring_init rfl fun _ _ _ _ _ _ us hl => match us, hl with | [_, _, _], _ => rfl
  have F_Ring_is_timely : C8.Fun K "is_timely" "Ring.is_timely" s_Ring_is_timely f_Ring_is_timely _ := ⟨_, _, _, _, _, _, _, _, _, _, rfl, l_Ring_is_timely, c_Ring_is_timely⟩
  have B_Ring_is_timely := C8.Fun.binds (ps := ["self", "works"]) F_Ring_is_timely rfl fun _ _ _ _ _ _ us hl => match us, hl with | [_, _], _ => rfl
  have F_Ring_fits : C8.Fun K "fits" "Ring.fits" s_Ring_fits f_Ring_fits _ := ⟨_, _, _, _, _, _, _, _, _, _, rfl, l_Ring_fits, c_Ring_fits⟩
  have B_Ring_fits := C8.Fun.binds (ps := ["self", "place", "behind"]) F_Ring_fits rfl fun _ _ _ _ _ _ us hl => match us, hl with | [_, _, _], _ => rfl
  have F_Ring_first_places : C8.Fun K "first_places" "Ring.first_places" s_Ring_first_places f_Ring_first_places _ := ⟨_, _, _, _, _, _, _, _, _, _, rfl, l_Ring_first_places, c_Ring_first_places⟩
  have B_Ring_first_places := C8.Fun.binds (ps := ["self"]) F_Ring_first_places rfl fun _ _ _ _ _ _ us hl => match us, hl with | [_], _ => rfl
  have F_Ring_next_places : C8.Fun K "next_places" "Ring.next_places" s_Ring_next_places f_Ring_next_places _ := ⟨_, _, _, _, _, _, _, _, _, _, rfl, l_Ring_next_places, c_Ring_next_places⟩
  have B_Ring_next_places := C8.Fun.binds (ps := ["self", "behind"]) F_Ring_next_places rfl fun _ _ _ _ _ _ us hl => match us, hl with | [_, _], _ => rfl
  have F_Ring_next_level : C8.Fun K "next_level" "Ring.next_level" s_Ring_next_level f_Ring_next_level _ := ⟨_, _, _, _, _, _, _, _, _, _, rfl, l_Ring_next_level, c_Ring_next_level⟩
  have B_Ring_next_level := C8.Fun.binds (ps := ["self", "level"]) F_Ring_next_level rfl fun _ _ _ _ _ _ us hl => match us, hl with | [_, _], _ => rfl
  have F_Ring_levels_of : C8.Fun K "levels_of" "Ring.levels_of" s_Ring_levels_of f_Ring_levels_of _ := ⟨_, _, _, _, _, _, _, _, _, _, rfl, l_Ring_levels_of, c_Ring_levels_of⟩
  have B_Ring_levels_of := C8.Fun.binds (ps := ["self", "first"]) F_Ring_levels_of rfl fun _ _ _ _ _ _ us hl => match us, hl with | [_, _], _ => rfl
  have F_Ring_comes_back : C8.Fun K "comes_back" "Ring.comes_back" s_Ring_comes_back f_Ring_comes_back _ := ⟨_, _, _, _, _, _, _, _, _, _, rfl, l_Ring_comes_back, c_Ring_comes_back⟩
  have B_Ring_comes_back := C8.Fun.binds (ps := ["self", "first", "levels"]) F_Ring_comes_back rfl fun _ _ _ _ _ _ us hl => match us, hl with | [_, _, _], _ => rfl
  have R : Refs K mg CD [C_0, C_1, C_2, C_3, C_4, C_5, C_6, C_7, C_8] :=
    ⟨PySem.W.mg_none_of X G z_isinstance, PySem.W.mg_none_of X G z_ValueError, PySem.W.mg_of X G aD, ⟨_, rfl, PySem.W.mg_of X G aC0⟩, ⟨_, rfl, PySem.W.mg_of X G aC1⟩, ⟨_, rfl, PySem.W.mg_of X G aC2⟩, ⟨_, rfl, PySem.W.mg_of X G aC3⟩, ⟨_, rfl, PySem.W.mg_of X G aC4⟩, ⟨_, rfl, PySem.W.mg_of X G aC5⟩, ⟨_, rfl, PySem.W.mg_of X G aC6⟩, ⟨_, rfl, PySem.W.mg_of X G aC7⟩, ⟨_, rfl, PySem.W.mg_of X G aC8⟩⟩
  have RN : IsRef K CD [C_0, C_1, C_2, C_3, C_4, C_5, C_6, C_7, C_8] 5 C_5 := by
    refine ⟨rfl, ⟨hg5, hk5, b5, hd5, ha5, xn, xt, hm5⟩, PySem.W.exm_ref bD hD tD sD5, kv5, fun j C' e => ?_⟩
    match j, e with
    | 0, e => cases e; exact ki5_0
    | 1, e => cases e; exact ki5_1
    | 2, e => cases e; exact ki5_2
    | 3, e => cases e; exact ki5_3
    | 4, e => cases e; exact ki5_4
    | 5, e => cases e; exact ki5_5
    | 6, e => cases e; exact ki5_6
    | 7, e => cases e; exact ki5_7
    | 8, e => cases e; exact ki5_8
  have T0 : Txt K mg := ⟨PySem.W.mg_none_of X G z_isinstance, PySem.W.mg_none_of X G z_len, PySem.W.mg_none_of X G z_int, PySem.W.mg_none_of X G z_bool, PySem.W.mg_none_of X G z_range, PySem.W.mg_none_of X G z_list, PySem.W.mg_none_of X G z_tuple, PySem.W.mg_none_of X G z_str, PySem.W.mg_none_of X G z_sum⟩
  have T : TxtW K mg C_5 := ⟨T0, PySem.W.mg_none_of X G z_max, PySem.W.mg_none_of X G z_min, PySem.W.mg_none_of X G z_sorted, PySem.W.mg_none_of X G z_set, ⟨_, PySem.W.mg_of X G q_GREATEST_HIGH⟩, ⟨_, PySem.W.mg_of X G q_MOST_WORKS⟩, ⟨_, PySem.W.mg_of X G q_LONGEST_WORK⟩, PySem.W.mg_of X G aC5, x5, kk5, b5, t5⟩
  have TR : TxtR K C_Ring := ⟨⟨pg_Ring, hdd_Ring, po_Ring, sa_Ring⟩, n_Ring_low, n_Ring_high, n_Ring_works⟩
  refine ⟨PySem.W.fnOf "law" "law" (C8.fnArgs s_law) (C8.fnBody s_law) (C8.fnScope s_law) .none kV_law dc_law pm_law an_law (.ref cc) ct_law, [(cc, Pt)], sp_law K Pt, fun p hp => by rw [List.mem_singleton.mp hp]; exact hT, fun p hp => by rw [List.mem_singleton.mp hp]; exact nPt, fun p hp => by rw [List.mem_singleton.mp hp]; exact PySem.W.codeHd_of_K X hch, fun s u => .of_eq rfl,
    fun H a ns hl _ ht hs => ⟨a, ns, rfl, hs, hl, ht _ (List.mem_singleton.mpr rfl), fun _ => rfl⟩, fun base KB GB tb => ?_⟩
  have g0 := ok_is_number (P := l.prog) (w := w) (base := base) T0 D_is_number B_is_number
  have g1 := ok_is_range T0 D_is_range B_is_range g0
  have g2 := ok_check_window T D_check_window B_check_window g1
  have g3 := ok_check_works T D_check_works B_check_works g1
  have m0 := ok_init T TR ⟨mk_Ring, a_Ring_init, i_Ring_init, kc_Ring⟩ (PySem.W.mg_of X G aC_Ring) F_Ring_init B_Ring_init g2 g3
  have m1 := ok_timely (P := l.prog) (w := w) (base := base) T TR ⟨a_Ring_is_timely, i_Ring_is_timely, k_Ring_is_timely⟩ F_Ring_is_timely B_Ring_is_timely
  have m2 := ok_fits T TR ⟨a_Ring_fits, i_Ring_fits, k_Ring_fits⟩ F_Ring_fits B_Ring_fits m1
  have m3 := ok_firsts T TR ⟨a_Ring_first_places, i_Ring_first_places, k_Ring_first_places⟩ F_Ring_first_places B_Ring_first_places m1
  have m4 := ok_nexts T TR ⟨a_Ring_next_places, i_Ring_next_places, k_Ring_next_places⟩ F_Ring_next_places B_Ring_next_places m2
  have m5 := ok_lev T TR ⟨a_Ring_next_level, i_Ring_next_level, k_Ring_next_level⟩ F_Ring_next_level B_Ring_next_level m4
  have m6 := ok_levels T TR ⟨a_Ring_levels_of, i_Ring_levels_of, k_Ring_levels_of⟩ F_Ring_levels_of B_Ring_levels_of m5
  have m7 := ok_comes T TR ⟨a_Ring_comes_back, i_Ring_comes_back, k_Ring_comes_back⟩ F_Ring_comes_back B_Ring_comes_back m2
  have g4 := ok_from T TR D_levels_from B_levels_from m0 m3 m6
  have g5 := ok_shown T TR D_shown B_shown m0 m3 m6 m7
  have h1 := ok_start (P := l.prog) (w := w) (base := base) T0 D_law_start B_law_start
  have h2 := ok_drawn (P := l.prog) (w := w) (base := base) T0 D_law_drawn B_law_drawn
  have h3 := ok_gap (P := l.prog) (w := w) (base := base) T D_law_gap B_law_gap
  have h4 := ok_in (P := l.prog) (w := w) (base := base) T D_law_in B_law_in
  exact ok_law T R RN (tb _ (List.mem_singleton.mpr rfl)) l_law c_law D_law_kind B_law_kind h1 (ok_works T D_law_works B_law_works h2) (ok_wide T D_law_wide B_law_wide h2) h3 h4 (ok_levelsL T D_law_levels B_law_levels h3 h4) (ok_closes T D_law_closes B_law_closes h3 h4) (ok_far T0 D_law_far B_law_far h2) (ok_same T0 D_law_same B_law_same 3) g4 g5
end K09
open PySem PySem.W PyProof.Rows
set_option maxRecDepth 100000 in
set_option maxHeartbeats 0 in
theorem PySem.Challenge.cw_windowdog_k09_levels_holds : PySem.Challenge.rw_windowdog_k09_levels.Holds := by
  w_on; o_law; k_head; (case hw => w_witness2)
  k_fill
  refine LamX.walk_ofTs (l := PySem.Challenge.rw_windowdog_k09_levels) (n := 63) (k := 10) (x := "_law_script") (CX := fun _ => C8.CX0) rfl (by decide) rfl ⟨rfl, by decide, by decide⟩ (fun w h Y => PySem.W.km_in_of Y) ?F (fun _ _ _ _ _ z => z)
  case F =>
    intro w mg fa h Y KX G hmg
    refine' K09.law_at KX G hmg ?a_is_number ?l_is_number ?c_is_number ?k_is_number ?a_is_range ?l_is_range ?c_is_range ?k_is_range ?a_check_window ?l_check_window ?c_check_window ?k_check_window ?a_check_works ?l_check_works ?c_check_works ?k_check_works ?a_levels_from ?l_levels_from ?c_levels_from ?k_levels_from ?a_shown ?l_shown ?c_shown ?k_shown ?a_law_start ?l_law_start ?c_law_start ?k_law_start ?a_law_drawn ?l_law_drawn ?c_law_drawn ?k_law_drawn ?a_law_same ?l_law_same ?c_law_same ?k_law_same ?a_law_kind ?l_law_kind ?c_law_kind ?k_law_kind ?a_law_works ?l_law_works ?c_law_works ?k_law_works ?a_law_wide ?l_law_wide ?c_law_wide ?k_law_wide ?a_law_gap ?l_law_gap ?c_law_gap ?k_law_gap ?a_law_in ?l_law_in ?c_law_in ?k_law_in ?a_law_far ?l_law_far ?c_law_far ?k_law_far ?a_law_levels ?l_law_levels ?c_law_levels ?k_law_levels ?a_law_closes ?l_law_closes ?c_law_closes ?k_law_closes ?a_law ?l_law ?c_law ?k_law ?aC_Ring ?a_Ring_init ?i_Ring_init ?l_Ring_init ?c_Ring_init ?k_Ring_init ?a_Ring_is_timely ?i_Ring_is_timely ?l_Ring_is_timely ?c_Ring_is_timely ?k_Ring_is_timely ?a_Ring_fits ?i_Ring_fits ?l_Ring_fits ?c_Ring_fits ?k_Ring_fits ?a_Ring_first_places ?i_Ring_first_places ?l_Ring_first_places ?c_Ring_first_places ?k_Ring_first_places ?a_Ring_next_places ?i_Ring_next_places ?l_Ring_next_places ?c_Ring_next_places ?k_Ring_next_places ?a_Ring_next_level ?i_Ring_next_level ?l_Ring_next_level ?c_Ring_next_level ?k_Ring_next_level ?a_Ring_levels_of ?i_Ring_levels_of ?l_Ring_levels_of ?c_Ring_levels_of ?k_Ring_levels_of ?a_Ring_comes_back ?i_Ring_comes_back ?l_Ring_comes_back ?c_Ring_comes_back ?k_Ring_comes_back ?pg_Ring ?hdd_Ring ?po_Ring ?sa_Ring ?mk_Ring ?kc_Ring ?n_Ring_low ?n_Ring_high ?n_Ring_works ?lc ?v11 ?hch ?nPt ?z_isinstance ?z_len ?z_int ?z_bool ?z_range ?z_list ?z_tuple ?z_str ?z_sum ?z_ValueError ?z_max ?z_min ?z_sorted ?z_set ?q_GREATEST_HIGH ?q_MOST_WORKS ?q_LONGEST_WORK ?aD ?aC0 ?aC1 ?aC2 ?aC3 ?aC4 ?aC5 ?aC6 ?aC7 ?aC8 ?bD ?hD ?tD ?xn ?xt ?x5 ?kk5 ?b5 ?t5 ?hg5 ?hk5 ?hd5 ?ha5 ?hm5 ?sD5 ?kv5 ?ki5_0 ?ki5_1 ?ki5_2 ?ki5_3 ?ki5_4 ?ki5_5 ?ki5_6 ?ki5_7 ?ki5_8 ?hT
    (case a_is_number => k_is)
    (case l_is_number => k_is)
    (case c_is_number => k_is)
    (case k_is_number => k_is)
    (case a_is_range => k_is)
    (case l_is_range => k_is)
    (case c_is_range => k_is)
    (case k_is_range => k_is)
    (case a_check_window => k_is)
    (case l_check_window => k_is)
    (case c_check_window => k_is)
    (case k_check_window => k_is)
    (case a_check_works => k_is)
    (case l_check_works => k_is)
    (case c_check_works => k_is)
    (case k_check_works => k_is)
    (case a_levels_from => k_is)
    (case l_levels_from => k_is)
    (case c_levels_from => k_is)
    (case k_levels_from => k_is)
    (case a_shown => k_is)
    (case l_shown => k_is)
    (case c_shown => k_is)
    (case k_shown => k_is)
    (case a_law_start => k_is)
    (case l_law_start => k_is)
    (case c_law_start => k_is)
    (case k_law_start => k_is)
    (case a_law_drawn => k_is)
    (case l_law_drawn => k_is)
    (case c_law_drawn => k_is)
    (case k_law_drawn => k_is)
    (case a_law_same => k_is)
    (case l_law_same => k_is)
    (case c_law_same => k_is)
    (case k_law_same => k_is)
    (case a_law_kind => k_is)
    (case l_law_kind => k_is)
    (case c_law_kind => k_is)
    (case k_law_kind => k_is)
    (case a_law_works => k_is)
    (case l_law_works => k_is)
    (case c_law_works => k_is)
    (case k_law_works => k_is)
    (case a_law_wide => k_is)
    (case l_law_wide => k_is)
    (case c_law_wide => k_is)
    (case k_law_wide => k_is)
    (case a_law_gap => k_is)
    (case l_law_gap => k_is)
    (case c_law_gap => k_is)
    (case k_law_gap => k_is)
    (case a_law_in => k_is)
    (case l_law_in => k_is)
    (case c_law_in => k_is)
    (case k_law_in => k_is)
    (case a_law_far => k_is)
    (case l_law_far => k_is)
    (case c_law_far => k_is)
    (case k_law_far => k_is)
    (case a_law_levels => k_is)
    (case l_law_levels => k_is)
    (case c_law_levels => k_is)
    (case k_law_levels => k_is)
    (case a_law_closes => k_is)
    (case l_law_closes => k_is)
    (case c_law_closes => k_is)
    (case k_law_closes => k_is)
    (case a_law => k_is)
    (case l_law => k_is)
    (case c_law => k_is)
    (case k_law => k_is)
    (case aC_Ring => k_is)
    (case a_Ring_init => k_is)
    (case i_Ring_init => k_is)
    (case l_Ring_init => k_is)
    (case c_Ring_init => k_is)
    (case k_Ring_init => k_is)
    (case a_Ring_is_timely => k_is)
    (case i_Ring_is_timely => k_is)
    (case l_Ring_is_timely => k_is)
    (case c_Ring_is_timely => k_is)
    (case k_Ring_is_timely => k_is)
    (case a_Ring_fits => k_is)
    (case i_Ring_fits => k_is)
    (case l_Ring_fits => k_is)
    (case c_Ring_fits => k_is)
    (case k_Ring_fits => k_is)
    (case a_Ring_first_places => k_is)
    (case i_Ring_first_places => k_is)
    (case l_Ring_first_places => k_is)
    (case c_Ring_first_places => k_is)
    (case k_Ring_first_places => k_is)
    (case a_Ring_next_places => k_is)
    (case i_Ring_next_places => k_is)
    (case l_Ring_next_places => k_is)
    (case c_Ring_next_places => k_is)
    (case k_Ring_next_places => k_is)
    (case a_Ring_next_level => k_is)
    (case i_Ring_next_level => k_is)
    (case l_Ring_next_level => k_is)
    (case c_Ring_next_level => k_is)
    (case k_Ring_next_level => k_is)
    (case a_Ring_levels_of => k_is)
    (case i_Ring_levels_of => k_is)
    (case l_Ring_levels_of => k_is)
    (case c_Ring_levels_of => k_is)
    (case k_Ring_levels_of => k_is)
    (case a_Ring_comes_back => k_is)
    (case i_Ring_comes_back => k_is)
    (case l_Ring_comes_back => k_is)
    (case c_Ring_comes_back => k_is)
    (case k_Ring_comes_back => k_is)
    (case pg_Ring => k_is)
    (case hdd_Ring => k_is)
    (case po_Ring => k_is)
    (case sa_Ring => k_is)
    (case mk_Ring => k_is)
    (case kc_Ring => k_is)
    (case n_Ring_low => k_is)
    (case n_Ring_high => k_is)
    (case n_Ring_works => k_is)
    (case lc => k_is)
    (case v11 => exact rfl)
    (case hch => kernel_rfl)
    (case nPt => kernel_rfl)
    (case z_isinstance => k_is)
    (case z_len => k_is)
    (case z_int => k_is)
    (case z_bool => k_is)
    (case z_range => k_is)
    (case z_list => k_is)
    (case z_tuple => k_is)
    (case z_str => k_is)
    (case z_sum => k_is)
    (case z_ValueError => k_is)
    (case z_max => k_is)
    (case z_min => k_is)
    (case z_sorted => k_is)
    (case z_set => k_is)
    (case q_GREATEST_HIGH => k_is)
    (case q_MOST_WORKS => k_is)
    (case q_LONGEST_WORK => k_is)
    (case aD => k_is)
    (case aC0 => k_is)
    (case aC1 => k_is)
    (case aC2 => k_is)
    (case aC3 => k_is)
    (case aC4 => k_is)
    (case aC5 => k_is)
    (case aC6 => k_is)
    (case aC7 => k_is)
    (case aC8 => k_is)
    (case bD => k_is)
    (case hD => k_is)
    (case tD => k_is)
    (case xn => k_is)
    (case xt => k_is)
    (case x5 => k_exc)
    (case kk5 => k_is)
    (case b5 => k_is)
    (case t5 => k_is)
    (case hg5 => k_is)
    (case hk5 => k_is)
    (case hd5 => k_is)
    (case ha5 => k_is)
    (case hm5 => k_is)
    (case sD5 => k_is)
    (case kv5 => kernel_rfl)
    (case ki5_0 => kernel_rfl)
    (case ki5_1 => kernel_rfl)
    (case ki5_2 => kernel_rfl)
    (case ki5_3 => kernel_rfl)
    (case ki5_4 => kernel_rfl)
    (case ki5_5 => kernel_rfl)
    (case ki5_6 => kernel_rfl)
    (case ki5_7 => kernel_rfl)
    (case ki5_8 => kernel_rfl)
    (case hT => exact PySem.W.km_tabs_of Y _ (by k_mem))
