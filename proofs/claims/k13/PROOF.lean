import PyProof.Rows.All
import Wide.All
import OpenK.AllK
import Wide.FinOn
import HandS.ForMost
import HandS.ForExc
import HandS.Codes
import HandS.Lambda
import HandS.EndTab
import HandS.IsInst
import HandS.ExcIs
import HandS.Wide
import HandS.SetFor
import HandS.TupMul
import HandS.Conv
import HandS.Zip
import KE.SortData
import HandS.SetBool
import HandS.Strs
import KE.KDictKeyed
import KE.KDictDisplayH
import HandS.TupAny
import HandS.Style
import KE.GoesZip
import KE.KDictCopyH
import PySem.Challenge.RW_windowdog_k13_whole_tasks_never_bitten
set_option Elab.async false
set_option linter.all false
set_option maxRecDepth 100000
set_option maxHeartbeats 4000000
/-! The readings step by step; heaps in which one list (the drawing's) changes. -/
namespace Wd
open PySem PySem.Spec PyProof.Rows L2

/-! ### rules -/
section
variable {X : Cx} {a b c d : Expr} {ta tb tc td : TE} {pos : Pos}
def tChain3 (r r' r2 : R2) (ta tb tc td : TE) : TE := fun σ H Q => ta σ H fun x H1 => tb σ H1 fun y H2 => r x y H2 fun z H3 => ∃ k, z = .bl k ∧
  (if k = true then tc σ H3 fun w' H4 => r' y w' H4 fun z2 H5 => ∃ k2, z2 = .bl k2 ∧ (if k2 = true then td σ H5 fun w2 H6 => r2 w' w2 H6 Q else Q (.bl false) H5) else Q (.bl false) H3)
theorem pe_chain3 {op op' op2 : CmpOp} {r r' r2 : R2} (ho : OpR X (compareOp op) r) (ho' : OpR X (compareOp op') r') (ho2 : OpR X (compareOp op2) r2) (ha : PE X a ta) (hb : PE X b tb) (hc : PE X c tc) (hd : PE X d td)
    (hm : lastMarks [op, op', op2] [b, c, d] = false := by with_unfolding_all rfl) : PE X (.Compare a [op, op', op2] [b, c, d] pos) (tChain3 r r' r2 ta tb tc td) := by
  refine ⟨fun pins s σ H Q I h => ?_⟩
  refine Compare_chain (thn (ha.run pins s σ H _ I h) fun v s1 ⟨x, H1, I1, r1, q1⟩ => chain_link (thn (hb.run pins s1 σ H1 _ I1 q1) fun u s2 ⟨y, H2, I2, r2, q2⟩ =>
    thn (ho pins s2 σ H2 x y v u _ I2 r1 r2 q2) fun d s3 ⟨z, H3, I3, r3, k, e, q3⟩ => ?_)) hm
  subst e
  cases r3
  refine wpAny_truthy_bool ?_
  cases k with
  | false => exact ite_ff ⟨.bl false, H3, I3, rfl, q3⟩
  | true =>
    refine ite_tt (chain_link (thn (hc.run pins s3 σ H3 _ I3 q3) fun w' s4 ⟨z', H4, I4, r4, q4⟩ => thn (ho' pins s4 σ H4 y z' u w' _ I4 r2 r4 q4) fun d5 s5 ⟨z5, H5, I5, r5, k5, e5, q5⟩ => ?_))
    subst e5
    cases r5
    refine wpAny_truthy_bool ?_
    cases k5 with
    | false => exact ite_ff ⟨.bl false, H5, I5, rfl, q5⟩
    | true => exact ite_tt (chain_last (thn (hd.run pins s5 σ H5 _ I5 q5) fun w6 s6 ⟨z6, H6, I6, r6, q6⟩ => ho2 pins s6 σ H6 z' z6 w' w6 Q I6 r4 r6 q6))
end

section
variable {X : Cx} {K : PySem.W.Frag} {name : Str} {T id : String} {r : V → List V → Hp → VK → Prop} {o e : Expr} {es : List Expr} {to : TE} {t : TA} {apos cpos : Pos}
theorem pe_bmK (hK : X.K = K) (pa : PlainAttrs T) (slot : Slot T name id) (hty : typeOf (.builtin id) = pure (.type "method_descriptor")) (hm : MtR X id r) (ho : PE X o to) (ha : PA X (e :: es) t)
    (hbase : attributeBase o name X.env (eval o X.env) = eval o X.env := by rfl)
    (hfew : ((backTo cpos (starEach (e :: es) X.env)).all (fun x => !x.1) && (backToKw cpos (keywordEach [] X.env)).all (fun x => x.1.isSome)
      && decide ((e :: es).length + ([] : List Keyword).length + (if ([] : List Keyword).isEmpty then 0 else 1) < 30)) = true := by rfl)
    (hline : (apos.endLine == cpos.line) = true := by rfl) (hs : starEach (e :: es) X.env = (false, eval e X.env) :: starEach es X.env := by rfl) (hplain : (backTo cpos (starEach es X.env)).any (·.1) = false := by rfl) : PE X (.Call (.Attribute o name apos) (e :: es) [] cpos) (tBM K T r to t) := by
  subst hK; exact pe_bm pa slot hty hm ho ha hbase hfew hline hs hplain
theorem pe_bm0K (hK : X.K = K) (pa : PlainAttrs T) (slot : Slot T name id) (hty : typeOf (.builtin id) = pure (.type "method_descriptor")) (hm : MtR X id r) (ho : PE X o to)
    (hbase : attributeBase o name X.env (eval o X.env) = eval o X.env := by rfl) (hline : (apos.endLine == cpos.line) = true := by rfl) : PE X (.Call (.Attribute o name apos) [] [] cpos) (tBM0 K T r to) := by
  subst hK; exact pe_bm0 pa slot hty hm ho hbase hline
end

/-- a def of the module that may let an exception out -/
structure CalX (P : Program) (w : World) (K : PySem.W.Frag) (mg : Str → Option Value) (base : Heap) (k : Nat) (x : Str) (sp : Sp) : Prop where
  ex : ∃ (f : Addr) (fd : FuncData) (ps : List Str), FnOk P w K mg base (L2.CX P w) k f fd ps sp ∧ mg x = some (.ref f) ∧ PySem.W.keepIn K (.ref f) = true ∧ Binds K fd ps []
section
variable {X : Cx} {k j : Nat} {x : Str} {sp : Sp} {p pos : Pos} {e : Expr} {es : List Expr} {t : TA} {E : L2.St → XK}
theorem pe_cX (c : CalX X.prog X.w X.K X.mg X.base k x sp) (hr : Room j X.A) (hk : k ≤ j) (hg : Gl X x) (hx : ∀ σ, PassesAt (L2.CX X.prog X.w) X σ (E σ)) (ha : PA X (e :: es) t)
    (hdb : (x == ("__debug__" : Str)) = false := by decide) (he : starEach (e :: es) X.env = (false, eval e X.env) :: starEach es X.env := by rfl) (hpl : (backTo pos (starEach es X.env)).any (·.1) = false := by rfl) :
    PE X (.Call (.Name x p) (e :: es) [] pos) (tCallS sp E t) := by
  obtain ⟨f, fd, ps, F, hm, kp, b⟩ := c.ex
  exact pe_callS F (hr.mono hk) hg hm kp b hx ha hdb he hpl
end
section
variable {P : Program} {w : World} {K : PySem.W.Frag} {mg : Str → Option Value} {base : Heap}
/-- a def by its body, which may let an exception out -/
theorem calX {x : Str} {st : Stmt} {f : Addr} {fd : FuncData} {N ps : List Str} {k : Nat} {sp : Sp} (F : C8.Def K mg x st f fd) (b : Binds K fd ps []) (S : FnScope N ps (C8.fnScope st)) (len : ∀ vs H Q E, sp vs H Q E → vs.length = ps.length)
    (hbody : ∀ (cdv : Value) (A : Around) (outer : List Env) (s : Shared) (H : Hp) (vs : List V) (Q : VK) (E : XK), Room k (A.deeper (envOfC x (C8.fnScope st) s.heap.objs.size f cdv)) → sp vs H Q E →
      ∃ t, PSs (cxOf (L2.CX P w) P w K mg base N x (C8.fnScope st) f cdv A outer s H E) (C8.fnBody st) t ∧ t { nx := fun _ H' => Q .non H', rt := Q } (L2.start N vs) H) : CalX P w K mg base (k + 1) x sp := by
  refine ⟨f, fd, ps, ?_, F.mgf, F.kp, b⟩
  obtain ⟨oc, od, dV, kV, doc, pm, an, cdv, ct, osl, rfl, lk, hcd⟩ := F.fn.ex
  exact fn_of lk hcd S len fun A outer s H vs Q E hr hsp => hbody cdv A outer s H vs Q E hr hsp
end

/-! ### list.count of flat items -/
section
variable {X : Cx}
theorem count_eqU {x : V} : ∀ {xs : List V} {us : List Value}, Vals xs us → xs.all flatV = true → us.countP (eqU x) = xs.countP fun y => eqV y x
  | _, _, .nil, _ => rfl
  | y :: xs, u :: us, .cons r t, f => by
    rw [List.all_cons, Bool.and_eq_true] at f
    rw [List.countP_cons, List.countP_cons, eqU_of r f.1, count_eqU t f.2]
def rCntV (K : PySem.W.Frag) : V → List V → Hp → VK → Prop := fun x xs H Q => ∃ (p : Addr) (ys : List V) (y : V), x = .ref p ∧ xs = [y] ∧ SqL K H p ys ∧ flatV y = true ∧ ys.all flatV = true ∧ Q (.int ((ys.countP fun z => eqV z y : Nat) : Int)) H
theorem mt_lcountV : MtR X "list.count" (rCntV X.K) := by
  intro pins s σ H x xs v us Q I rx rxs h
  obtain ⟨p, ys, y, rfl, rfl, hs, fy, fys, q⟩ := h
  cases rx
  obtain ⟨u, rfl, ru⟩ := rxs.one
  obtain ⟨its, rv, ⟨⟨cls, dd, data, sl⟩, n, ho, hc, hdn, hd⟩, hlen⟩ := I.list hs
  simp only at hc hd
  subst hc hd
  refine call_meets PySem.F.slot_list_count ⟨_, ho, rfl⟩ PySem.F.entry_list_count (PySem.F.args_list_count_2 _ _)
    (SeqAt.list_countAt p its.toArray n dd sl u (eqU y)) ⟨ho, fun u' hu' => mem_eqAt ru fy rv fys u' (by simpa using hu'), ?_⟩
  have ec : its.toArray.toList.countP (eqU y) = ys.countP fun z => eqV z y := count_eqU rv fys
  refine ⟨.int (ys.countP fun z => eqV z y : Nat), H, I.tok _, ⟨s.toks, ?_⟩, q⟩
  show Value.int ((its.toArray.toList.countP (eqU y) : Nat) : Int) s.toks = Value.int ((ys.countP fun z => eqV z y : Nat) : Int) s.toks
  rw [ec]
end

/-! ### isinstance of a caught error, its class told by the reading -/
def rIsE2 (K : PySem.W.Frag) (cls : Value) (d : Option Addr) (a : Addr) : List V → Hp → VK → Prop := fun xs H Q => ∃ (D : Addr) (c : V) (cv : Value) (b : Bool), cls = .ref D ∧ d = none ∧ ExcC K D ∧ xs = [.ref a, c] ∧ (∀ u, RelV c u → u = cv) ∧ PySem.W.kitOne K (.ref D) cv = some b ∧ Q (.bl b) H
theorem call_isE2 {X : Cx} {a : Addr} {cls : Value} {d : Option Addr} {oe : Obj} {pn : List (Addr × Obj)} (hz : Zc cls d oe) (hf : ∃ vs, oe.data = .fields vs) : CallR (X.suite a ((a, oe) :: pn)) (.builtin "isinstance") (rIsE2 X.K cls d a) := by
  intro pins s σ H xs us Q I r h
  obtain ⟨D, c, cv, b, rfl, rfl, C, e, hcv, hk, q⟩ := h
  exact call_isE C hz hf pins s σ H xs us Q I r ⟨c, cv, b, e, hcv, hk, q⟩

/-- where an exception is, the slots are as many as the names -/
theorem takes_len {X : Cx} {W : WX} (t : Takes X W) : Takes X (fun c d σ H => σ.length = X.N.length → W c d σ H) := fun u s' x => by
  obtain ⟨a, B, sI, pins, σ, H, cls, d, e, I, x1, x2, x3, x4, x5, x6, q⟩ := x
  exact t u s' ⟨a, B, sI, pins, σ, H, cls, d, e, I, x1, x2, x3, x4, x5, x6, q I.len⟩

/-! ### built-ins by name -/
def rLen (K : PySem.W.Frag) : List V → Hp → VK → Prop := fun xs H Q => ∃ p ys, xs = [.ref p] ∧ (SqL K H p ys ∨ SqT K H p ys) ∧ Q (.int ys.length) H
theorem call_len1 {X : Cx} : CallR X (.builtin "len") (rLen X.K) := call_len_seq
def rListOf (K : PySem.W.Frag) : List V → Hp → VK → Prop := fun xs H Q => ∃ p ys, xs = [.ref p] ∧ (SqL K H p ys ∨ SqT K H p ys) ∧ ∀ l, H l = none → Q (.ref l) (upd H l (.lst ys))
theorem call_list1 {X : Cx} : CallR X (.type "list") (rListOf X.K) := call_list_of
def rMax2 : List V → Hp → VK → Prop := fun xs H Q => ∃ i j, xs = [.int i, .int j] ∧ Q (.int (if j > i then j else i)) H
theorem call_max1 {X : Cx} (hc : X.calm = true) : CallR X (.builtin "max") rMax2 := call_max2 hc
def rMin2 : List V → Hp → VK → Prop := fun xs H Q => ∃ i j, xs = [.int i, .int j] ∧ Q (.int (if j < i then j else i)) H
theorem call_min1 {X : Cx} (hc : X.calm = true) : CallR X (.builtin "min") rMin2 := call_min2 hc
def rInt1 : List V → Hp → VK → Prop := fun xs H Q => (∃ i, xs = [.int i] ∧ Q (.int i) H) ∨ ∃ k, xs = [.bl k] ∧ Q (.int (if k then 1 else 0)) H
theorem call_intB {X : Cx} : CallR X (.type "int") rInt1 := call_int1

def rIsN : R2 := fun x y H Q => y = .non ∧ Q (.bl (decide (x = .non))) H
theorem op_isN1 {X : Cx} : OpR X (compareOp .Is) rIsN := op_isN
def rNotN : R2 := fun x y H Q => y = .non ∧ Q (.bl (!decide (x = .non))) H
theorem op_notN1 {X : Cx} : OpR X (compareOp .IsNot) rNotN := op_notN

/-! ### steps -/
section
variable {σ : L2.St} {H : Hp} {Q : VK} {QB : Bool → Hp → Prop} {QA : List V → Hp → Prop} {i : Nat} {v x y : V} {ta tb tc te : TE} {t u : TT} {ts us : TS} {D : Ends} {n m : Int} {K : PySem.W.Frag} {r r' r2 : R2}
theorem g_var (h : σ[i]? = some (some v)) (q : Q v H) : tVar i σ H Q := ⟨v, h, q⟩
theorem g_c (q : Q v H) : tC v σ H Q := q
theorem g_op (h : ta σ H fun x H1 => tb σ H1 fun y H2 => r x y H2 Q) : tOp r ta tb σ H Q := h
theorem g_un {r : V → Hp → VK → Prop} (h : ta σ H fun x H1 => r x H1 Q) : tUn r ta σ H Q := h
theorem g_I0 {g : Int → Int → V} (q : Q (g n m) H) : rI0 g (.int n) (.int m) H Q := ⟨n, m, rfl, rfl, q⟩
theorem g_I {C : Int → Int → Prop} {g : Int → Int → V} (c : C n m) (q : Q (g n m) H) : rI C g (.int n) (.int m) H Q := ⟨n, m, rfl, rfl, c, q⟩
theorem g_U {g : Int → V} (q : Q (g n) H) : rU g (.int n) H Q := ⟨n, rfl, q⟩
theorem g_eqI (q : Q (.bl (decide (n = m))) H) : rEq (.int n) (.int m) H Q := ⟨rfl, by
  have e : decide (V.int n = V.int m) = decide (n = m) := by by_cases h : n = m <;> simp [h]
  rw [e]; exact q⟩
theorem g_neI (q : Q (.bl (!decide (n = m))) H) : rNe (.int n) (.int m) H Q := ⟨rfl, by
  have e : decide (V.int n = V.int m) = decide (n = m) := by by_cases h : n = m <;> simp [h]
  rw [e]; exact q⟩
theorem g_eqS {a b : Str} (q : Q (.bl (decide (a = b))) H) : rEq (.str a) (.str b) H Q := ⟨rfl, by
  have e : decide (V.str a = V.str b) = decide (a = b) := by by_cases h : a = b <;> simp [h]
  rw [e]; exact q⟩
theorem g_neS {a b : Str} (q : Q (.bl (!decide (a = b))) H) : rNe (.str a) (.str b) H Q := ⟨rfl, by
  have e : decide (V.str a = V.str b) = decide (a = b) := by by_cases h : a = b <;> simp [h]
  rw [e]; exact q⟩
theorem g_eqB {a b : Bool} (q : Q (.bl (a == b)) H) : rEq (.bl a) (.bl b) H Q := ⟨rfl, by
  have e : decide (V.bl a = V.bl b) = (a == b) := by cases a <;> cases b <;> rfl
  rw [e]; exact q⟩
theorem g_neB {a b : Bool} (q : Q (.bl (a != b)) H) : rNe (.bl a) (.bl b) H Q := ⟨rfl, by
  have e : (!decide (V.bl a = V.bl b)) = (a != b) := by cases a <;> cases b <;> rfl
  rw [e]; exact q⟩
theorem g_isN (q : Q (.bl (decide (x = .non))) H) : rIsN x .non H Q := ⟨rfl, q⟩
theorem g_notN (q : Q (.bl (!decide (x = .non))) H) : rNotN x .non H Q := ⟨rfl, q⟩
theorem g_test (h : te σ H fun x H' => ∃ k, x = .bl k ∧ QB k H') : tTest te σ H QB := h
theorem g_tB (h : te σ H fun x H' => ∃ k, x = .bl k ∧ QB k H') : tB te σ H QB := h
theorem g_bl {b : Bool} (q : QB b H) : ∃ k, V.bl b = .bl k ∧ QB k H := ⟨b, rfl, q⟩
theorem g_and (h : t σ H fun c H1 => if c = true then u σ H1 QB else QB false H1) : tAnd t u σ H QB := h
theorem g_or (h : t σ H fun c H1 => if c = true then QB true H1 else u σ H1 QB) : tOr t u σ H QB := h
theorem g_not (h : t σ H fun c H1 => QB (!c) H1) : tNot t σ H QB := h
theorem g_andV (h : ta σ H fun x H1 => ∃ c, x = .bl c ∧ if c = true then tb σ H1 Q else Q (.bl false) H1) : tAndV ta tb σ H Q := h
theorem g_orV (h : ta σ H fun x H1 => ∃ c, x = .bl c ∧ if c = true then Q (.bl true) H1 else tb σ H1 Q) : tOrV ta tb σ H Q := h
theorem g_notV (h : ta σ H fun x H1 => ∃ c, x = .bl c ∧ Q (.bl (!c)) H1) : tNotV ta σ H Q := h
theorem g_blI {b : Bool} {p : Bool → Prop} (q : p b) : ∃ k, V.bl b = .bl k ∧ p k := ⟨b, rfl, q⟩
theorem g_if (h : t σ H fun c H1 => if c = true then ta σ H1 Q else tb σ H1 Q) : tIf t ta tb σ H Q := h
theorem g_chain (h : ta σ H fun x H1 => tb σ H1 fun y H2 => r x y H2 fun z H3 => ∃ k, z = .bl k ∧ (if k = true then tc σ H3 fun w' H4 => r' y w' H4 Q else Q (.bl false) H3)) : tChain r r' ta tb tc σ H Q := h
theorem g_chain3 {td : TE} (h : ta σ H fun x H1 => tb σ H1 fun y H2 => r x y H2 fun z H3 => ∃ k, z = .bl k ∧
  (if k = true then tc σ H3 fun w' H4 => r' y w' H4 fun z2 H5 => ∃ k2, z2 = .bl k2 ∧ (if k2 = true then td σ H5 fun w2 H6 => r2 w' w2 H6 Q else Q (.bl false) H5) else Q (.bl false) H3)) : tChain3 r r' r2 ta tb tc td σ H Q := h
theorem g_nil (q : QA [] H) : tNil σ H QA := q
theorem g_cons {tr : TA} (h : ta σ H fun x H1 => tr σ H1 fun xs H2 => QA (x :: xs) H2) : tCons ta tr σ H QA := h
theorem g_tup {tr : TA} (h : tr σ H fun xs H1 => xs.length ≤ sizeLine ∧ ∀ p, H1 p = none → Q (.ref p) (upd H1 p (.tup xs))) : tTup tr σ H Q := h
theorem g_lst {tr : TA} (h : tr σ H fun xs H1 => xs.length ≤ sizeLine ∧ ∀ p, H1 p = none → Q (.ref p) (upd H1 p (.lst xs))) : tLst tr σ H Q := h
theorem g_CB {r : List V → Hp → VK → Prop} {tr : TA} (h : tr σ H fun vs H1 => r vs H1 Q) : tCB r tr σ H Q := h
theorem g_call {sp : Sp} {dvs : List V} {E : XK} {tr : TA} (h : tr σ H fun vs H1 => sp (vs ++ dvs) H1 Q E) : tCall sp dvs E tr σ H Q := h
theorem g_callS {sp : Sp} {E : L2.St → XK} {tr : TA} (h : tr σ H fun vs H1 => sp vs H1 Q (E σ)) : tCallS sp E tr σ H Q := h
theorem g_bm {T : String} {r : V → List V → Hp → VK → Prop} {tr : TA} (h : ta σ H fun x H1 => tyV K T x H1 ∧ tr σ H1 fun xs H2 => r x xs H2 Q) : tBM K T r ta tr σ H Q := h
theorem g_bm0 {T : String} {r : V → List V → Hp → VK → Prop} (h : ta σ H fun x H1 => tyV K T x H1 ∧ r x [] H1 Q) : tBM0 K T r ta σ H Q := h
theorem g_sl {r : V → Option Int → Option Int → Hp → VK → Prop} {tl th : TO} (h : te σ H fun x H1 => tl σ H1 fun l H2 => th σ H2 fun u H3 => r x l u H3 Q) : tSl r te tl th σ H Q := h
theorem g_part {QO : Option Int → Hp → Prop} (h : te σ H fun x H1 => ∃ i, x = .int i ∧ QO (some i) H1) : tPart te σ H QO := h
theorem g_part1 {p : Int → Prop} (h : p n) : ∃ i, V.int n = .int i ∧ p i := ⟨n, rfl, h⟩
theorem g_noPart {QO : Option Int → Hp → Prop} (h : QO none H) : tNoPart σ H QO := h
-- statements
theorem g_seq {a : L2.St → Hp → Prop} {b : VK} {c d : L2.St → Hp → Prop} (h : ts ⟨us ⟨a, b, c, d⟩, b, c, d⟩ σ H) : tSeq ts us ⟨a, b, c, d⟩ σ H := h
theorem g_fit {xs : List V} {R : Addr → Prop} (hl : Nat.ble xs.length 1000 = true) (q : ∀ p, H p = none → R p) : xs.length ≤ sizeLine ∧ ∀ p, H p = none → R p := ⟨Nat.le_trans (Nat.le_of_ble_eq_true hl) (by decide), q⟩
theorem g_next (h : D.nx σ H) : tNext D σ H := h
theorem g_asg {g : TG} (h : te σ H fun x H1 => g x σ H1 D.nx) : tAsg te g D σ H := h
theorem g_name {Qg : L2.St → Hp → Prop} (h : Qg (σ.set i (some v)) H) : gName i v σ H Qg := h
theorem g_sub {to ti : TE} {t : TSet} {Qg : L2.St → Hp → Prop} (h : to σ H fun o H1 => ti σ H1 fun i H2 => t o i v H2 fun H3 => Qg σ H3) : gSub to ti t v σ H Qg := h
theorem g_gnil {Qg : L2.St → Hp → Prop} (h : Qg σ H) : gNil [] σ H Qg := ⟨rfl, h⟩
theorem g_gcons {tg : TG} {ug : TGs} {vs : List V} {Qg : L2.St → Hp → Prop} (h : tg v σ H fun σ' H' => ug vs σ' H' Qg) : gCons tg ug (v :: vs) σ H Qg := ⟨v, vs, rfl, h⟩
theorem g_drop (h : te σ H fun _ H1 => D.nx σ H1) : tDrop te D σ H := h
theorem g_ret (h : te σ H D.rt) : tRet te D σ H := h
theorem g_retN (h : D.rt .non H) : tRetN D σ H := h
theorem g_brk (h : D.bk σ H) : tBreak D σ H := h
theorem g_cont (h : D.ct σ H) : tCont D σ H := h
theorem g_ifS (h : t σ H fun b H1 => if b = true then ts D σ H1 else us D σ H1) : tIfS t ts us D σ H := h
theorem g_nx {a : L2.St → Hp → Prop} {b : VK} {c d : L2.St → Hp → Prop} (h : a σ H) : Ends.nx ⟨a, b, c, d⟩ σ H := h
theorem g_bk {a : L2.St → Hp → Prop} {b : VK} {c d : L2.St → Hp → Prop} (h : c σ H) : Ends.bk ⟨a, b, c, d⟩ σ H := h
theorem g_ct {a : L2.St → Hp → Prop} {b : VK} {c d : L2.St → Hp → Prop} (h : d σ H) : Ends.ct ⟨a, b, c, d⟩ σ H := h
theorem g_rt {a : L2.St → Hp → Prop} {b : VK} {c d : L2.St → Hp → Prop} (h : b v H) : Ends.rt ⟨a, b, c, d⟩ v H := h
theorem g_rng1 {tr : TA} {R : It → Hp → Prop} (h : tr σ H fun vs H1 => ∃ j : Int, vs = [.int j] ∧ -(2 ^ 62) ≤ j ∧ j < 2 ^ 62 ∧ R (Itr 0 j.toNat) H1) : iRng1 tr σ H R := h
theorem g_rng2 {tr : TA} {R : It → Hp → Prop} (h : tr σ H fun vs H1 => ∃ i j : Int, vs = [.int i, .int j] ∧ (-(2 ^ 62) ≤ i ∧ i < 2 ^ 62 ∧ -(2 ^ 62) ≤ j ∧ j < 2 ^ 62) ∧ R (Itr i (j - i).toNat) H1) : iRng2 tr σ H R := h
theorem g_iList {R : It → Hp → Prop} (h : te σ H fun x H1 => ∃ a, x = .ref a ∧ (∃ xs, SqL K H1 a xs) ∧ R (Itl K a) H1) : iList K te σ H R := h
theorem g_iTup {R : It → Hp → Prop} (h : te σ H fun x H1 => ∃ a, x = .ref a ∧ (∃ xs, SqT K H1 a xs) ∧ R (Itt K a) H1) : iTup K te σ H R := h
def ForEnd (g : TG) (tb : TS) (a : L2.St → Hp → Prop) (b : VK) (σ : L2.St) (J : It) (H1 : Hp) : Prop := ∃ W : Nat → Nat → L2.St → Hp → Prop, (∃ m, W 0 m σ H1) ∧ ∀ i m σ H, W i m σ H →
  (J.stop i H ∧ a σ H) ∨ (J.go i H ∧ ∃ N : L2.St → Hp → Prop, (∀ σ' H', N σ' H' → ∃ m', m' < m ∧ W (i + 1) m' σ' H') ∧ ∀ x H', J.yld i H x H' → g x σ H' fun σ2 H2 => tb ⟨N, b, a, N⟩ σ2 H2)
theorem g_for {a : L2.St → Hp → Prop} {b : VK} {c d : L2.St → Hp → Prop} {wi : TI} {g : TG} {tb : TS} (h : wi σ H (ForEnd g tb a b σ)) : tFor wi g tb ⟨a, b, c, d⟩ σ H := h
theorem w_list {a : L2.St → Hp → Prop} {b : VK} {g : TG} {tb : TS} {p : Addr} {xs : List V} (Pv : Nat → L2.St → Hp → Prop) (h0 : Pv 0 σ H) (hl : ∀ i σ H, i ≤ xs.length → Pv i σ H → SqL K H p xs)
    (hs : ∀ i x σ H, xs[i]? = some x → Pv i σ H → g x σ H fun σ2 H2 => tb ⟨Pv (i + 1), b, a, Pv (i + 1)⟩ σ2 H2) (hd : ∀ σ H, Pv xs.length σ H → a σ H) : ∃ q, V.ref p = .ref q ∧ (∃ xs, SqL K H q xs) ∧ ForEnd g tb a b σ (Itl K q) H :=
  ⟨p, rfl, ⟨xs, hl 0 σ H (Nat.zero_le _) h0⟩, for_list (D := ⟨a, b, fun _ _ => False, fun _ _ => False⟩) Pv h0 hl hs hd⟩
theorem w_tup {a : L2.St → Hp → Prop} {b : VK} {g : TG} {tb : TS} {p : Addr} {xs : List V} (Pv : Nat → L2.St → Hp → Prop) (h0 : Pv 0 σ H) (hl : ∀ i σ H, i ≤ xs.length → Pv i σ H → SqT K H p xs)
    (hs : ∀ i x σ H, xs[i]? = some x → Pv i σ H → g x σ H fun σ2 H2 => tb ⟨Pv (i + 1), b, a, Pv (i + 1)⟩ σ2 H2) (hd : ∀ σ H, Pv xs.length σ H → a σ H) : ∃ q, V.ref p = .ref q ∧ (∃ xs, SqT K H q xs) ∧ ForEnd g tb a b σ (Itt K q) H :=
  ⟨p, rfl, ⟨xs, hl 0 σ H (Nat.zero_le _) h0⟩, for_tup (D := ⟨a, b, fun _ _ => False, fun _ _ => False⟩) Pv h0 hl hs hd⟩
/-- range(n) -/
theorem w_range {a : L2.St → Hp → Prop} {b : VK} {g : TG} {tb : TS} {n : Int} (h1 : -(2 ^ 62) ≤ n) (h2 : n < 2 ^ 62) (Pv : Nat → L2.St → Hp → Prop) (h0 : Pv 0 σ H)
    (hs : ∀ i σ H, i < n.toNat → Pv i σ H → g (.int i) σ H fun σ2 H2 => tb ⟨Pv (i + 1), b, a, Pv (i + 1)⟩ σ2 H2) (hd : ∀ σ H, Pv n.toNat σ H → a σ H) :
    ∃ j : Int, [V.int n] = [.int j] ∧ -(2 ^ 62) ≤ j ∧ j < 2 ^ 62 ∧ ForEnd g tb a b σ (Itr 0 j.toNat) H :=
  ⟨n, rfl, h1, h2, for_range (D := ⟨a, b, fun _ _ => False, fun _ _ => False⟩) Pv h0 (fun i σ H hi p => by have q := hs i σ H hi p; rw [Int.zero_add]; exact q) hd⟩
theorem w_while {a : L2.St → Hp → Prop} {b : VK} {c d : L2.St → Hp → Prop} {tc : TT} {tb : TS} (Pv : L2.St → Hp → Prop) (μ : L2.St → Hp → Nat) (h0 : Pv σ H)
    (hs : ∀ σ H, Pv σ H → tc σ H fun b' H1 => if b' = true then tb ⟨fun σ' H' => Pv σ' H' ∧ μ σ' H' < μ σ H, b, a, fun σ' H' => Pv σ' H' ∧ μ σ' H' < μ σ H⟩ σ H1 else a σ H1)
    (mono : ∀ σ H Q Q', (∀ b H1, Q b H1 → Q' b H1) → tc σ H Q → tc σ H Q') : tWhile tc tb ⟨a, b, c, d⟩ σ H := while_by Pv μ h0 hs mono
theorem g_itT {b : Bool} {A B : Prop} (h : b = true) (q : A) : if b = true then A else B := by rw [h]; exact iteT q
theorem g_itF {b : Bool} {A B : Prop} (h : b = false) (q : B) : if b = true then A else B := by rw [h]; exact iteF q
theorem g_ite {c : Prop} [Decidable c] {A B : Prop} (h1 : c → A) (h2 : ¬ c → B) : if decide c = true then A else B := by
  by_cases h : c
  · rw [decide_eq_true h]; exact iteT (h1 h)
  · rw [decide_eq_false h]; exact iteF (h2 h)
theorem g_iteN {c : Prop} [Decidable c] {A B : Prop} (h1 : ¬ c → A) (h2 : c → B) : if (!decide c) = true then A else B := by
  by_cases h : c
  · rw [decide_eq_true h]; exact iteF (h2 h)
  · rw [decide_eq_false h]; exact iteT (h1 h)
theorem g_len {p : Addr} {xs : List V} (h : SqL K H p xs ∨ SqT K H p xs) (q : Q (.int xs.length) H) : rLen K [.ref p] H Q := ⟨p, xs, rfl, h, q⟩
theorem g_ixL {p : Addr} {xs : List V} (h : SqL K H p xs) (ha : atI xs n = some v) (q : Q v H) : rIxL K (.ref p) (.int n) H Q := ⟨p, xs, n, v, rfl, rfl, h, ha, q⟩
theorem g_ixT {p : Addr} {xs : List V} (h : SqT K H p xs) (ha : atI xs n = some v) (q : Q v H) : rIxT K (.ref p) (.int n) H Q := ⟨p, xs, n, v, rfl, rfl, h, ha, q⟩
theorem g_setL {p : Addr} {xs : List V} {j : Nat} {q : Hp → Prop} (h : H p = some (.lst xs)) (hj : ixN xs.length n = some j) (k : q (upd H p (.lst (xs.set j v)))) : rSetL (.ref p) (.int n) v H q := ⟨p, xs, n, j, rfl, rfl, h, hj, k⟩
theorem mulW_small {i j : Int} (h1 : 0 ≤ i) (h2 : i < 2147483648) (h3 : 0 ≤ j) (h4 : j < 2147483648) : CMulW i j := wide_mul (a := 31) (b := 31) (by show _ < 2147483648; omega) (by show _ < 2147483648; omega) (by decide) (by decide) (by decide)
theorem divW_small {i j : Int} (h1 : 0 < j) (h2 : j < 10 ^ 38) : CDivW i j := wide_div (b := 127) h1 (by show _ < (2 : Nat) ^ 127; omega) (by decide) (by decide)
theorem g_append {p : Addr} {xs : List V} (h : H p = some (.lst xs)) (hl : xs.length < 100000) (q : Q .non (upd H p (.lst (xs ++ [v])))) : rAppend (.ref p) [v] H Q := ⟨p, xs, v, rfl, rfl, h, Nat.lt_of_lt_of_le hl (by decide), q⟩
theorem g_tyL {p : Addr} {xs : List V} {R : Prop} (h : H p = some (.lst xs)) (q : R) : tyV K "list" (.ref p) H ∧ R := ⟨.inl ⟨rfl, _, SqL.of h⟩, q⟩
theorem g_listOf {p : Addr} {xs : List V} (h : SqL K H p xs) (q : ∀ l, H l = none → Q (.ref l) (upd H l (.lst xs))) : rListOf K [.ref p] H Q := ⟨p, xs, rfl, .inl h, q⟩
theorem g_listOfT {p : Addr} {xs : List V} (h : SqT K H p xs) (q : ∀ l, H l = none → Q (.ref l) (upd H l (.lst xs))) : rListOf K [.ref p] H Q := ⟨p, xs, rfl, .inr h, q⟩
theorem g_int1B {b : Bool} (q : Q (.int (if b then 1 else 0)) H) : rInt1 [.bl b] H Q := .inr ⟨b, rfl, q⟩
theorem g_gtup {p : Addr} {xs : List V} {k : Nat} {tg : TGs} {Qg : L2.St → Hp → Prop} (h : SqT K H p xs) (hl : xs.length = k) (q : tg xs σ H Qg) : gTup K k tg (.ref p) σ H Qg := ⟨p, xs, rfl, h, hl, q⟩
theorem g_isi {c : V} {tv uv : Value} {b : Bool} (h1 : ClsV c uv) (h2 : TyX K H x tv) (h3 : PySem.W.kitOne K tv uv = some b) (q : Q (.bl b) H) : rIsi K [x, c] H Q := ⟨x, c, tv, uv, b, rfl, h1, h2, h3, q⟩
theorem g_max2 (q : Q (.int (if m > n then m else n)) H) : rMax2 [.int n, .int m] H Q := ⟨n, m, rfl, q⟩
theorem g_min2 (q : Q (.int (if m < n then m else n)) H) : rMin2 [.int n, .int m] H Q := ⟨n, m, rfl, q⟩
end

/-! ### heaps in which the list at S changes -/
def Frm (S : Addr) (H H' : Hp) : Prop := ∀ b o, b ≠ S → H b = some o → H' b = some o
theorem Frm.refl (S : Addr) (H : Hp) : Frm S H H := fun _ _ _ h => h
theorem Frm.trans {S : Addr} {H H1 H2 : Hp} (a : Frm S H H1) (b : Frm S H1 H2) : Frm S H H2 := fun c o n h => b c o n (a c o n h)
theorem Frm.of {S : Addr} {H H' : Hp} (e : Same H H') : Frm S H H' := fun b o _ h => e b o h
theorem Frm.set {S : Addr} {H : Hp} {o : HO} : Frm S H (upd H S o) := fun b u n h => by rw [upd_ne n]; exact h
theorem same_new {H : Hp} {p : Addr} {o : HO} (h : H p = none) : Same H (upd H p o) := fun b u e => by rw [upd_ne (ne_of_none e h)]; exact e
/-- what may be read at a, whatever becomes of S -/
def ScL (K : PySem.W.Frag) (S : Addr) (H : Hp) (a : Addr) (xs : List V) : Prop := (a ≠ S ∧ Rd H a (.lst xs)) ∨ ∀ H', SqL K H' a xs
theorem ScL.sq {K : PySem.W.Frag} {S : Addr} {H : Hp} {a : Addr} {xs : List V} (h : ScL K S H a xs) : SqL K H a xs := by
  rcases h with ⟨_, h⟩ | h
  · exact .inl h
  · exact h H
theorem ScL.frm {K : PySem.W.Frag} {S : Addr} {H H' : Hp} {a : Addr} {xs : List V} (h : ScL K S H a xs) (f : Frm S H H') : ScL K S H' a xs := by
  rcases h with ⟨n, h⟩ | h
  · refine .inl ⟨n, ?_⟩
    rcases h with h | ⟨o, h⟩
    · exact .inl (f _ _ n h)
    · exact .inr ⟨o, f _ _ n h⟩
  · exact .inr h
theorem ScL.of {K : PySem.W.Frag} {S : Addr} {H H' : Hp} {a : Addr} {xs : List V} (h : SqL K H a xs) (e : Same H H') (n : H S = none) : ScL K S H' a xs := by
  rcases h with h | h
  · rcases h with h | ⟨o, h⟩
    · exact .inl ⟨ne_of_none h n, .inl (e _ _ h)⟩
    · exact .inl ⟨ne_of_none h n, .inr ⟨o, e _ _ h⟩⟩
  · exact .inr fun H' => .inr h
/-- the drawing's state at S; what B tracks stands as it stood -/
def Dst (K : PySem.W.Frag) (B H : Hp) (S : Addr) : Prop := ∃ (sc : Addr) (ns : List Int) (c m r : Int), H S = some (.lst [.ref sc, .int c, .int m, .int r]) ∧ ScL K S B sc (ns.map V.int) ∧ Frm S B H ∧ ns.length ≤ 63 ∧ 0 ≤ c ∧ 0 ≤ m ∧ m < 2147483647
theorem Dst.same {K : PySem.W.Frag} {B H H' : Hp} {S : Addr} (d : Dst K B H S) (e : Same H H') : Dst K B H' S := by
  obtain ⟨sc, ns, c, m, r, h1, h2, h3, h4⟩ := d
  exact ⟨sc, ns, c, m, r, e _ _ h1, h2, h3.trans (.of e), h4⟩
theorem Dst.has {K : PySem.W.Frag} {B H : Hp} {S : Addr} (d : Dst K B H S) : H S ≠ none := by
  obtain ⟨sc, ns, c, m, r, h1, _⟩ := d
  rw [h1]; exact fun z => nomatch z
theorem Dst.ne {K : PySem.W.Frag} {B H : Hp} {S p : Addr} (d : Dst K B H S) (h : H p = none) : p ≠ S := fun e => d.has (e ▸ h)
theorem Dst.fresh {K : PySem.W.Frag} {B H : Hp} {S p : Addr} (d : Dst K B H S) (h : H p = none) : B p = none := by
  have n := d.ne h
  obtain ⟨sc, ns, c, m, r, h1, h2, h3, h4⟩ := d
  cases e : B p with
  | none => rfl
  | some o => rw [h3 p o n e] at h; cases h
/-- a thing that B does not know changes -/
theorem Dst.mut {K : PySem.W.Frag} {B H : Hp} {S p : Addr} {o : HO} (d : Dst K B H S) (n : p ≠ S) (h : B p = none) : Dst K B (upd H p o) S := by
  obtain ⟨sc, ns, c, m, r, h1, h2, h3, h4⟩ := d
  refine ⟨sc, ns, c, m, r, ?_, h2, fun b u hb e => ?_, h4⟩
  · rw [upd_ne n.symm]; exact h1
  · rw [upd_ne (ne_of_none e h)]; exact h3 b u hb e
theorem Frm.mut {S p : Addr} {H H' : Hp} {o : HO} (f : Frm S H H') (h : H p = none) : Frm S H (upd H' p o) := fun b u n e => by
  rw [upd_ne (ne_of_none e h)]; exact f b u n e
theorem Frm.new {S p : Addr} {H : Hp} {o : HO} (h : H p = none) : Frm S H (upd H p o) := .of (same_new h)
theorem Frm.back {S p : Addr} {H H' : Hp} (f : Frm S H H') (n : p ≠ S) (h : H' p = none) : H p = none := by
  cases e : H p with
  | none => rfl
  | some o => rw [f p o n e] at h; cases h
theorem Same.back {H H' : Hp} {p : Addr} (f : Same H H') (h : H' p = none) : H p = none := by
  cases e : H p with
  | none => rfl
  | some o => rw [f p o e] at h; cases h
theorem Same.mut {H H' : Hp} {p : Addr} {o : HO} (f : Same H H') (h : H p = none) : Same H (upd H' p o) := fun b u e => by
  rw [upd_ne (ne_of_none e h)]; exact f b u e
theorem pow_small {i j : Int} (h0 : 0 ≤ j) (h1 : j ≤ 1000) (h2 : i.natAbs < 2 ^ 32) : CPow i j := ⟨h0, by omega, Nat.lt_trans h2 (by decide)⟩
theorem atI_mem {xs : List V} {z : Int} (h0 : 0 ≤ z) (h1 : z < xs.length) : ∃ x, x ∈ xs ∧ atI xs z = some x := by
  have hl : z.toNat < xs.length := by omega
  exact ⟨xs[z.toNat], List.getElem_mem hl, at_of (j := z.toNat) (by omega) (List.getElem?_eq_getElem hl)⟩
theorem map_at {ns : List Int} {i : Nat} {x : V} (h : (ns.map V.int)[i]? = some x) : ∃ n, ns[i]? = some n ∧ x = V.int n := by
  rw [List.getElem?_map] at h
  cases hq : ns[i]? with
  | none => rw [hq] at h; cases h
  | some z => rw [hq] at h; exact ⟨z, rfl, (Option.some.inj h).symm⟩
/-- what stands beside S -/
def Live (S : Addr) (H : Hp) (L : List (Addr × HO)) : Prop := ∀ p ∈ L, p.1 ≠ S ∧ H p.1 = some p.2
theorem Live.nil {S : Addr} {H : Hp} : Live S H [] := fun _ h => (List.not_mem_nil h).elim
theorem Live.frm {S : Addr} {H H' : Hp} {L : List (Addr × HO)} (l : Live S H L) (f : Frm S H H') : Live S H' L := fun p h => ⟨(l p h).1, f _ _ (l p h).1 (l p h).2⟩
theorem Live.cons {S : Addr} {H : Hp} {L : List (Addr × HO)} {a : Addr} {o : HO} (l : Live S H L) (n : a ≠ S) (h : H a = some o) : Live S H ((a, o) :: L) := fun p hp => by
  rcases List.mem_cons.mp hp with e | e
  · subst e; exact ⟨n, h⟩
  · exact l p e
theorem Live.get {S : Addr} {H : Hp} {L : List (Addr × HO)} (l : Live S H L) (i : Nat) {a : Addr} {o : HO} (h : L[i]? = some (a, o)) : H a = some o := (l _ (List.mem_of_getElem? h)).2
theorem Live.ne {S : Addr} {H : Hp} {L : List (Addr × HO)} (l : Live S H L) (i : Nat) {a : Addr} {o : HO} (h : L[i]? = some (a, o)) : a ≠ S := (l _ (List.mem_of_getElem? h)).1
/-- a new object is laid -/
theorem Live.new {S : Addr} {H : Hp} {L : List (Addr × HO)} {p : Addr} {o : HO} (l : Live S H L) (hp : H p = none) (hS : H S ≠ none) : Live S (upd H p o) ((p, o) :: L) :=
  (l.frm (.of (same_new hp))).cons (fun e => hS (e ▸ hp)) upd_same

/-! ### == of data -/
section
variable {K : PySem.W.Frag} {H : Hp} {Q : VK}
theorem dpAll_ints : ∀ ns : List Int, DpAll K H (ns.map V.int) (ns.map PyData.int)
  | [] => .nil
  | n :: ns => .cons (.int n) (dpAll_ints ns)
theorem dp_ints {a : Addr} {ns : List Int} (h : SqL K H a (ns.map V.int)) : Dp K H (.ref a) (.list (ns.map PyData.int)) := .lst h (dpAll_ints ns)
theorem eqvAll_ints : ∀ ns ms : List Int, PyData.eqvAll (ns.map PyData.int) (ms.map PyData.int) = decide (ns = ms)
  | [], [] => by simp [PyData.eqvAll]
  | [], _ :: _ => by simp [PyData.eqvAll]
  | _ :: _, [] => by simp [PyData.eqvAll]
  | n :: ns, m :: ms => by
    have ih := eqvAll_ints ns ms
    simp only [List.map_cons, PyData.eqvAll, ih, PyData.eqv]
    by_cases h1 : n = m <;> by_cases h2 : ns = ms <;> simp [h1, h2]
theorem eqv_ints (ns ms : List Int) : PyData.eqv (.list (ns.map PyData.int)) (.list (ms.map PyData.int)) = decide (ns = ms) := by
  rw [PyData.eqv]; exact eqvAll_ints ns ms
theorem g_eqLI {a b : Addr} {ns ms : List Int} (h1 : SqL K H a (ns.map V.int)) (h2 : SqL K H b (ms.map V.int)) (q : Q (.bl (decide (ns = ms))) H) : rEqD K (.ref a) (.ref b) H Q :=
  ⟨_, _, dp_ints h1, dp_ints h2, PySem.W.ke_shaped_ints ns, PySem.W.ke_shaped_ints ms, by rw [eqv_ints]; exact q⟩
theorem g_neLI {a b : Addr} {ns ms : List Int} (h1 : SqL K H a (ns.map V.int)) (h2 : SqL K H b (ms.map V.int)) (q : Q (.bl (!decide (ns = ms))) H) : rNeD K (.ref a) (.ref b) H Q :=
  ⟨_, _, dp_ints h1, dp_ints h2, PySem.W.ke_shaped_ints ns, PySem.W.ke_shaped_ints ms, by rw [eqv_ints]; exact q⟩
end
section
variable {σ : L2.St} {H : Hp}
/-- a while, by an invariant that bears its measure -/
theorem w_loop {a : L2.St → Hp → Prop} {b : VK} {c d : L2.St → Hp → Prop} {tc : TT} {tb : TS} (Pv : Nat → L2.St → Hp → Prop) (m0 : Nat) (h0 : Pv m0 σ H)
    (hs : ∀ m σ H, Pv m σ H → tc σ H fun b' H1 => if b' = true then ∃ N : L2.St → Hp → Prop, (∀ σ' H', N σ' H' → ∃ m', m' < m ∧ Pv m' σ' H') ∧ tb ⟨N, b, a, N⟩ σ H1 else a σ H1) : tWhile tc tb ⟨a, b, c, d⟩ σ H := ⟨Pv, ⟨m0, h0⟩, hs⟩
end
section
variable {K : PySem.W.Frag} {H : Hp} {Q : VK}
theorem g_slL {a : Addr} {xs : List V} {lo hi : Option Int} (h : SqL K H a xs) (q : ∀ p, H p = none → Q (.ref p) (upd H p (.lst (cutV xs lo hi)))) : rSlL K (.ref a) lo hi H Q := ⟨a, xs, rfl, h, q⟩
theorem cut1 (xs : List V) : cutV xs (some 1) none = xs.drop 1 := by
  unfold cutV
  rw [show (some (1 : Int)) = some ((1 : Nat) : Int) from rfl, HT.sIx_nat, HT.sIx_none]
  cases xs with
  | nil => rfl
  | cons x xs =>
    have e : min 1 (x :: xs).length = 1 := by simp
    rw [e]
    show List.take ((x :: xs).length - 1) xs = xs
    simp
end
theorem tup_same {K : PySem.W.Frag} {H H' : Hp} {a : Addr} {xs : List V} (e : Same H H') (h : SqT K H a xs) : SqT K H' a xs := by
  rcases h with (h | ⟨o, h⟩) | h
  · exact .inl (.inl (e _ _ h))
  · exact .inl (.inr ⟨o, e _ _ h⟩)
  · exact .inr h

/-! ### data: kinds, and as they stand later -/
section
variable {K : PySem.W.Frag} {H H' : Hp} {Q : VK} {σ : L2.St}
theorem ty_list {a : Addr} {xs : List V} (h : SqL K H a xs) : TyX K H (.ref a) (.type "list") := by
  rcases h with (h | ⟨o, h⟩) | h
  · exact .base (.lst h)
  · exact .base (.frz h)
  · obtain ⟨o, items, n, h1, h2, _⟩ := h
    exact .kList h1 h2
theorem ty_tup {a : Addr} {xs : List V} (h : SqT K H a xs) : TyX K H (.ref a) (.type "tuple") := by
  rcases h with (h | ⟨o, h⟩) | h
  · exact .base (.tup h)
  · exact .fTuple h
  · obtain ⟨o, items, n, h1, h2, _⟩ := h
    exact .kTuple h1 h2
theorem list_same {a : Addr} {xs : List V} (e : Same H H') (h : SqL K H a xs) : SqL K H' a xs := e.seq h
mutual
theorem Dp_same (e : Same H H') : ∀ (d : PyData) (v : V), Dp K H v d → Dp K H' v d
  | .none, _, h => by cases h; exact .non
  | .bool b, _, h => by cases h; exact .bl b
  | .int i, _, h => by cases h; exact .int i
  | .str x, _, h => by cases h; exact .str x
  | .list ds, _, h => by
    cases h with
    | lst hs ha => exact .lst (list_same e hs) (DpAll_same e ds _ ha)
  | .tuple ds, _, h => by
    cases h with
    | tup hs ha => exact .tup (tup_same e hs) (DpAll_same e ds _ ha)
  | .dict _, _, h => by cases h
theorem DpAll_same (e : Same H H') : ∀ (ds : List PyData) (vs : List V), DpAll K H vs ds → DpAll K H' vs ds
  | [], _, h => by cases h; exact .nil
  | d :: ds, _, h => by
    cases h with
    | cons h1 h2 => exact .cons (Dp_same e d _ h1) (DpAll_same e ds _ h2)
end
theorem DpAll.len : ∀ {vs : List V} {ds : List PyData}, DpAll K H vs ds → vs.length = ds.length
  | [], [], _ => rfl
  | _ :: _, _ :: _, .cons _ h => by rw [List.length_cons, List.length_cons, DpAll.len h]
theorem DpAll.at : ∀ {vs : List V} {ds : List PyData} {i : Nat} {d : PyData}, DpAll K H vs ds → ds[i]? = some d → ∃ v, vs[i]? = some v ∧ Dp K H v d
  | _, _, 0, d, .cons h _, e => by cases e; exact ⟨_, rfl, h⟩
  | _, _, i + 1, d, .cons _ h, e => DpAll.at (i := i) h e
/-- small data of the four flat kinds, lists and tuples, at most so deep -/
inductive OkD : Nat → PyData → Prop
  | non {n : Nat} : OkD n .none
  | bl {n : Nat} (b : Bool) : OkD n (.bool b)
  | int {n : Nat} (i : Int) : OkD n (.int i)
  | str {n : Nat} (x : Str) : OkD n (.str x)
  | lst {n : Nat} {ds : List PyData} : ds.length ≤ 100000 → (∀ d ∈ ds, OkD n d) → OkD (n + 1) (.list ds)
  | tup {n : Nat} {ds : List PyData} : ds.length ≤ 100000 → (∀ d ∈ ds, OkD n d) → OkD (n + 1) (.tuple ds)
theorem g_isiT {x : V} {tp : Addr} {cs : List V} {t : Value} {us : List Value} {b : Bool} (hT : H tp = some (.tup cs)) (hc : Paired ClsV cs us) (ty : TyX K H x t) (hk : PySem.W.kitAny K t us = some b) (q : Q (.bl b) H) : rIsiT K [x, .ref tp] H Q :=
  ⟨x, tp, cs, t, us, b, rfl, hT, hc, ty, hk, q⟩
/-- t is one of two built-in types, or none of them -/
theorem kit2 {t a b : String} {r1 r2 : Bool} (h1 : kitB t a = some r1) (h2 : kitB t b = some r2) : PySem.W.kitAny K (.type t) [.type a, .type b] = some (r1 || r2) := by
  refine kitAny_cons (kit_ty h1) (fun e => ?_) (fun e => by rw [e]; rfl)
  rw [e]
  exact kitAny_cons (kit_ty h2) (fun e2 => by rw [e2]; rfl) (fun e2 => by rw [e2]; rfl)
theorem g_isiB {x c : V} {tn cn : String} {b : Bool} (h1 : ClsV c (.type cn)) (h2 : TyX K H x (.type tn)) (h3 : kitB tn cn = some b) (q : Q (.bl b) H) : rIsi K [x, c] H Q := ⟨x, c, .type tn, .type cn, b, rfl, h1, h2, kit_ty h3, q⟩
def LcEnd (g : TG) (tt : TT) (te : TE) (vs : List Nat) (σ : L2.St) (Q : VK) (J : It) (H1 : Hp) : Prop := ∀ D, H1 D = none → ∃ W : Nat → Nat → Hp → Prop, (∃ m, W 0 m (upd H1 D (.lst []))) ∧ ∀ i m H, W i m H →
  (J.stop i H ∧ Q (.ref D) H) ∨ (J.go i H ∧ ∃ Nx : Hp → Prop, (∀ H', Nx H' → ∃ m', m' < m ∧ W (i + 1) m' H') ∧ ∀ x H', J.yld i H x H' → g x (wipe σ vs) H' fun σ2 H2 => wipe σ2 vs = wipe σ vs ∧ tt σ2 H2 fun b H3 =>
    if b = true then te σ2 H3 fun y H4 => ∃ acc, H4 D = some (.lst acc) ∧ acc.length < sizeLine ∧ Nx (upd H4 D (.lst (acc ++ [y]))) else Nx H3)
theorem g_lc {wi : TI} {g : TG} {tt : TT} {te : TE} {vs : List Nat} (h : wi σ H (LcEnd g tt te vs σ Q)) : tLc wi g tt te vs σ H Q := h
theorem g_yes {QB : Bool → Hp → Prop} (q : QB true H) : tYes σ H QB := q
theorem w_lcRange {g : TG} {tt : TT} {te : TE} {vs : List Nat} {n : Int} (h1 : -(2 ^ 62) ≤ n) (h2 : n < 2 ^ 62) (Pv : Addr → Nat → Hp → Prop) (h0 : ∀ D, H D = none → Pv D 0 (upd H D (.lst [])))
    (hs : ∀ D i H', H D = none → i < n.toNat → Pv D i H' → g (.int i) (wipe σ vs) H' fun σ2 H2 => wipe σ2 vs = wipe σ vs ∧ tt σ2 H2 fun b H3 =>
      if b = true then te σ2 H3 fun y H4 => ∃ acc, H4 D = some (.lst acc) ∧ acc.length < sizeLine ∧ Pv D (i + 1) (upd H4 D (.lst (acc ++ [y]))) else Pv D (i + 1) H3) (hd : ∀ D H', H D = none → Pv D n.toNat H' → Q (.ref D) H') :
    ∃ j : Int, [V.int n] = [.int j] ∧ -(2 ^ 62) ≤ j ∧ j < 2 ^ 62 ∧ LcEnd g tt te vs σ Q (Itr 0 j.toNat) H :=
  ⟨n, rfl, h1, h2, fun D hD => lc_range (Pv D) (h0 D hD) (fun i H' hi p => by have q := hs D i H' hD hi p; rw [Int.zero_add]; exact q) (fun H' p => hd D H' hD p)⟩
end

/-! ### tables of code objects beside the drawing -/
/-- H without its tables -/
def noT (H : Hp) : Hp := fun b => match H b with
  | some (.tbl _) => none
  | o => o
theorem noT_some {H : Hp} {b : Addr} {o : HO} (h : noT H b = some o) : H b = some o ∧ ∀ ps, o ≠ .tbl ps := by
  unfold noT at h
  split at h
  · cases h
  · rename_i n
    exact ⟨h, fun ps e => n ps (by rw [h, e])⟩
theorem noT_of {H : Hp} {b : Addr} {o : HO} (h : H b = some o) (n : ∀ ps, o ≠ .tbl ps) : noT H b = some o := by
  unfold noT
  split
  · rename_i ps e
    rw [h] at e
    exact absurd (Option.some.inj e) (n ps)
  · exact h
theorem noT_same (H : Hp) : Same (noT H) H := fun _ _ h => (noT_some h).1
theorem noT_list {K : PySem.W.Frag} {H : Hp} {a : Addr} {xs : List V} (h : SqL K H a xs) : SqL K (noT H) a xs := by
  rcases h with (h | ⟨o, h⟩) | h
  · exact .inl (.inl (noT_of h (fun _ z => nomatch z)))
  · exact .inl (.inr ⟨o, noT_of h (fun _ z => nomatch z)⟩)
  · exact .inr h
/-- all but S and the tables stays -/
theorem Dst.ext {K : PySem.W.Frag} {H0 H H' : Hp} {S : Addr} (d : Dst K (noT H0) H S) (e : LamX.ExtN H H') : Dst K (noT H0) H' S := by
  obtain ⟨sc, ns, c, m, r, h1, h2, h3, h4⟩ := d
  exact ⟨sc, ns, c, m, r, e _ _ h1 (fun _ z => nomatch z), h2, fun b o n h => e _ _ (h3 b o n h) (noT_some h).2, h4⟩
theorem tabs_frm {K : PySem.W.Frag} {B H H' : Hp} {S : Addr} {T : List (Addr × Str)} (t : LamX.Tabs T H) (d : Dst K B H S) (f : Frm S H H') : LamX.Tabs T H' := fun p hp => by
  obtain ⟨sc, ns, c, m, r, hS, _⟩ := d
  obtain ⟨ps, h1, h2, h3⟩ := t p hp
  refine ⟨ps, f _ _ (ne_of h1 hS (fun z => nomatch z)) h1, h2, fun pos cv hc => ?_⟩
  obtain ⟨c', e1, e2⟩ := h3 pos cv hc
  exact ⟨c', e1, f _ _ (ne_of e2 hS (fun z => nomatch z)) e2⟩
theorem tabs_same {H H' : Hp} {T : List (Addr × Str)} (t : LamX.Tabs T H) (e : Same H H') : LamX.Tabs T H' := t.ext e
section
variable {P : Program} {w : World} {K : PySem.W.Frag} {mg : Str → Option Value} {base : Heap}
/-- a def whose code object is told -/
theorem fn_code {k : Nat} {f : Addr} {name qual : Str} {params : Arguments} {body : List Stmt} {scope : Scope} {dV kV doc pm cdv ct oc : Value} {an od : Option Addr} {osl : Array (Option Value)} {N ps : List Str} {sp : Sp}
    (lk : K.lookup f = some ⟨oc, od, .func (PySem.W.fnOf name qual params body scope dV kV doc pm an cdv ct), osl⟩) (hcd : PySem.W.codeIn K cdv qual = true) (S : FnScope N ps scope) (len : ∀ vs H Q E, sp vs H Q E → vs.length = ps.length)
    (hbody : ∀ (A : Around) (outer : List Env) (s : Shared) (H : Hp) (vs : List V) (Q : VK) (E : XK), Room k (A.deeper (envOfC qual scope s.heap.objs.size f cdv)) → sp vs H Q E →
      ∃ t, PSs (cxOf C8.CX0 P w K mg base N qual scope f cdv A outer s H E).nox body t ∧ t { nx := fun _ H' => Q .non H', rt := Q } (L2.start N vs) H) :
    FnOk P w K mg base C8.CX0 (k + 1) f (PySem.W.fnOf name qual params body scope dV kV doc pm an cdv ct) ps sp :=
  fn_of lk hcd S len fun A outer s H vs Q E hr hsp => (hbody A outer s H vs Q E hr hsp).elim fun t h => ⟨t, h.1.nox, h.2⟩
end
theorem g_lam {T : List (Addr × Str)} {TT : (XK → Hp → VK → Prop) → Hp → VK → Prop} {t : XK → TE} {σ : L2.St} {H : Hp} {Q : VK} (h : LamX.Tabs T H) (q : ∀ H1, LamX.ExtN H H1 → LamX.Tabs T H1 → TT (fun E H' Q' => t E σ H' Q') H1 Q) : LamX.tLam T TT t σ H Q := ⟨h, q⟩
end Wd
local macro_rules | `(tactic| walk_at "go") => `(tactic| repeat (first
  | with_reducible refine Wd.g_seq ?_
  | ((with_reducible show Ends.nx _ _ _); (with_reducible refine Wd.g_nx ?_))
  | with_reducible refine Wd.g_asg ?_
  | ((with_reducible refine' Wd.g_var ?h1 ?_); (case h1 => exact rfl))
  | with_reducible refine Wd.g_c ?_
  | with_reducible refine Wd.g_op ?_
  | with_reducible refine Wd.g_un ?_
  | with_reducible refine Wd.g_I0 ?_
  | with_reducible refine Wd.g_U ?_
  | with_reducible refine Wd.g_eqI ?_
  | with_reducible refine Wd.g_neI ?_
  | with_reducible refine Wd.g_eqS ?_
  | with_reducible refine Wd.g_neS ?_
  | with_reducible refine Wd.g_eqB ?_
  | with_reducible refine Wd.g_neB ?_
  | with_reducible refine Wd.g_isN ?_
  | with_reducible refine Wd.g_notN ?_
  | with_reducible refine Wd.g_lc ?_
  | with_reducible refine Wd.g_yes ?_
  | with_reducible refine Wd.g_test ?_
  | with_reducible refine Wd.g_tB ?_
  | with_reducible refine Wd.g_bl ?_
  | with_reducible refine Wd.g_blI ?_
  | with_reducible refine Wd.g_and ?_
  | with_reducible refine Wd.g_or ?_
  | with_reducible refine Wd.g_not ?_
  | with_reducible refine Wd.g_andV ?_
  | with_reducible refine Wd.g_orV ?_
  | with_reducible refine Wd.g_notV ?_
  | with_reducible refine Wd.g_if ?_
  | with_reducible refine Wd.g_chain ?_
  | with_reducible refine Wd.g_chain3 ?_
  | with_reducible refine Wd.g_nil ?_
  | with_reducible refine Wd.g_cons ?_
  | with_reducible refine Wd.g_tup ?_
  | with_reducible refine Wd.g_lst ?_
  | with_reducible refine Wd.g_CB ?_
  | with_reducible refine Wd.g_call ?_
  | with_reducible refine Wd.g_callS ?_
  | with_reducible refine Wd.g_bm ?_
  | with_reducible refine Wd.g_bm0 ?_
  | with_reducible refine Wd.g_sl ?_
  | with_reducible refine Wd.g_part ?_
  | with_reducible refine Wd.g_part1 ?_
  | with_reducible refine Wd.g_noPart ?_
  | with_reducible refine Wd.g_next ?_
  | with_reducible refine Wd.g_name ?_
  | with_reducible refine Wd.g_sub ?_
  | with_reducible refine Wd.g_gnil ?_
  | with_reducible refine Wd.g_gcons ?_
  | with_reducible refine Wd.g_drop ?_
  | with_reducible refine Wd.g_ret ?_
  | with_reducible refine Wd.g_retN ?_
  | with_reducible refine Wd.g_brk ?_
  | with_reducible refine Wd.g_cont ?_
  | with_reducible refine Wd.g_ifS ?_
  | ((with_reducible show Ends.bk _ _ _); (with_reducible refine Wd.g_bk ?_))
  | ((with_reducible show Ends.ct _ _ _); (with_reducible refine Wd.g_ct ?_))
  | ((with_reducible show Ends.rt _ _ _); (with_reducible refine Wd.g_rt ?_))
  | with_reducible refine Wd.g_for ?_
  | with_reducible refine Wd.g_rng1 ?_
  | with_reducible refine Wd.g_rng2 ?_
  | with_reducible refine Wd.g_iList ?_
  | with_reducible refine Wd.g_iTup ?_
  | ((with_reducible refine Wd.g_fit ?h1 ?_); (case h1 => exact rfl))
  | with_reducible refine Wd.g_max2 ?_
  | with_reducible refine Wd.g_min2 ?_
  | with_reducible refine Wd.g_int1B ?_
  | with_reducible refine L2.iteT ?_
  | with_reducible refine L2.iteF ?_
  | ((with_reducible refine Wd.g_itT ?h1 ?_); (case h1 => exact rfl))
  | ((with_reducible refine Wd.g_itF ?h1 ?_); (case h1 => exact rfl))))
/-! Plans as data; tuples that are repeated, made of lists; lists within comprehensions. -/
namespace Wd
open PySem PySem.Spec PyProof.Rows L2

/-! ### t * k, k from 0 on -/
theorem mul_once (l : Addr) (items : Array Value) (n : Nat) (dd : Option Addr) (sl : Array (Option Value)) (u : Tok) :
    Meets (Builtin.«tuple.__mul__» ⟨[.ref l, .int 1 u], []⟩) (fun _ R s => s.heap.get? l = some { cls := .type "tuple", dict := dd, data := .seq items n, slots := sl } ∧ R (.ok (.ret (Value.ref l))) s) :=
  .of_wp fun prog w A R s h => by
    obtain ⟨hp, g, d, tk, os⟩ := s
    obtain ⟨hl, q⟩ := h
    have one := AutoSeq1.idx_int
    wp_walk using AutoSeq1.wpAny_loadPart' hl
    exact ⟨_, rfl, q⟩
theorem mul_none (l : Addr) (items : Array Value) (n : Nat) (dd : Option Addr) (sl : Array (Option Value)) (u : Tok) (h2 : items.isEmpty = false) :
    Meets (Builtin.«tuple.__mul__» ⟨[.ref l, .int 0 u], []⟩) (fun _ R s => s.heap.get? l = some { cls := .type "tuple", dict := dd, data := .seq items n, slots := sl } ∧
      R (.ok (.ret (Value.ref s.heap.objs.size))) { s with heap := s.heap.push { cls := Value.type "tuple", data := Data.seq #[] }, toks := s.toks }) :=
  .of_wp fun prog w A R s h => by
    obtain ⟨hp, g, d, tk, os⟩ := s
    obtain ⟨hl, q⟩ := h
    have one := AutoSeq1.idx_int
    wp_walk using AutoSeq1.wpAny_loadPart' hl
    exact ⟨_, rfl, q⟩
def rRepU (K : PySem.W.Frag) : R2 := fun x y H Q => ∃ (l : Addr) (k : Int) (xs : List V), x = .ref l ∧ y = .int k ∧ SqT K H l xs ∧ xs ≠ [] ∧ 0 ≤ k ∧ k ≤ 1000 ∧ xs.length ≤ 1000 ∧ (k = 1 → Q (.ref l) H) ∧
  (k ≠ 1 → ∀ p, H p = none → Q (.ref p) (upd H p (.tup (List.replicate k.toNat xs).flatten)))
section
variable {X : Cx}
theorem op_repU : OpR X (binaryOp .Mult) (rRepU X.K) := by
  intro pins s σ H x y v u Q I rx ry h
  obtain ⟨l, k, xs, rfl, rfl, hT, hne, h0, h1, hz, q1, q2⟩ := h
  by_cases c2 : 2 ≤ k
  · exact op_repT pins s σ H _ _ _ _ Q I rx ry ⟨l, k, xs, rfl, rfl, hT, hne, c2, h1, hz, q2 (by omega)⟩
  · cases rx
    obtain ⟨t, rfl⟩ := ry
    obtain ⟨its, r, ⟨⟨cls, dd, data, sl⟩, ho, hc, n, hd⟩, hs⟩ := I.tuple hT
    simp only at hc hd
    subst hc hd
    have c01 : k = 0 ∨ k = 1 := by omega
    rcases c01 with rfl | rfl
    · have hem : its.toArray.isEmpty = false := by
        cases r with
        | nil => exact absurd rfl hne
        | cons _ _ => rfl
      refine wpAny_binaryOp_repeat_ref (T := "tuple") (U := "int") (by decide) ⟨_, ho, rfl⟩ (fun s' => typeIs_int s' 0 t) noFill_tuple_mul F.fills_int_mul F.slot_int_rmul repeat_tuple F.slot_int_index.lookup (call_meets F.slot_int_rmul (typeIs_int s 0 t) F.entry_int_rmul (F.args_int_rmul_2 _ _)
        (int_rmul_tuple 0 t l its.toArray n dd sl) ⟨ho, rfl, ⟨_, ho, rfl⟩, call_meets F.slot_tuple_mul ⟨_, ho, rfl⟩ F.entry_tuple_mul (F.args_tuple_mul_2 _ _) (mul_none l its.toArray n dd sl t hem) ⟨ho, ?_⟩⟩)
      refine ⟨.ref s.heap.objs.size, _, I.laid (t' := s.toks) (o := .tup []) (fun b ob z => Heap.get?_push_of_some _ z) (Nat.le_refl _) ?_, rfl, q2 (by decide) _ (I.hok.fresh (Nat.le_refl _))⟩
      exact ⟨Nat.zero_le _, [], .nil, IsTup.new _ _⟩
    · refine wpAny_binaryOp_repeat_ref (T := "tuple") (U := "int") (by decide) ⟨_, ho, rfl⟩ (fun s' => typeIs_int s' 1 t) noFill_tuple_mul F.fills_int_mul F.slot_int_rmul repeat_tuple F.slot_int_index.lookup (call_meets F.slot_int_rmul (typeIs_int s 1 t) F.entry_int_rmul (F.args_int_rmul_2 _ _)
        (int_rmul_tuple 1 t l its.toArray n dd sl) ⟨ho, rfl, ⟨_, ho, rfl⟩, call_meets F.slot_tuple_mul ⟨_, ho, rfl⟩ F.entry_tuple_mul (F.args_tuple_mul_2 _ _) (mul_once l its.toArray n dd sl t) ⟨ho, ?_⟩⟩)
      exact ⟨.ref l, H, I, rfl, q1 rfl⟩
end

/-! ### more steps -/
def rTupOf (K : PySem.W.Frag) : List V → Hp → VK → Prop := fun xs H Q => ∃ p ys, xs = [.ref p] ∧ ((SqL K H p ys ∧ ∀ l, H l = none → Q (.ref l) (upd H l (.tup ys))) ∨ (SqT K H p ys ∧ Q (.ref p) H))
theorem call_tuple1 {X : Cx} : CallR X (.type "tuple") (rTupOf X.K) := call_tuple_of
section
variable {K : PySem.W.Frag} {H H' : Hp} {Q : VK} {σ : L2.St} {x : V}
theorem g_tupOf {p : Addr} {ys : List V} (h : SqL K H p ys) (q : ∀ l, H l = none → Q (.ref l) (upd H l (.tup ys))) : rTupOf K [.ref p] H Q := ⟨p, ys, rfl, .inl ⟨h, q⟩⟩
theorem g_inT {p : Addr} {xs : List V} (h : SqT K H p xs) (fx : flatV x = true) (fs : xs.all flatV = true) (q : Q (.bl (inV x xs)) H) : rIn K false x (.ref p) H Q := ⟨p, xs, rfl, .inr h, fx, fs, q⟩
theorem g_notInT {p : Addr} {xs : List V} (h : SqT K H p xs) (fx : flatV x = true) (fs : xs.all flatV = true) (q : Q (.bl (!inV x xs)) H) : rIn K true x (.ref p) H Q := ⟨p, xs, rfl, .inr h, fx, fs, q⟩
theorem g_sum {a : Addr} {ns : List Int} (h : SqL K H a (ns.map V.int)) (q : Q (.int ns.sum) H) : rSum K [.ref a] H Q := ⟨a, ns, rfl, h, q⟩
theorem g_pop {l : Addr} {xs : List V} {y : V} (h : H l = some (.lst xs)) (hy : xs[xs.length - 1]? = some y) (q : Q y (upd H l (.lst xs.dropLast))) : rPop (.ref l) [] H Q := ⟨l, xs, y, rfl, rfl, h, hy, q⟩
theorem w_lcTup {g : TG} {tt : TT} {te : TE} {vs : List Nat} {p : Addr} {xs : List V} (hp : SqT K H p xs) (Pv : Addr → Nat → Hp → Prop) (h0 : ∀ D, H D = none → Pv D 0 (upd H D (.lst []))) (hl : ∀ D i H', H D = none → i ≤ xs.length → Pv D i H' → SqT K H' p xs)
    (hs : ∀ D i y H', H D = none → xs[i]? = some y → Pv D i H' → g y (wipe σ vs) H' fun σ2 H2 => wipe σ2 vs = wipe σ vs ∧ tt σ2 H2 fun b H3 =>
      if b = true then te σ2 H3 fun y H4 => ∃ acc, H4 D = some (.lst acc) ∧ acc.length < sizeLine ∧ Pv D (i + 1) (upd H4 D (.lst (acc ++ [y]))) else Pv D (i + 1) H3) (hd : ∀ D H', H D = none → Pv D xs.length H' → Q (.ref D) H') :
    ∃ q, V.ref p = .ref q ∧ (∃ xs, SqT K H q xs) ∧ LcEnd g tt te vs σ Q (Itt K q) H :=
  ⟨p, rfl, ⟨xs, hp⟩, fun D hD => lc_tup (Pv D) (h0 D hD) (fun i H' hi q => hl D i H' hD hi q) (fun i y H' hy q => hs D i y H' hD hy q) (fun H' q => hd D H' hD q)⟩
/-- the end of a comprehension's turn -/
theorem g_lcput {D : Addr} {acc : List V} {y : V} {N : Hp → Prop} (h : H D = some (.lst acc)) (hl : acc.length < 100000) (q : N (upd H D (.lst (acc ++ [y])))) : ∃ acc, H D = some (.lst acc) ∧ acc.length < sizeLine ∧ N (upd H D (.lst (acc ++ [y]))) := ⟨acc, h, Nat.lt_of_lt_of_le hl (by decide), q⟩
end

/-! ### plans -/
inductive Pl where
  | pat
  | work (a b : Int)
  | row (ps : List Pl)
  | either (ps : List Pl)
  | loop (a b : Int) (p : Pl)
/-- tuples stay -/
def KeepT (H H' : Hp) : Prop := ∀ b xs, H b = some (.tup xs) → H' b = some (.tup xs)
theorem KeepT.refl (H : Hp) : KeepT H H := fun _ _ h => h
theorem KeepT.trans {H H1 H2 : Hp} (a : KeepT H H1) (b : KeepT H1 H2) : KeepT H H2 := fun c xs h => b c xs (a c xs h)
theorem keepT_same {H H' : Hp} (e : Same H H') : KeepT H H' := fun b xs h => e b _ h
theorem keepT_new {H : Hp} {p : Addr} {o : HO} (h : H p = none) : KeepT H (upd H p o) := keepT_same (same_new h)
theorem keepT_lst {H : Hp} {p : Addr} {o : HO} {xs : List V} (h : H p = some (.lst xs)) : KeepT H (upd H p o) := fun b ys e => by rw [upd_ne (ne_of e h (fun z => nomatch z))]; exact e
theorem keepT_frm {K : PySem.W.Frag} {B H H' : Hp} {S : Addr} (d : Dst K B H S) (f : Frm S H H') : KeepT H H' := fun b xs h => by
  obtain ⟨sc, ns, c, m, r, hS, _⟩ := d
  exact f b _ (ne_of h hS (fun z => nomatch z)) h
mutual
inductive PlA (H : Hp) : V → Pl → Prop
  | pat {a : Addr} : H a = some (.tup [.str "pat"]) → PlA H (.ref a) .pat
  | work {a : Addr} {x y : Int} : H a = some (.tup [.str "work", .int x, .int y]) → PlA H (.ref a) (.work x y)
  | row {a b : Addr} {vs : List V} {ps : List Pl} : H a = some (.tup [.str "row", .ref b]) → H b = some (.tup vs) → PlAs H vs ps → PlA H (.ref a) (.row ps)
  | either {a b : Addr} {vs : List V} {ps : List Pl} : H a = some (.tup [.str "either", .ref b]) → H b = some (.tup vs) → PlAs H vs ps → PlA H (.ref a) (.either ps)
  | loop {a : Addr} {x y : Int} {u : V} {p : Pl} : H a = some (.tup [.str "loop", .int x, .int y, u]) → PlA H u p → PlA H (.ref a) (.loop x y p)
inductive PlAs (H : Hp) : List V → List Pl → Prop
  | nil : PlAs H [] []
  | cons {v : V} {vs : List V} {p : Pl} {ps : List Pl} : PlA H v p → PlAs H vs ps → PlAs H (v :: vs) (p :: ps)
end
mutual
theorem PlA_keep {H H' : Hp} (e : KeepT H H') : ∀ (p : Pl) (v : V), PlA H v p → PlA H' v p
  | .pat, _, h => by cases h with | pat h => exact .pat (e _ _ h)
  | .work _ _, _, h => by cases h with | work h => exact .work (e _ _ h)
  | .row ps, _, h => by cases h with | row h1 h2 h3 => exact .row (e _ _ h1) (e _ _ h2) (PlAs_keep e ps _ h3)
  | .either ps, _, h => by cases h with | either h1 h2 h3 => exact .either (e _ _ h1) (e _ _ h2) (PlAs_keep e ps _ h3)
  | .loop _ _ p, _, h => by cases h with | loop h1 h2 => exact .loop (e _ _ h1) (PlA_keep e p _ h2)
theorem PlAs_keep {H H' : Hp} (e : KeepT H H') : ∀ (ps : List Pl) (vs : List V), PlAs H vs ps → PlAs H' vs ps
  | [], _, h => by cases h; exact .nil
  | p :: ps, _, h => by cases h with | cons h1 h2 => exact .cons (PlA_keep e p _ h1) (PlAs_keep e ps _ h2)
end
theorem PlAs.len {H : Hp} : ∀ {vs : List V} {ps : List Pl}, PlAs H vs ps → vs.length = ps.length
  | [], [], _ => rfl
  | _ :: _, _ :: _, .cons _ h => by rw [List.length_cons, List.length_cons, PlAs.len h]
theorem PlAs.at {H : Hp} : ∀ {vs : List V} {ps : List Pl} {i : Nat} {v : V}, PlAs H vs ps → vs[i]? = some v → ∃ p, ps[i]? = some p ∧ PlA H v p
  | _, _, 0, _, .cons h _, e => by cases e; exact ⟨_, rfl, h⟩
  | _, _, i + 1, _, .cons _ h, e => PlAs.at (i := i) h e
theorem PlAs.snoc {H : Hp} : ∀ {vs : List V} {ps : List Pl} {v : V} {p : Pl}, PlAs H vs ps → PlA H v p → PlAs H (vs ++ [v]) (ps ++ [p])
  | _, _, _, _, .nil, h => .cons h .nil
  | _, _, _, _, .cons a b, h => .cons a (PlAs.snoc b h)
theorem PlAs.rep {H : Hp} {v : V} {p : Pl} (h : PlA H v p) : ∀ n : Nat, PlAs H (List.replicate n [v]).flatten (List.replicate n p)
  | 0 => .nil
  | n + 1 => .cons h (PlAs.rep h n)
mutual
/-- how many tuples are plans; how deep; how many loops within one another; its bounds as they should be -/
def cnt : Pl → Nat
  | .pat => 1
  | .work _ _ => 1
  | .row ps => 1 + cnts ps
  | .either ps => 1 + cnts ps
  | .loop _ _ p => 1 + cnt p
def cnts : List Pl → Nat
  | [] => 0
  | p :: ps => cnt p + cnts ps
end
mutual
def okP : Nat → Nat → Pl → Prop
  | _, _, .pat => True
  | _, _, .work a b => 0 ≤ a ∧ a ≤ b ∧ b ≤ 1000
  | 0, _, .row _ => False
  | d + 1, l, .row ps => 0 < ps.length ∧ ps.length ≤ 20 ∧ okPs d l ps
  | 0, _, .either _ => False
  | d + 1, l, .either ps => 0 < ps.length ∧ ps.length ≤ 20 ∧ okPs d l ps
  | 0, _, .loop _ _ _ => False
  | _ + 1, 0, .loop _ _ _ => False
  | d + 1, l + 1, .loop a b p => 0 ≤ a ∧ a ≤ b ∧ b ≤ 9 ∧ okP d l p
def okPs : Nat → Nat → List Pl → Prop
  | _, _, [] => True
  | d, l, p :: ps => okP d l p ∧ okPs d l ps
end
theorem okPs_at {d l : Nat} : ∀ {ps : List Pl} {i : Nat} {p : Pl}, okPs d l ps → ps[i]? = some p → okP d l p
  | _ :: _, 0, _, h, e => by cases e; exact h.1
  | _ :: ps, i + 1, _, h, e => okPs_at (ps := ps) (i := i) h.2 e
theorem okPs_snoc {d l : Nat} : ∀ {ps : List Pl} {p : Pl}, okPs d l ps → okP d l p → okPs d l (ps ++ [p])
  | [], _, _, h => ⟨h, trivial⟩
  | _ :: ps, _, h1, h => ⟨h1.1, okPs_snoc h1.2 h⟩
theorem okPs_rep {d l : Nat} {p : Pl} (h : okP d l p) : ∀ n : Nat, okPs d l (List.replicate n p)
  | 0 => trivial
  | n + 1 => ⟨h, okPs_rep h n⟩
theorem cnt_pos : ∀ p : Pl, 1 ≤ cnt p
  | .pat => Nat.le_refl 1
  | .work _ _ => Nat.le_refl 1
  | .row _ => Nat.le_add_right 1 _
  | .either _ => Nat.le_add_right 1 _
  | .loop _ _ _ => Nat.le_add_right 1 _
theorem small_lt {n : Nat} (h : n < 100000) : n < sizeLine := Nat.lt_of_lt_of_le h (by decide)
end Wd
/-! zip; comprehensions over lists. -/
namespace Wd
open PySem PySem.Spec PyProof.Rows L2
section
variable {σ : L2.St} {H : Hp} {Q : VK} {K : PySem.W.Frag}
theorem w_zip {a : L2.St → Hp → Prop} {b : VK} {g : TG} {tb : TS} {p r : Addr} {xs ys : List V} (hl : xs.length = ys.length) (Pv : Nat → L2.St → Hp → Prop) (h0 : Pv 0 σ H) (hq : ∀ i σ H, Pv i σ H → SqL K H p xs ∧ SqL K H r ys)
    (hs : ∀ i x y T σ H, xs[i]? = some x → ys[i]? = some y → Pv i σ H → H T = none → g (.ref T) σ (upd H T (.tup [x, y])) fun σ2 H2 => tb ⟨Pv (i + 1), b, a, Pv (i + 1)⟩ σ2 H2) (hd : ∀ σ H, Pv xs.length σ H → a σ H) :
    ∃ a' b' xs ys, [V.ref p, .ref r] = [V.ref a', .ref b'] ∧ SqL K H a' xs ∧ SqL K H b' ys ∧ ForEnd g tb a b σ (Itz K a' b') H :=
  ⟨p, r, xs, ys, rfl, (hq 0 σ H h0).1, (hq 0 σ H h0).2, RZ.for_zipL (D := ⟨a, b, fun _ _ => False, fun _ _ => False⟩) hl Pv h0 hq hs hd⟩
theorem w_lcZip {g : TG} {tt : TT} {te : TE} {vs : List Nat} {p r : Addr} {xs ys : List V} (hl : xs.length = ys.length) (hp : SqL K H p xs) (hr : SqL K H r ys) (Pv : Addr → Nat → Hp → Prop) (h0 : ∀ D, H D = none → Pv D 0 (upd H D (.lst [])))
    (hq : ∀ D i H', H D = none → Pv D i H' → SqL K H' p xs ∧ SqL K H' r ys)
    (hs : ∀ D i x y T H', H D = none → xs[i]? = some x → ys[i]? = some y → Pv D i H' → H' T = none → g (.ref T) (wipe σ vs) (upd H' T (.tup [x, y])) fun σ2 H2 => wipe σ2 vs = wipe σ vs ∧ tt σ2 H2 fun b H3 =>
      if b = true then te σ2 H3 fun y H4 => ∃ acc, H4 D = some (.lst acc) ∧ acc.length < sizeLine ∧ Pv D (i + 1) (upd H4 D (.lst (acc ++ [y]))) else Pv D (i + 1) H3) (hd : ∀ D H', H D = none → Pv D xs.length H' → Q (.ref D) H') :
    ∃ a' b' xs ys, [V.ref p, .ref r] = [V.ref a', .ref b'] ∧ SqL K H a' xs ∧ SqL K H b' ys ∧ LcEnd g tt te vs σ Q (Itz K a' b') H := by
  refine ⟨p, r, xs, ys, rfl, hp, hr, fun D hD => ?_⟩
  refine ⟨fun i m H' => m = xs.length - i ∧ i ≤ xs.length ∧ Pv D i H', ⟨xs.length, by simp, Nat.zero_le _, h0 D hD⟩, ?_⟩
  rintro i m H' ⟨rfl, hi, pv⟩
  obtain ⟨qx, qy⟩ := hq D i H' hD pv
  by_cases hlt : i < xs.length
  · have hx : xs[i]? = some xs[i] := List.getElem?_eq_getElem hlt
    have hlt2 : i < ys.length := by omega
    have hy : ys[i]? = some ys[i] := List.getElem?_eq_getElem hlt2
    refine .inr ⟨⟨xs, ys, _, _, qx, qy, hx, hy⟩, Pv D (i + 1), fun H' p' => ⟨xs.length - (i + 1), by omega, rfl, hlt, p'⟩, fun v H'' y => ?_⟩
    obtain ⟨T, x', y', rfl, hT, rfl, f1, f2⟩ := y
    exact hs D i x' y' T H' hD (f1 xs qx) (f2 ys qy) pv hT
  · have e : i = xs.length := by omega
    subst e
    exact .inl ⟨⟨xs, ys, qx, qy, Or.inl (Nat.le_refl _)⟩, hd D H' hD pv⟩
theorem w_lcList {g : TG} {tt : TT} {te : TE} {vs : List Nat} {p : Addr} {xs : List V} (hp : SqL K H p xs) (Pv : Addr → Nat → Hp → Prop) (h0 : ∀ D, H D = none → Pv D 0 (upd H D (.lst []))) (hl : ∀ D i H', H D = none → i ≤ xs.length → Pv D i H' → SqL K H' p xs)
    (hs : ∀ D i y H', H D = none → xs[i]? = some y → Pv D i H' → g y (wipe σ vs) H' fun σ2 H2 => wipe σ2 vs = wipe σ vs ∧ tt σ2 H2 fun b H3 =>
      if b = true then te σ2 H3 fun y H4 => ∃ acc, H4 D = some (.lst acc) ∧ acc.length < sizeLine ∧ Pv D (i + 1) (upd H4 D (.lst (acc ++ [y]))) else Pv D (i + 1) H3) (hd : ∀ D H', H D = none → Pv D xs.length H' → Q (.ref D) H') :
    ∃ q, V.ref p = .ref q ∧ (∃ xs, SqL K H q xs) ∧ LcEnd g tt te vs σ Q (Itl K q) H :=
  ⟨p, rfl, ⟨xs, hp⟩, fun D hD => lc_list (Pv D) (h0 D hD) (fun i H' hi q => hl D i H' hD hi q) (fun i y H' hy q => hs D i y H' hD hy q) (fun H' q => hd D H' hD q)⟩
theorem g_zip {ta : TA} {R : It → Hp → Prop} (h : ta σ H fun vs H1 => ∃ a b xs ys, vs = [.ref a, .ref b] ∧ SqL K H1 a xs ∧ SqL K H1 b ys ∧ R (Itz K a b) H1) : iZip K ta σ H R := h
end
end Wd
/-! sorted of data; self.a, self.b = .. -/
namespace Wd
open PySem PySem.Spec PyProof.Rows L2
def rSortD (K : PySem.W.Frag) : List V → Hp → VK → Prop := fun vs H Q => ∃ (a : Addr) (ps : List (V × PyData)), vs = [.ref a] ∧ SqL K H a (ps.map (·.1)) ∧ (∀ p ∈ ps, Dp K H p.1 p.2) ∧ PySem.W.AllAlike (ps.map (·.2)) ∧ PySem.W.Sortable (ps.map (·.2)) ∧ (∀ p ∈ ps, p.2.depth ≤ 10) ∧
  ∀ p, H p = none → Q (.ref p) (upd H p (.lst ((ps.mergeSort (PySem.W.dataLe false (·.2))).map (·.1))))
theorem each_vals : ∀ {ps : List (V × PyData)} {us : List Value}, Vals (ps.map (·.1)) us → PySem.W.EachIs (fun v (b : V × PyData) => RelV b.1 v) us ps
  | [], _, .nil => .nil
  | p :: ps, _, .cons r t => .cons r (each_vals t)
theorem vals_each : ∀ {ps : List (V × PyData)} {us : List Value}, PySem.W.EachIs (fun v (b : V × PyData) => RelV b.1 v) us ps → Vals (ps.map (·.1)) us
  | [], _, .nil => .nil
  | p :: ps, _, .cons r t => .cons r (vals_each t)
theorem each_reads {X : Cx} {pins : List (Addr × Obj)} {σ : L2.St} {H : Hp} {s : Shared} (I : Inv X pins σ H s) : ∀ {ps : List (V × PyData)} {us : List Value}, (∀ p ∈ ps, Dp X.K H p.1 p.2) → Vals (ps.map (·.1)) us → PySem.W.EachIs (fun v (b : V × PyData) => ∃ as, Reads s.heap v b.2 as) us ps
  | [], _, _, .nil => .nil
  | p :: ps, _, h, .cons r t => .cons (Dp.reads I p.2 p.1 _ (h p List.mem_cons_self) r) (each_reads I (fun y hy => h y (List.mem_cons_of_mem _ hy)) t)
section
variable {X : Cx}
theorem cr_sortedD (hu : X.A.units + 64 < cLine) : CallR X (.builtin "sorted") (rSortD X.K) := by
  intro pins s σ H vs us Q I r h
  obtain ⟨a, ps, rfl, hs, hd, hal, hk, hdep, q⟩ := h
  obtain ⟨its, rv, hl, hz⟩ := I.list hs
  obtain ⟨u, rfl, ru⟩ := vals1 r
  obtain rfl : u = Value.ref a := ru
  have hlen : ps.length ≤ sizeLine := by rw [List.length_map] at hz; exact hz
  refine PySem.W.sorted_data (vs := its) (bs := ps) (enc := (·.2)) (R := fun v b => RelV b.1 v) hl.isList (each_vals rv) (each_reads I hd rv) hal hk hlen (fun b hb => by have := hdep b hb; omega) fun out ho hout => ?_
  obtain ⟨n, hn⟩ := sortedAll_at s.heap its out.toArray
  have hv := vals_each hout
  refine ⟨.ref (s.heap.objs.size + 1), _, I.laid (t' := s.toks) (fun b o z => sortedAll_old z) (Nat.le_succ _) (o := .lst ((ps.mergeSort (PySem.W.dataLe false (·.2))).map (·.1))) ⟨?_, out, n, hv, hn⟩, rfl, q _ (I.hok.fresh (Nat.le_succ _))⟩
  rw [List.length_map, List.length_mergeSort]
  exact hlen
theorem pe_fldK {K : PySem.W.Frag} {e : Expr} {f : Str} {pos : Pos} {ta : TE} (hK : X.K = K) (he : PE X e ta) (hb : attributeBase e f X.env (eval e X.env) = eval e X.env) : PE X (.Attribute e f pos) (tFld K ta f) := by
  subst hK; exact pe_fld he hb
/-- an attribute as a target -/
def gAtt (K : PySem.W.Frag) (to : TE) (f : Str) : TG := fun y σ H Q => to σ H fun x H2 => ∃ a C dx fs, x = .ref a ∧ H2 a = some (.ins C dx fs) ∧ Cls K C ∧ NoAttr K C f ∧ fs.length < 1000 ∧ Q σ (upd H2 a (.ins C dx (putF f y fs)))
theorem pg_att {o : Expr} {f : Str} {pos : Pos} {to : TE} (ho : PE X o to)
    (ha : ∀ v, assign (.Attribute o f pos) X.env v = (do
      let ov ← holding [v] (eval o X.env)
      standAt pos.atName
      holding [v, ov] (setAttr ov f v)
      release [v, ov] []) := by intro _; rfl) : PG X (.Attribute o f pos) (gAtt X.K to f) := by
  refine ⟨fun pins s σ H v u Q I r h => ?_⟩
  rw [ha]
  refine wpAny_bind (wpAny_holding (thn (ho.run pins s σ H _ I h) fun ov s1 ⟨x, H1, I1, rx, a, C, dx, fs, ex, ea, c, n, l, q⟩ => ?_))
  subst ex
  obtain rfl : ov = Value.ref a := rx
  refine wpAny_bind (wpAny_standAt (wpAny_bind (wpAny_holding (setattr_ok I1 ea c n l r fun s2 I2 => ?_))))
  exact wpAny_release ⟨σ, _, I2, q⟩
end
end Wd
/-! A set comprehension of two fors, its members whole numbers. -/
namespace Wd
open PySem PySem.Spec PyProof.Rows L2
/-- the comprehension that is meant -/
abbrev sc2 (elt t0 i0 t1 i1 : Expr) (f0 f1 : List Expr) (sco : Scope) (pos : Pos) : Expr := .SetComp elt [⟨t0, i0, f0, 0⟩, ⟨t1, i1, f1, 0⟩] sco pos
section
variable {prg : Program} {w : World} {A : Around} {R : Result → Shared → Prop} {elt t0 i0 t1 i1 : Expr} {f0 f1 : List Expr} {sco : Scope} {pos : Pos} {it acc : Value} {env : Env}
theorem sc2_turn0 : compTurn (sc2 elt t0 i0 t1 i1 f0 f1 sco pos) 0 it acc env = (do
    standAt i0.pos
    match ← pyNext it with
    | none => pure (.done .next)
    | some v =>
      letOwnedTupleGo t0 it v
      assign t0 env v
      let mut go := true
      for c in f0 do
        if go then go ← isTrue c env (eval c env)
      if go then
        let y ← eval i1 env
        standAt i1.pos
        let y ← foldedSetIterable i1 env y
        let _ ← runOwn (.compStart (sc2 elt t0 i0 t1 i1 f0 f1 sco pos) 1 (← holding [y] (pyIter y)) acc env) env
      again (.compLoop (sc2 elt t0 i0 t1 i1 f0 f1 sco pos) 0 it acc env)) := by rfl
theorem sc2_turn1 : compTurn (sc2 elt t0 i0 t1 i1 f0 f1 sco pos) 1 it acc env = (do
    standAt i1.pos
    match ← pyNext it with
    | none => pure (.done .next)
    | some v =>
      letOwnedTupleGo t1 it v
      assign t1 env v
      let mut go := true
      for c in f1 do
        if go then go ← isTrue c env (eval c env)
      if go then
        (do let v ← eval elt env; standAt elt.pos; let _ ← call (.builtin "set.add") [acc, v])
      again (.compLoop (sc2 elt t0 i0 t1 i1 f0 f1 sco pos) 1 it acc env)) := by rfl
/-- where an exception of the turn goes -/
abbrev offs (prg : Program) (w : World) (A : Around) (env : Env) (R : Result → Shared → Prop) : Value → Shared → Prop := notedBy (model prg w) A env fun e s' => R (.error e) s'
abbrev tests2 (fs : List Expr) (env : Env) : Sem Bool := forIn fs true fun c r => if r = true then do let ok ← isTrue c env (eval c env); pure (ForInStep.yield ok) else pure (ForInStep.yield r)
theorem sc2_loop0 (hs : ∀ x, foldedSetIterable i1 env x = pure x) (J : Nat → Shared → Prop)
    (turn : ∀ n s, J n s → wpAny (model prg w) A (pyNext it) (fun r sa => match r with
      | none => R (.ok .next) sa
      | some v => wpAny (model prg w) A (letOwnedTupleGo t0 it v) (fun _ sb => wpAny (model prg w) A (assign t0 env v) (fun _ sc => wpAny (model prg w) A (tests2 f0 env) (fun go sd =>
            if go = true then wpAny (model prg w) A (eval i1 env) (fun x se => wpAny (model prg w) A (pyIter x) (fun jt sf => codeAny (model prg w) A (.compStart (sc2 elt t0 i0 t1 i1 f0 f1 sco pos) 1 jt acc env) (fun r sg => match r with
                | .ok _ => ∃ m, m < n ∧ J m sg
                | .error _ => False) sf) (offs prg w A env R) se) (offs prg w A env R) sd
            else ∃ m, m < n ∧ J m sd) (offs prg w A env R) sc) (offs prg w A env R) sb) (offs prg w A env R) sa) (offs prg w A env R) s)
    (n : Nat) {s : Shared} (h : J n s) : codeAny (model prg w) A (.compLoop (sc2 elt t0 i0 t1 i1 f0 f1 sco pos) 0 it acc env) R s := by
  refine codeAny_loop rfl J (fun n s hJ => ?_) n h
  show wpAny _ A ((compTurn (sc2 elt t0 i0 t1 i1 f0 f1 sco pos) 0 it acc env).onRaise (fun x => do noteFrame x env; theTreesLotGoes x)) _ _ s
  refine wpAny_noted ?_
  rw [sc2_turn0]
  refine wpAny_bind (wpAny_standAt (wpAny_bind (wpAny_mono (turn n s hJ) (fun r sa ha => ?_) fun _ _ z => z)))
  match r, ha with
  | none, ha => exact wpAny_pure ha
  | some v, ha =>
    refine wpAny_bind (wpAny_mono ha (fun _ sb hb => ?_) fun _ _ z => z)
    refine wpAny_bind (wpAny_mono hb (fun _ sc hc => ?_) fun _ _ z => z)
    refine wpAny_bind (wpAny_mono hc (fun go sd hd => ?_) fun _ _ z => z)
    cases go with
    | false => exact wpAny_pure ⟨rfl, hd⟩
    | true =>
      refine wpAny_bind (wpAny_mono hd (fun x se he => ?_) fun _ _ z => z)
      refine wpAny_bind (wpAny_standAt (wpAny_bind (wpAny_of_eq (hs x) ?_)))
      refine wpAny_bind (wpAny_holding (wpAny_mono he (fun jt sf hf => ?_) fun _ _ z => z))
      refine wpAny_bind (wpAny_runOwn ?_)
      rw [Around.mark_none]
      refine codeAny_mono hf fun r sg hg => ?_
      match r, hg with
      | .ok _, hg =>
        first
          | exact wpAny_pure ⟨rfl, hg⟩
          | exact wpAny_bind (wpAny_pure (wpAny_pure ⟨rfl, hg⟩))
      | .error _, hg => exact hg.elim
theorem sc2_loop1 (J : Nat → Shared → Prop)
    (turn : ∀ n s, J n s → wpAny (model prg w) A (pyNext it) (fun r sa => match r with
      | none => R (.ok .next) sa
      | some v => wpAny (model prg w) A (letOwnedTupleGo t1 it v) (fun _ sb => wpAny (model prg w) A (assign t1 env v) (fun _ sc => wpAny (model prg w) A (tests2 f1 env) (fun go sd =>
            if go = true then wpAny (model prg w) A (eval elt env) (fun x se => wpAny (model prg w) A (call (.builtin "set.add") [acc, x]) (fun _ sf => ∃ m, m < n ∧ J m sf) (offs prg w A env R) se) (offs prg w A env R) sd
            else ∃ m, m < n ∧ J m sd) (offs prg w A env R) sc) (offs prg w A env R) sb) (offs prg w A env R) sa) (offs prg w A env R) s)
    (n : Nat) {s : Shared} (h : J n s) : codeAny (model prg w) A (.compLoop (sc2 elt t0 i0 t1 i1 f0 f1 sco pos) 1 it acc env) R s := by
  refine codeAny_loop rfl J (fun n s hJ => ?_) n h
  show wpAny _ A ((compTurn (sc2 elt t0 i0 t1 i1 f0 f1 sco pos) 1 it acc env).onRaise (fun x => do noteFrame x env; theTreesLotGoes x)) _ _ s
  refine wpAny_noted ?_
  rw [sc2_turn1]
  refine wpAny_bind (wpAny_standAt (wpAny_bind (wpAny_mono (turn n s hJ) (fun r sa ha => ?_) fun _ _ z => z)))
  match r, ha with
  | none, ha => exact wpAny_pure ha
  | some v, ha =>
    refine wpAny_bind (wpAny_mono ha (fun _ sb hb => ?_) fun _ _ z => z)
    refine wpAny_bind (wpAny_mono hb (fun _ sc hc => ?_) fun _ _ z => z)
    refine wpAny_bind (wpAny_mono hc (fun go sd hd => ?_) fun _ _ z => z)
    cases go with
    | false => exact wpAny_pure ⟨rfl, hd⟩
    | true =>
      refine wpAny_bind (wpAny_bind (wpAny_mono hd (fun x se he => ?_) fun _ _ z => z))
      refine wpAny_bind (wpAny_standAt (wpAny_bind (wpAny_mono he (fun _ sf hf => ?_) fun _ _ z => z)))
      exact wpAny_pure (wpAny_pure ⟨rfl, hf⟩)
theorem sc2_start1 {s : Shared} (h0 : codeAny (model prg w) A (.compLoop (sc2 elt t0 i0 t1 i1 f0 f1 sco pos) 1 it acc env) R s)
    (h : wpAny (model prg w) A (pyIter it) (fun jt s' => codeAny (model prg w) A (.compLoop (sc2 elt t0 i0 t1 i1 f0 f1 sco pos) 1 jt acc env) R s') (offs prg w A env R) s) :
    codeAny (model prg w) A (.compStart (sc2 elt t0 i0 t1 i1 f0 f1 sco pos) 1 it acc env) R s := by
  refine codeAny_of_tree ?_
  show wpAny _ _ ((compStart (sc2 elt t0 i0 t1 i1 f0 f1 sco pos) 1 it acc env).onRaise (fun x => do noteFrame x env; standAt theWindowsPlace)) _ _ s
  refine wpAny_notedAt ?_
  unfold compStart
  show wpAny _ _ (ask >>= _) _ _ s
  refine wpAny_bind (wpAny_askSetting (wpAny_ite ?_))
  have hb : wpAny (model prg w) A (pyIter it) (fun jt s' => wpAny (model prg w) A (pure jt) (fun jt s' => codeAny (model prg w) A (.compLoop (sc2 elt t0 i0 t1 i1 f0 f1 sco pos) 1 jt acc env) R s') (offs prg w A env R) s') (offs prg w A env R) s := wpAny_mono h (fun _ _ z => wpAny_pure z) fun _ _ z => z
  split
  · first
      | exact wpAny_bind (wpAny_pure (wpAny_pure ⟨rfl, h0⟩))
      | exact wpAny_pure ⟨rfl, h0⟩
  · refine wpAny_bind (wpAny_rule ?_)
    first
      | exact wpAny_bind (wpAny_standAt (wpAny_bind (wpAny_mono h (fun _ _ z => wpAny_pure ⟨rfl, z⟩) fun _ _ z => z)))
      | (show wpAny _ _ (standAt i1.pos >>= _) _ _ s; exact wpAny_bind (wpAny_standAt (wpAny_bind (wpAny_mono h (fun _ _ z => wpAny_pure ⟨rfl, z⟩) fun _ _ z => z))))
end
/-- the second for, to the end of its list; D the set that is filled -/
def InS (w : World) (g1 : TG) (tt1 : TT) (te : TE) (vs1 : List Nat) (σ2 : L2.St) (D : Addr) (N : Hp → Prop) (J1 : It) (H4 : Hp) : Prop := ∃ W1 : Nat → Nat → Hp → Prop, (∃ m, W1 0 m H4) ∧ ∀ j k H, W1 j k H → (J1.stop j H ∧ N H) ∨
  (J1.go j H ∧ ∃ M : Hp → Prop, (∀ H', M H' → ∃ k', k' < k ∧ W1 (j + 1) k' H') ∧ ∀ x H', J1.yld j H x H' → g1 x (wipe σ2 vs1) H' fun σ3 H5 => wipe σ3 vs1 = wipe σ2 vs1 ∧ tt1 σ3 H5 fun b H6 =>
    if b = true then te σ3 H6 fun y H7 => ∃ (c : Int) (S : Int → Bool) (n : Nat), y = .int c ∧ H7 D = some (SetO w D S n) ∧ n + 1 < scanBound ∧ M (upd H7 D (SetO w D (fun j => S j || decide (j = c)) (if S c = true then n else n + 1))) else M H6)
def Sc2End (w : World) (g : TG) (tt : TT) (wi1 : TI) (g1 : TG) (tt1 : TT) (te : TE) (vs vs1 : List Nat) (σ : L2.St) (Q : VK) (J : It) (H1 : Hp) : Prop := ∀ D, H1 D = none → ∃ W : Nat → Nat → Hp → Prop, (∃ m, W 0 m (upd H1 D (SetO w D (fun _ => false) 0))) ∧ ∀ i m H, W i m H → (J.stop i H ∧ Q (.ref D) H) ∨
  (J.go i H ∧ ∃ M : Hp → Prop, (∀ H', M H' → ∃ m', m' < m ∧ W (i + 1) m' H') ∧ ∀ x H', J.yld i H x H' → g x (wipe σ vs) H' fun σ2 H2 => wipe σ2 vs = wipe σ vs ∧ tt σ2 H2 fun b H3 => if b = true then wi1 σ2 H3 (InS w g1 tt1 te vs1 σ2 D M) else M H3)
def tSc2 (w : World) (wi : TI) (g : TG) (tt : TT) (wi1 : TI) (g1 : TG) (tt1 : TT) (te : TE) (vs vs1 : List Nat) : TE := fun σ H Q => wi σ H (Sc2End w g tt wi1 g1 tt1 te vs vs1 σ Q)
section
variable {X : Cx} {elt t0 i0 t1 i1 : Expr} {f0 f1 : List Expr} {sco : Scope} {own : List (Str × Nat)} {vs1 : List Nat} {pos : Pos} {wi wi1 : TI} {g g1 : TG} {tt tt1 : TT} {te : TE}
theorem pe_sc2 (hc : X.calm = true) (hN : X.N.Nodup) (hi : PI X t0 i0 wi) (ok : BlkOk X.N X.env.scope sco own) (hv : ∀ i ∈ vs1, i ∈ own.map (·.2))
    (hg : ∀ (s : Shared) (H : Hp) (C : Addr) (cl : List (Str × Addr)) (fp : List Addr), PG (X.blk s H sco (compEnvC sco cl C X.env) fp) t0 g)
    (ht : ∀ (s : Shared) (H : Hp) (C : Addr) (cl : List (Str × Addr)) (fp : List Addr), PTs (X.blk s H sco (compEnvC sco cl C X.env) fp) f0 tt)
    (hi1 : ∀ (s : Shared) (H : Hp) (C : Addr) (cl : List (Str × Addr)) (fp : List Addr), PI (X.blk s H sco (compEnvC sco cl C X.env) fp) t1 i1 wi1)
    (hg1 : ∀ (s : Shared) (H : Hp) (C : Addr) (cl : List (Str × Addr)) (fp : List Addr), PG (X.blk s H sco (compEnvC sco cl C X.env) fp) t1 g1)
    (ht1 : ∀ (s : Shared) (H : Hp) (C : Addr) (cl : List (Str × Addr)) (fp : List Addr), PTs (X.blk s H sco (compEnvC sco cl C X.env) fp) f1 tt1)
    (he : ∀ (s : Shared) (H : Hp) (C : Addr) (cl : List (Str × Addr)) (fp : List Addr), PE (X.blk s H sco (compEnvC sco cl C X.env) fp) elt te)
    (hs : ∀ x, foldedSetIterable i0 X.env x = pure x := by intro _; rfl) (hs1 : ∀ env x, foldedSetIterable i1 env x = pure x := by intro _ _; rfl) :
    PE X (sc2 elt t0 i0 t1 i1 f0 f1 sco pos) (tSc2 X.w wi g tt wi1 g1 tt1 te (own.map (·.2)) vs1) := by
  refine ⟨fun pins s σ H Q I h => ?_⟩
  rw [PpSet.eval_SetComp]
  have hfree : ∀ y ∈ sco.names, y.2 = .free → ∃ c, X.env.cells.lookup y.1 = some c := fun y hy e => (ok.free y hy e).elim (fun k => I.ok.has _ (.inl k)) (fun k => I.ok.has _ (.inr k))
  refine wpAny_comprehension_free (use := none) rfl hs (closure_ok hfree) ok.kind (fun y hy e => by rw [ok.uniq y hy, e]) ?_
  refine thn (hi.run pins s σ H _ I h) fun xv sa hx => thn hx fun itv sb hb => ?_
  obtain ⟨it, fp, tn, J, Hb, e, Ib, T, stb, fb, q⟩ := hb
  subst e
  refine PpSet.newSet_ok (newEnv_comp ?_)
  generalize hD : sb.heap.objs.size = D
  obtain ⟨W, ⟨m0, w0⟩, turn⟩ := q D (Ib.hok.fresh (Nat.le_of_eq hD))
  generalize hE : SetO X.w D (fun _ => false) 0 = eo at w0
  have hDb : Hb D = none := Ib.hok.fresh (Nat.le_of_eq hD)
  generalize hsc : ({ sb with heap := sb.heap.push { cls := .type "set", dict := none, data := .set #[] 0 (.fresh 0 0 (!X.w.params.followText "set-order")) } } : Shared) = sc
  have hpush : sc.heap = sb.heap.push { cls := .type "set", dict := none, data := .set #[] 0 (.fresh 0 0 (!X.w.params.followText "set-order")) } := by rw [← hsc]
  have old : ∀ b o, sb.heap.get? b = some o → sc.heap.get? b = some o := fun b o e => by rw [hpush]; exact Heap.get?_push_of_some _ e
  have Ic : Inv X pins σ (upd Hb D eo) sc := by
    rw [← hsc, ← hE]
    refine Ib.laid (t' := sb.toks) (fun b o e => Heap.get?_push_of_some _ e) (Nat.le_of_eq hD) ?_
    rw [← hD]
    exact setO_new (setR_fresh X.w)
  have below : ∀ b ∈ fp, b < sb.heap.objs.size := fun b hb => by
    obtain ⟨o, e, _⟩ := T.obj _ _ stb b hb
    exact Heap.lt_size e
  have fc : ∀ b ∈ fp, FpOk X pins (upd Hb D eo) b ∧ b < sc.heap.objs.size := fun b hb => by
    have lt := below b hb
    have ne : b ≠ D := by rw [← hD]; exact Nat.ne_of_lt lt
    exact ⟨⟨by rw [upd_ne ne]; exact (fb b hb).1, (fb b hb).2⟩, by rw [hpush, Heap.size_push]; exact Nat.lt_succ_of_lt lt⟩
  have stc : tn 0 sc.heap := T.keep _ _ _ stb fun b _ o e => old b o e
  have Id := block_start Ic ok hN fc
  generalize hHc : upd Hb D eo = Hc at w0 Ic Id fc
  generalize hcl : cellsFrom (sc.heap.objs.size + 1) sco.names (cloFrom X.env.cells sco.names []) = cl at Id
  have pg := hg sc Hc sc.heap.objs.size cl fp
  have pt := ht sc Hc sc.heap.objs.size cl fp
  have pe := he sc Hc sc.heap.objs.size cl fp
  have pi1 := hi1 sc Hc sc.heap.objs.size cl fp
  have pg1 := hg1 sc Hc sc.heap.objs.size cl fp
  have pt1 := ht1 sc Hc sc.heap.objs.size cl fp
  show codeAny _ _ (.compStart (sc2 elt t0 i0 t1 i1 f0 f1 sco pos) 0 (.ref it) (.ref D) (compEnvC sco cl sc.heap.objs.size X.env)) (compPost (model X.prog X.w) X.A X.xe none (EP X pins σ Q) (.ref D) sc.heap.objs.size) { sc with heap := pushCells (sc.heap.push { cls := .type "dict", data := .dict #[] }) sco.names }
  generalize hen : compEnvC sco cl sc.heap.objs.size X.env = en at Id pg pt pe pi1 pg1 pt1 ⊢
  have enL : en.locals = sc.heap.objs.size := by subst hen; rfl
  generalize hsd : ({ sc with heap := pushCells (sc.heap.push { cls := .type "dict", data := .dict #[] }) sco.names } : Shared) = sd at Id ⊢
  have std : tn 0 sd.heap := T.keep _ _ _ stc fun b _ o e => by rw [← hsd]; exact pushCells_keeps _ _ _ _ (Heap.get?_push_of_some _ e)
  have at0 : ∀ {σ' : L2.St} {H' : Hp} {s' : Shared}, Inv (X.blk sc Hc sco en fp) [] σ' H' s' → (∀ b ∈ fp, H' b = none) → ∀ b ∈ fp, FpOk (X.blk sc Hc sco en fp) [] H' b := by
    intro σ' H' s' I' hn b hb
    have x1 := I'.ok.exf b hb
    refine ⟨hn b hb, x1.1, I'.ok.exfs b hb, .inl hb, fun x c e => x1.2 x c e, fun p hp => ?_⟩
    exact absurd hp (by simp)
  generalize hw : wipe σ (own.map (·.2)) = σw at Id turn
  have lw : σw.length = σ.length := by rw [← hw, wipe_length]
  have main : codeAny (model X.prog X.w) X.A (.compLoop (sc2 elt t0 i0 t1 i1 f0 f1 sco pos) 0 (.ref it) (.ref D) en) (compPost (model X.prog X.w) X.A X.xe none (EP X pins σ Q) (.ref D) sc.heap.objs.size) sd := by
    refine sc2_loop0 (hs1 en) (fun n s' => ∃ i H', Inv (X.blk sc Hc sco en fp) [] σw H' s' ∧ tn i s'.heap ∧ (∀ b ∈ fp, H' b = none) ∧ W i n H') ?_ m0 ⟨0, Hc, Id, std, fun b hb => (fc b hb).1.1, w0⟩
    rintro n s5 ⟨i, H5, I5, st5, n5, w5⟩
    rcases turn i n H5 w5 with ⟨stop, qq⟩ | ⟨go, M, hM, step⟩
    · refine thnF (T.done (X.blk sc Hc sco en fp) rfl rfl rfl hc i [] s5 _ H5 (fun _ _ => False) I5 (at0 I5 n5) st5 stop) fun r s6 ⟨hr, I6⟩ => ?_
      subst hr
      have I7 : Inv X pins σ H5 s6 := by
        refine Ic.call' (ch := fp) I6.os I6.base I6.hok I6.bare fun b hb => ?_
        obtain ⟨_, y1, y2, y3, y4, y5⟩ := (fc b hb).1
        exact ⟨y3, y1, y4, y5⟩
      have nC : H5 sc.heap.objs.size = none := by
        have z : H5 en.locals = none := I6.free
        rw [enL] at z
        exact z
      obtain ⟨m, hn, _⟩ := I6.loc
      have hn2 : s6.heap.Ns en.locals m := hn
      rw [enL] at hn2
      refine ⟨m, hn2, fun h'' eb => ?_⟩
      obtain ⟨y0, y1, y2, y3, y4, y5⟩ := Ic.fpOk (Nat.le_refl _) nC
      exact ⟨.ref D, H5, I7.turned (t' := s6.toks) (fun b o hb e => (eb.2 b hb).trans e) y0 y1 y3 y4 y5, rfl, qq⟩
    · refine thnF (T.item (X.blk sc Hc sco en fp) rfl rfl rfl hc i [] s5 _ H5 (fun _ _ => False) I5 (at0 I5 n5) st5 go) fun r s6 ⟨u, hr, h6⟩ => ?_
      subst hr
      refine thnF h6 fun _ s7 ⟨x, H7, I7, r7, y7, st7, n7⟩ => ?_
      refine thnF (pg.run _ s7 _ H7 x u _ (I7.pinned (at0 I7 n7) (T.obj _ _ st7)) r7 (step x H7 y7)) fun _ s8 ⟨σ8, H8, I8, hw8, q8⟩ => ?_
      refine thnF (pt.run _ s8 σ8 H8 _ I8 q8) fun b s9 ⟨H9, I9, q9⟩ => ?_
      have l8 : σw.length = σ8.length := by rw [lw, ← wipe_length σ (own.map (·.2)), hw, ← hw8, wipe_length]
      have k8 : ∀ (j : Nat) v, σw[j]? = some (some v) → σ8[j]? = some (some v) := fun j v e => by
        rw [← hw8] at e
        exact (wipe_some e).1
      -- behind a turn: what the outer loop knows
      have back : ∀ {σ9 : L2.St} {s' : Shared} {H' : Hp}, Inv (X.blk sc Hc sco en fp) ([] ++ pinsAt fp s7.heap) σ9 H' s' → σw.length = σ9.length → (∀ (j : Nat) v, σw[j]? = some (some v) → σ9[j]? = some (some v)) → M H' →
          ∃ m, m < n ∧ ∃ i H', Inv (X.blk sc Hc sco en fp) [] σw H' s' ∧ tn i s'.heap ∧ (∀ b ∈ fp, H' b = none) ∧ W i m H' := by
        intro σ9 s' H' I' hl hk nx
        obtain ⟨m', hm, w'⟩ := hM H' nx
        have stay : ∀ b ∈ fp, ∀ o, s7.heap.get? b = some o → s'.heap.get? b = some o ∧ H' b = none := by
          intro b hb o e
          have z := I'.pin (b, o) (List.mem_append_right _ (List.mem_append_right _ (mem_pinsAt hb e)))
          exact ⟨z.1, z.2.1⟩
        refine ⟨m', hm, i + 1, H', (I'.unpinned (pins := [])).weak hl hk, ?_, fun b hb => ?_, w'⟩
        · exact T.keep _ _ _ st7 fun b hb o e => (stay b hb o e).1
        · obtain ⟨o, e, _⟩ := T.obj _ _ st7 b hb
          exact (stay b hb o e).2
      match b, q9 with
      | false, q9 => exact back I9 l8 k8 q9
      | true, q9 =>
        refine thnF (pi1.run _ s9 σ8 H9 _ I9 q9) fun xv s10 hx => thnF hx fun jv s11 h11 => ?_
        obtain ⟨jt, fq, tq, J1, H11, e1, I11, T1, st11, f11, W1, ⟨m1, w1⟩, turn1⟩ := h11
        subst e1
        have k9 : ∀ (j : Nat) v, σw[j]? = some (some v) → (wipe σ8 vs1)[j]? = some (some v) := fun j v e => by
          rw [← hw8] at e
          obtain ⟨e1, e2⟩ := wipe_some e
          rw [wipe_out fun z => e2 (hv j z)]
          exact e1
        have at1 : ∀ {H' : Hp}, (∀ b ∈ fq, H' b = none) → ∀ b ∈ fq, FpOk (X.blk sc Hc sco en fp) ([] ++ pinsAt fp s7.heap) H' b := fun hn b hb => ⟨hn b hb, (f11 b hb).2⟩
        have inner : codeAny (model X.prog X.w) X.A (.compLoop (sc2 elt t0 i0 t1 i1 f0 f1 sco pos) 1 (.ref jt) (.ref D) en) (fun r s' => match r with
              | .ok _ => ∃ m, m < n ∧ ∃ i H', Inv (X.blk sc Hc sco en fp) [] σw H' s' ∧ tn i s'.heap ∧ (∀ b ∈ fp, H' b = none) ∧ W i m H'
              | .error _ => False) s11 := by
          refine sc2_loop1 (fun k s' => ∃ j H', Inv (X.blk sc Hc sco en fp) ([] ++ pinsAt fp s7.heap) (wipe σ8 vs1) H' s' ∧ tq j s'.heap ∧ (∀ b ∈ fq, H' b = none) ∧ W1 j k H') ?_ m1 ⟨0, H11, I11.weak (wipe_length _ _) (fun j v e => (wipe_some e).1), st11, fun b hb => (f11 b hb).1, w1⟩
          rintro k s12 ⟨j, H12, I12, st12, n12, w12⟩
          rcases turn1 j k H12 w12 with ⟨stop1, nx1⟩ | ⟨go1, M1, hM1, step1⟩
          · refine thnF (T1.done (X.blk sc Hc sco en fp) rfl rfl rfl hc j _ s12 (wipe σ8 vs1) H12 (fun _ _ => False) I12 (at1 n12) st12 stop1) fun r s13 ⟨hr, I13⟩ => ?_
            subst hr
            exact back I13 (l8.trans (wipe_length σ8 vs1).symm) k9 nx1
          · refine thnF (T1.item (X.blk sc Hc sco en fp) rfl rfl rfl hc j _ s12 (wipe σ8 vs1) H12 (fun _ _ => False) I12 (at1 n12) st12 go1) fun r s13 ⟨u1, hr, h13⟩ => ?_
            subst hr
            refine thnF h13 fun _ s14 ⟨x1, H14, I14, r14, y14, st14, n14⟩ => ?_
            refine thnF (pg1.run _ s14 (wipe σ8 vs1) H14 x1 u1 _ (I14.pinned (at1 n14) (T1.obj _ _ st14)) r14 (step1 x1 H14 y14)) fun _ s15 ⟨σ15, H15, I15, hw15, q15⟩ => ?_
            refine thnF (pt1.run _ s15 σ15 H15 _ I15 q15) fun b1 s16 ⟨H16, I16, q16⟩ => ?_
            have back1 : ∀ {s' : Shared} {H' : Hp}, Inv (X.blk sc Hc sco en fp) (([] ++ pinsAt fp s7.heap) ++ pinsAt fq s14.heap) σ15 H' s' → M1 H' → ∃ m, m < k ∧ ∃ j H', Inv (X.blk sc Hc sco en fp) ([] ++ pinsAt fp s7.heap) (wipe σ8 vs1) H' s' ∧ tq j s'.heap ∧ (∀ b ∈ fq, H' b = none) ∧ W1 j m H' := by
              intro s' H' I' nx
              obtain ⟨m', hm, w'⟩ := hM1 H' nx
              have stay : ∀ b ∈ fq, ∀ o, s14.heap.get? b = some o → s'.heap.get? b = some o ∧ H' b = none := by
                intro b hb o e
                have z := I'.pin (b, o) (List.mem_append_right _ (List.mem_append_right _ (mem_pinsAt hb e)))
                exact ⟨z.1, z.2.1⟩
              refine ⟨m', hm, j + 1, H', I'.unpinned.weak (by rw [← hw15, wipe_length]) (fun j v e => by rw [← hw15] at e; exact (wipe_some e).1), ?_, fun b hb => ?_, w'⟩
              · exact T1.keep _ _ _ st14 fun b hb o e => (stay b hb o e).1
              · obtain ⟨o, e, _⟩ := T1.obj _ _ st14 b hb
                exact (stay b hb o e).2
            match b1, q16 with
            | false, q16 => exact back1 I16 q16
            | true, q16 =>
              refine thnF (pe.run _ s16 σ15 H16 _ I16 q16) fun z s17 ⟨yv, H17, I17, r17, cv, S0, n0, ey, hD17, hz17, nx⟩ => ?_
              subst ey
              have add := mt_sadd (X := X.blk sc Hc sco en fp) _ s17 σ15 H17 (.ref D) [.int cv] (.ref D) [z] (fun v H' => v = .non ∧ M1 H') I17 rfl (.cons r17 .nil) ⟨D, cv, S0, n0, rfl, rfl, hD17, hz17, rfl, nx⟩
              exact thnF add fun v s18 ⟨v', H18, I18, _, _, nx18⟩ => back1 I18 nx18
        exact sc2_start1 inner (T1.self X.A 0 _ _ _ st11 inner)
  exact PpSet.codeAny_compStart_set main (T.self X.A 0 _ _ _ std main)
end
end Wd
/-! set(xs) of a list of whole numbers. -/
namespace Wd
open PySem PySem.Spec PyProof.Rows L2
/-- a set that has just been made -/
abbrev setFresh (w : World) : Obj := { cls := .type "set", dict := none, data := .set #[] 0 (.fresh 0 0 (!w.params.followText "set-order")) }
section
variable {P : Program} {w : World} {A : Around} {E : Value → Shared → Prop} {s : Shared}
/-- what set(xs) leaves: the set of the numbers, at a new place -/
def SetMade (w : World) (s : Shared) (ns : List Int) (Q : Value → Shared → Prop) : Prop := ∀ (h' : Heap) (tk c : Nat), SetR w h' s.heap.objs.size (fun j => decide (j ∈ ns)) c → c ≤ ns.length → (∀ b o, s.heap.get? b = some o → h'.get? b = some o) → Q (.ref s.heap.objs.size) { s with heap := h', toks := tk }
/-- the filling of the new set -/
def SetFilled (w : World) (s : Shared) (ns : List Int) (r : Value) (s₂ : Shared) : Prop := r = .none ∧ ∃ h' tk c, s₂ = { s with heap := h', toks := tk } ∧ SetR w h' s.heap.objs.size (fun j => decide (j ∈ ns)) c ∧ c ≤ ns.length ∧ (∀ b o, s.heap.get? b = some o → h'.get? b = some o)
set_option maxHeartbeats 3200000 in
theorem set_filled {l : Addr} {items : Array Value} (ns : List Int) (hh : A.handled = none) (hl : s.heap.IsList l items) (hit : IntsAre items.toList ns) (hb : ns.length + 1 < scanBound) :
    wpAny (model P w) A.in1.in1 (Builtin.«set.__init__» ⟨[.ref s.heap.objs.size, .ref l], []⟩) (fun f s₂ => match f with
      | .done f => wants (SetFilled w s ns) E (.ok f) s₂
      | .again c' => c'.quiet = true ∧ codeAny (model P w) A.in1 c' (wants (SetFilled w s ns) E) s₂) (fun e s₂ => wants (SetFilled w s ns) E (.error e) s₂) { s with heap := s.heap.push (setFresh w) } := by
  have cnt : items.size = ns.length := by
    have q := IntsAre.length hit
    rw [Array.length_toList] at q
    exact q
  obtain ⟨ob, hob, hcl, nl, hdl⟩ := hl
  obtain ⟨obc, obd, obx, obs⟩ := ob
  simp only at hcl hdl
  subst hcl hdl
  have lS : l < s.heap.objs.size := Heap.lt_size hob
  generalize hh1 : s.heap.push (setFresh w) = h1
  have atN : h1.get? s.heap.objs.size = some (setFresh w) := by rw [← hh1]; exact Heap.get?_push_size _ rfl
  have old1 : ∀ b o, s.heap.get? b = some o → h1.get? b = some o := fun b o e => by rw [← hh1]; exact Heap.get?_push_of_some _ e
  have sz1 : h1.objs.size = s.heap.objs.size + 1 := by rw [← hh1]; exact Heap.size_push ..
  have q1 := F.sub_list_set
  have q2 := F.sub_list_frozenset
  have q3 : (Value.type "list" == Value.type "dict") = false := by decide
  have hob1 := old1 _ _ hob
  have lst1 : h1.IsList l items := ⟨_, hob1, rfl, nl, rfl⟩
  unfold Builtin.«set.__init__» noKeywords Builtin.Frozenset.updateFrom
  generalize hPI : pyIter = PI
  wp_walk
  subst hPI
  refine wpAny_pyIter_list lst1 (wpAny_bind (wpAny_runValue ?_))
  have un : A.in1.in1.in1.handled = none := by simp [hh]
  have nI : l ≠ h1.objs.size := by rw [sz1]; exact Nat.ne_of_lt (Nat.lt_succ_of_lt lS)
  have notin : s.heap.objs.size ∉ [h1.objs.size, l] := by
    rw [sz1]
    simp only [List.mem_cons, List.not_mem_nil, or_false, not_or]
    exact ⟨Nat.ne_of_lt (Nat.lt_succ_self _), Nat.ne_of_gt lS⟩
  refine set_update_ints ((Walks.list un _ l nI items).toS) s.heap.objs.size notin ns cnt hb (fun i v hv => ?_) (items.size - 0) 0 _ (by omega) (Nat.zero_le _) ⟨⟨_, Heap.get?_push_size _ rfl, rfl, rfl⟩, lst1.push _⟩ ⟨0, Nat.le_refl 0, setR_new_at (Heap.get?_push_of_some _ atN)⟩ fun s' c mv cle R => ?_
  · have hi : i < ns.length := by rw [← cnt]; exact (Array.getElem?_eq_some_iff.mp hv).1
    obtain ⟨t, e⟩ := PyProof.Rows.IntsAre.int_at hit i v (by rw [Array.getElem?_toList]; exact hv)
    refine ⟨ns[i], t, List.getElem?_eq_getElem hi, ?_⟩
    rw [e, List.getD_eq_getElem?_getD, List.getElem?_eq_getElem hi] <;> rfl
  · obtain ⟨g1, g2, g3, g4, g5⟩ := s'
    obtain rfl : g2 = s.gens := mv.gens
    obtain rfl : g3 = s.drawn := mv.drawn
    obtain rfl : g5 = s.os := mv.os
    refine wpAny_pure ?_
    show wpAny _ _ (ret Value.none) _ _ _
    rw [cnt] at cle
    refine wpAny_pure ⟨rfl, g1, g4, c, rfl, R, cle, fun b o e => ?_⟩
    have lb := Heap.lt_size e
    refine mv.heap b o ?_ (Heap.get?_push_of_some _ (old1 b o e))
    rw [sz1]
    simp only [List.mem_cons, List.not_mem_nil, or_false, not_or]
    exact ⟨Nat.ne_of_lt lb, Nat.ne_of_lt (Nat.lt_succ_of_lt lb)⟩
set_option maxHeartbeats 3200000 in
theorem set_of_list {l : Addr} {items : Array Value} (ns : List Int) {Q : Value → Shared → Prop} (hh : A.handled = none) (hl : s.heap.IsList l items) (hit : IntsAre items.toList ns) (hb : ns.length + 1 < scanBound) (h : SetMade w s ns Q) :
    wpAny (model P w) A (call (.type "set") [.ref l]) Q E s := by
  have C := F.called_set
  obtain ⟨m0, ml, mro⟩ := C.mro
  have e1 := C.made
  have e2 := C.sub
  have e3 := C.notType
  have e4 := C.canCreate
  have e5 := F.typeCall_set_1 (.ref l)
  refine wpAny_call (codeAny_of_tree ?_)
  show wpAny _ _ (callAny (.type "set") _) _ _ _
  refine wpAny_pure ⟨Code.quiet_builtin _ (by decide +kernel), codeAny_builtin F.entry_type_call ?_⟩
  rw [Around.under_plain (weight_type_call_type "set" [.ref l] []) rfl]
  repeat (any_goals (first | assumption | wp_step))
  refine codeAny_mono (code_set_led1 (.ref l) (E := E) (Q₁ := fun ob s₁ => ob = .ref s.heap.objs.size ∧ s₁ = { s with heap := s.heap.push (setFresh w) }) ⟨rfl, rfl⟩) fun r s₁ hr => ?_
  match r, hr with
  | .error _, hr => exact hr
  | .ok (.ret ob), hr =>
    obtain ⟨rfl, rfl⟩ := hr
    have tyN : Shared.TypeIs { s with heap := s.heap.push (setFresh w) } (.ref s.heap.objs.size) "set" := ⟨_, Heap.get?_push_size _ rfl, rfl⟩
    have i1 := C.init.lookup
    have i2 := C.init.bind (.ref s.heap.objs.size)
    repeat (any_goals (first | assumption | wp_step))
    refine codeAny_mono (codeAny_call_builtin (R := wants (SetFilled w s ns) E) C.init.plain F.entry_set_init (check_set_init_1 tyN ?_)) fun r₂ s₂ hr₂ => ?_
    · exact set_filled ns hh hl hit hb
    · match r₂, hr₂ with
      | .error _, hr₂ => exact hr₂
      | .ok (.ret _), hr₂ =>
        obtain ⟨rfl, h', tk, c, rfl, R, cle, old⟩ := hr₂
        repeat (any_goals (first | assumption | wp_step))
        exact h _ _ _ R cle old
end
/-- set(xs), xs a list of whole numbers -/
def rSetOf (K : PySem.W.Frag) (w : World) : List V → Hp → VK → Prop := fun vs H Q => ∃ (a : Addr) (ns : List Int), vs = [.ref a] ∧ SqL K H a (ns.map V.int) ∧ ns.length ≤ 1000 ∧ ∀ p c (es : List Int), H p = none → es.Nodup → (∀ k, k ∈ es ↔ k ∈ ns) → es.length = c → Q (.ref p) (upd H p (SetO w p (fun j => decide (j ∈ ns)) c))
theorem cr_setOf {X : Cx} (hc : X.calm = true) : CallR X (.type "set") (rSetOf X.K X.w) := by
  intro pins s σ H vs us Q I r h
  obtain ⟨a, ns, rfl, hs, hl, q⟩ := h
  obtain ⟨its, rv, hi, _⟩ := I.list hs
  rw [Vals.ref1 r]
  refine set_of_list ns (I.ok.hd hc) hi.isList rv.ints (by unfold scanBound; omega) fun h' tk c R cle old => ?_
  refine ⟨.ref _, upd H s.heap.objs.size (SetO X.w s.heap.objs.size (fun j => decide (j ∈ ns)) c), I.laid (t' := tk) old (Nat.le_refl _) (setO_new R), rfl, ?_⟩
  obtain ⟨o, es, ep, t, _, _, _, _, nd, hm, _, _, hn, _⟩ := R
  refine q _ c (es.toList.map keyOf) (I.hok.fresh (Nat.le_refl _)) nd (fun k => ?_) (by rw [List.length_map, Array.length_toList]; exact hn)
  rw [← hm k, decide_eq_true_iff]
/-- a for over range(lo, n) -/
theorem w_range2 {σ : L2.St} {H : Hp} {a : L2.St → Hp → Prop} {b : VK} {g : TG} {tb : TS} {lo n : Int} (h1 : -(2 ^ 62) ≤ lo ∧ lo < 2 ^ 62 ∧ -(2 ^ 62) ≤ n ∧ n < 2 ^ 62) (Pv : Nat → L2.St → Hp → Prop) (h0 : Pv 0 σ H)
    (hs : ∀ i σ H, i < (n - lo).toNat → Pv i σ H → g (.int (lo + i)) σ H fun σ2 H2 => tb ⟨Pv (i + 1), b, a, Pv (i + 1)⟩ σ2 H2) (hd : ∀ σ H, Pv (n - lo).toNat σ H → a σ H) :
    ∃ i j : Int, [V.int lo, .int n] = [.int i, .int j] ∧ (-(2 ^ 62) ≤ i ∧ i < 2 ^ 62 ∧ -(2 ^ 62) ≤ j ∧ j < 2 ^ 62) ∧ ForEnd g tb a b σ (Itr i (j - i).toNat) H :=
  ⟨lo, n, rfl, h1, for_range (D := ⟨a, b, fun _ _ => False, fun _ _ => False⟩) Pv h0 hs hd⟩
end Wd
/-! Dicts whose keys are tuples of numbers, truths, texts and such tuples. -/
namespace Wd
open PySem PySem.Spec PyProof.Rows L2
mutual
/-- v is the key k -/
inductive NestV (H : Hp) : NestedKey → V → Prop
  | non : NestV H .none .non
  | int (i : Int) : NestV H (.num i) (.int i)
  | bl (b : Bool) : NestV H (.num (if b = true then 1 else 0)) (.bl b)
  | str (x : Str) : NestV H (.text x) (.str x)
  | tup {a : Addr} {vs : List V} {ks : List NestedKey} : H a = some (.tup vs) → NestVs H ks vs → NestV H (.tup ks) (.ref a)
inductive NestVs (H : Hp) : List NestedKey → List V → Prop
  | nil : NestVs H [] []
  | cons {k : NestedKey} {v : V} {ks : List NestedKey} {vs : List V} : NestV H k v → NestVs H ks vs → NestVs H (k :: ks) (v :: vs)
end
mutual
theorem NestV.keep {H H' : Hp} (e : ∀ b xs, H b = some (.tup xs) → H' b = some (.tup xs)) : ∀ (k : NestedKey) (v : V), NestV H k v → NestV H' k v
  | .none, _, h => by cases h; exact .non
  | .num i, _, h => by
    cases h with
    | int => exact .int i
    | bl b => exact .bl b
  | .text x, _, h => by cases h; exact .str x
  | .tup ks, _, h => by cases h with | tup h1 h2 => exact .tup (e _ _ h1) (NestVs.keep e ks _ h2)
theorem NestVs.keep {H H' : Hp} (e : ∀ b xs, H b = some (.tup xs) → H' b = some (.tup xs)) : ∀ (ks : List NestedKey) (vs : List V), NestVs H ks vs → NestVs H' ks vs
  | [], _, h => by cases h; exact .nil
  | k :: ks, _, h => by cases h with | cons h1 h2 => exact .cons (NestV.keep e k _ h1) (NestVs.keep e ks _ h2)
end
theorem NestV.same {H H' : Hp} (e : Same H H') {k : NestedKey} {v : V} (h : NestV H k v) : NestV H' k v := NestV.keep (fun b xs h => e _ _ h) k v h
section
variable {X : Cx} {pins : List (Addr × Obj)} {σ : L2.St} {H : Hp} {s : Shared}
mutual
theorem nest_is (I : Inv X pins σ H s) : ∀ (k : NestedKey) (v : V) (u : Value), NestV H k v → RelV v u → NestedIs s.heap k u
  | .none, _, u, h, r => by
    cases h
    obtain rfl : u = .none := r
    exact .none
  | .num i, _, u, h, r => by
    cases h with
    | int =>
      obtain ⟨t, rfl⟩ := r
      exact .int i t
    | bl b =>
      obtain rfl : u = .bool b := r
      exact .bool rfl
  | .text x, _, u, h, r => by
    cases h
    obtain ⟨t, rfl⟩ := r
    exact .text x t
  | .tup ks, _, u, h, r => by
    cases h with
    | @tup a vs _ h1 h2 =>
      obtain rfl : u = .ref a := r
      obtain ⟨its, rv, ⟨o, ho, hc, n, hd⟩, hz⟩ := I.tuple (SqT.of h1)
      exact .tup ho hc hd (nest_all I ks vs its h2 rv)
theorem nest_all (I : Inv X pins σ H s) : ∀ (ks : List NestedKey) (vs : List V) (us : List Value), NestVs H ks vs → Vals vs us → NestedAll s.heap ks us
  | [], _, us, h, r => by
    cases h
    cases r
    exact .nil
  | k :: ks, _, us, h, r => by
    cases h with
    | cons h1 h2 =>
      cases r with
      | cons r1 r2 => exact .cons (nest_is I k _ _ h1 r1) (nest_all I ks _ _ h2 r2)
end
end
/-- keys, where they stand, and values -/
abbrev NKV := NestedKey × Addr × V
abbrev NPair (xs : List NKV) (ws : List (NestedKey × Addr × Value)) : Prop := Paired (fun x y => x.1 = y.1 ∧ x.2.1 = y.2.1 ∧ RelV x.2.2 y.2.2) xs ws
def DNat (P : Program) (w : World) (h : Heap) (d : Addr) (xs : List NKV) : Prop := (d == sysModules) = false ∧ xs.length ≤ sizeLine ∧ (xs.map (·.1)).Nodup ∧
  ∃ ws, NPair xs ws ∧ ∃ o es ep, h.get? d = some o ∧ o.ExactDict ∧ o.data = .dict es ep ∧ es.toList = ws.map (entryOfKey (nestedKind P w))
/-- the dict at d -/
def DNO (P : Program) (w : World) (d : Addr) (xs : List NKV) : HO := .ext fun h => DNat P w h d xs
/-- the keys stand where they are said to -/
def NKeys (H : Hp) (xs : List NKV) : Prop := ∀ x ∈ xs, NestV H x.1 (.ref x.2.1) ∧ x.1.depth ≤ 8
theorem NKeys.keep {H H' : Hp} {xs : List NKV} (n : NKeys H xs) (e : ∀ b xs, H b = some (.tup xs) → H' b = some (.tup xs)) : NKeys H' xs := fun x hx => ⟨NestV.keep e _ _ (n x hx).1, (n x hx).2⟩
theorem NKeys.same {H H' : Hp} {xs : List NKV} (n : NKeys H xs) (e : Same H H') : NKeys H' xs := n.keep fun b xs h => e _ _ h
def hasN (xs : List NKV) (k : NestedKey) : Bool := xs.any fun x => decide (x.1 = k)
def valN (xs : List NKV) (k : NestedKey) : Option V := (xs.find? fun x => decide (x.1 = k)).map (·.2.2)
theorem npair_keys : ∀ {xs : List NKV} {ws : List (NestedKey × Addr × Value)}, NPair xs ws → ws.map (·.1) = xs.map (·.1)
  | [], _, .nil => rfl
  | _ :: _, _ :: _, .cons h t => by rw [List.map_cons, List.map_cons, npair_keys t, h.1]
theorem npair_at : ∀ {xs : List NKV} {ws : List (NestedKey × Addr × Value)} (k : NestedKey), NPair xs ws → (atKey ws k).isSome = hasN xs k ∧ ∀ v, valN xs k = some v → ∃ p, atKey ws k = some p ∧ RelV v p.2
  | [], _, k, .nil => ⟨rfl, fun v h => nomatch h⟩
  | x :: xs, y :: ws, k, .cons h t => by
    obtain ⟨i1, i2⟩ := npair_at k t
    by_cases e : x.1 = k
    · have e2 : y.1 = k := h.1 ▸ e
      refine ⟨?_, fun v hv => ?_⟩
      · simp [atKey, hasN, e, e2]
      · have : valN (x :: xs) k = some x.2.2 := by simp [valN, e]
        rw [this] at hv
        cases hv
        exact ⟨y.2, by simp [atKey, e2], h.2.2⟩
    · have e2 : ¬ y.1 = k := h.1 ▸ e
      have a1 : atKey (y :: ws) k = atKey ws k := by simp [atKey, e2]
      have a2 : hasN (x :: xs) k = hasN xs k := by simp [hasN, e]
      have a3 : valN (x :: xs) k = valN xs k := by simp [valN, e]
      rw [a1, a2, a3]
      exact ⟨i1, i2⟩
theorem npair_mem : ∀ {xs : List NKV} {ws : List (NestedKey × Addr × Value)} {y : NestedKey × Addr × Value}, NPair xs ws → y ∈ ws → ∃ x ∈ xs, x.1 = y.1 ∧ x.2.1 = y.2.1
  | [], _, _, .nil, h => nomatch h
  | x :: xs, z :: ws, y, .cons h t, hy => by
    rcases List.mem_cons.mp hy with rfl | hy
    · exact ⟨x, List.mem_cons_self, h.1, h.2.1⟩
    · obtain ⟨x', hx, e⟩ := npair_mem t hy
      exact ⟨x', List.mem_cons_of_mem _ hx, e⟩
theorem npair_snoc : ∀ {xs : List NKV} {ws : List (NestedKey × Addr × Value)} {x : NKV} {y : NestedKey × Addr × Value}, NPair xs ws → (x.1 = y.1 ∧ x.2.1 = y.2.1 ∧ RelV x.2.2 y.2.2) → NPair (xs ++ [x]) (ws ++ [y])
  | _, _, _, _, .nil, h => .cons h .nil
  | _, _, _, _, .cons a b, h => .cons a (npair_snoc b h)
section
variable {X : Cx} {pins : List (Addr × Obj)} {σ : L2.St} {H : Hp} {s : Shared} {d : Addr} {xs : List NKV}
theorem dn_of (I : Inv X pins σ H s) (h : H d = some (DNO X.prog X.w d xs)) (nk : NKeys H xs) : (d == sysModules) = false ∧ xs.length ≤ sizeLine ∧ ∃ ws, NPair xs ws ∧ s.heap.DictOfH (nestedKind X.prog X.w) d ws := by
  obtain ⟨⟨h1, h2, h3, ws, hp, o, es, ep, ho, hx, hd, he⟩, _⟩ := I.hok d _ h
  refine ⟨h1, h2, ws, hp, o, es, ep, ho, hx, hd, he, fun y hy => ?_, by rw [npair_keys hp]; exact h3⟩
  obtain ⟨x, hx, e1, e2⟩ := npair_mem hp hy
  rw [← e1, ← e2]
  exact ⟨nest_is I _ _ _ (nk x hx).1 rfl, (nk x hx).2⟩
theorem dn_new {P : Program} {w : World} {H : Hp} {h : Heap} (n : DNat P w h d xs) : ObjOk P w H h d (DNO P w d xs) := by
  have ⟨_, _, _, _, _, o, _, _, ho, _⟩ := n
  refine ⟨n, ⟨o, ho⟩, fun h1 h2 ⟨a1, a2, a3, ws, a4, o, es, ep, b1, b2⟩ k => ⟨a1, a2, a3, ws, a4, o, es, ep, k _ b1, b2⟩⟩
theorem dn_empty {P : Program} {w : World} {h : Heap} (hb : sysModules < h.objs.size) : DNat P w (h.push { cls := .type "dict", data := .dict #[] }) h.objs.size [] :=
  ⟨beq_eq_false_iff_ne.mpr (Nat.ne_of_gt hb), Nat.zero_le _, List.nodup_nil, [], .nil, _, #[], _, Heap.get?_push_size _ rfl, ⟨rfl, rfl, rfl⟩, rfl, rfl⟩
end
/-- k in d, k not in d -/
def rNIn (P : Program) (w : World) (nin : Bool) : R2 := fun x y H Q => ∃ (k : NestedKey) (a d : Addr) (xs : List NKV), x = .ref a ∧ y = .ref d ∧ H d = some (DNO P w d xs) ∧ NKeys H xs ∧ NestV H k (.ref a) ∧ k.depth ≤ 8 ∧ Q (.bl (nin != hasN xs k)) H
def tNGet (P : Program) (w : World) (td ty : TE) : TE := fun σ H Q => td σ H fun x H1 => ty σ H1 fun y H2 => ∃ (k : NestedKey) (a d : Addr) (xs : List NKV) (v : V), y = .ref a ∧ x = .ref d ∧ H2 d = some (DNO P w d xs) ∧ NKeys H2 xs ∧ NestV H2 k (.ref a) ∧ k.depth ≤ 8 ∧ valN xs k = some v ∧ Q v H2
/-- d[k] = v, k new -/
def sNPut (P : Program) (w : World) (td ty tv : TE) : TS := fun D σ H => tv σ H fun v H1 => td σ H1 fun x H2 => ty σ H2 fun y H3 => ∃ (k : NestedKey) (a d : Addr) (xs : List NKV), y = .ref a ∧ x = .ref d ∧ H3 d = some (DNO P w d xs) ∧ NKeys H3 xs ∧ NestV H3 k (.ref a) ∧ k.depth ≤ 8 ∧ hasN xs k = false ∧ xs.length < sizeLine ∧
  D.nx σ (upd H3 d (DNO P w d (xs ++ [(k, a, v)])))
def tNNew (P : Program) (w : World) : TE := fun _ H Q => ∀ d, H d = none → Q (.ref d) (upd H d (DNO P w d []))
/-- {k: v} -/
def tNDisp (P : Program) (w : World) (tk tv : TE) : TE := fun σ H Q => ∀ d, H d = none → tk σ (upd H d (DNO P w d [])) fun x H1 => tv σ H1 fun v H2 => ∃ (k : NestedKey) (a : Addr), x = .ref a ∧ H2 d = some (DNO P w d []) ∧ NestV H2 k (.ref a) ∧ k.depth ≤ 8 ∧ Q (.ref d) (upd H2 d (DNO P w d [(k, a, v)]))
section
variable {X : Cx} {o i e value kx vx : Expr} {pos pos' : Pos} {td ty tv tk : TE}
theorem op_nin (hu : X.A.units + 64 < cLine) : OpR X (compareOp .In) (rNIn X.prog X.w false) := by
  intro pins s σ H x y v u Q I rx ry h
  obtain ⟨k, a, d, xs, rfl, rfl, hd, nk, nv, dk, q⟩ := h
  obtain rfl : v = Value.ref a := rx
  obtain rfl : u = Value.ref d := ry
  obtain ⟨h1, h2, ws, hp, hD⟩ := dn_of I hd nk
  refine wpAny_in_heap (knd := nestedKind X.prog X.w) (show X.A.in1.units + 8 < cLine by show X.A.units + 1 + 8 < cLine; omega) ⟨nest_is I _ _ _ nv rfl, dk⟩ h1 hD ?_
  rw [(npair_at k hp).1]
  exact ⟨.bl (hasN xs k), H, I.tok _, rfl, by rw [Bool.false_bne] at q; exact q⟩
theorem op_nnotin (hu : X.A.units + 64 < cLine) : OpR X (compareOp .NotIn) (rNIn X.prog X.w true) := by
  intro pins s σ H x y v u Q I rx ry h
  obtain ⟨k, a, d, xs, rfl, rfl, hd, nk, nv, dk, q⟩ := h
  obtain rfl : v = Value.ref a := rx
  obtain rfl : u = Value.ref d := ry
  obtain ⟨h1, h2, ws, hp, hD⟩ := dn_of I hd nk
  show wpAny _ _ (do return Value.bool (!(← contains (.ref d) (.ref a)))) _ _ s
  refine wpAny_bind (wpAny_contains_heap (knd := nestedKind X.prog X.w) (show X.A.in1.units + 8 < cLine by show X.A.units + 1 + 8 < cLine; omega) ⟨nest_is I _ _ _ nv rfl, dk⟩ h1 hD (wpAny_pure ?_))
  rw [(npair_at k hp).1]
  exact ⟨.bl (!hasN xs k), H, I.tok _, rfl, by rw [Bool.true_bne] at q; exact q⟩
theorem pe_nget (hu : X.A.units + 64 < cLine) (ho : PE X o td) (hi : PE X i ty) (hs : NoSl i) : PE X (.Subscript o i pos) (tNGet X.prog X.w td ty) := by
  refine ⟨fun pins s σ H Q I h => ?_⟩
  refine subD_of PySem.F.slot_dict_getitem.lookup hs (thn (ho.run pins s σ H _ I h) fun u s1 ⟨x, H1, I1, rx, q1⟩ => thn (hi.run pins s1 σ H1 _ I1 q1) fun iv s2 ⟨y, H2, I2, ry, k, a, d, xs, v, ea, ed, hd, nk, nv, dk, hv, q2⟩ => ?_)
  subst ea ed
  obtain rfl : u = Value.ref d := rx
  obtain rfl : iv = Value.ref a := ry
  obtain ⟨h1, h2, ws, hp, hD⟩ := dn_of I2 hd nk
  obtain ⟨p, hpa, rv⟩ := (npair_at k hp).2 v hv
  exact ⟨hD.typeIs, wpAny_getItem_heap (knd := nestedKind X.prog X.w) (show X.A.in1.units + 8 < cLine by show X.A.units + 1 + 8 < cLine; omega) ⟨nest_is I2 _ _ _ nv rfl, dk⟩ hD hpa ⟨v, H2, I2.tok _, rv, q2⟩⟩
theorem nodup_put {xs : List NKV} {k : NestedKey} {a : Addr} {v : V} (h : (xs.map (·.1)).Nodup) (n : hasN xs k = false) : ((xs ++ [(k, a, v)]).map (·.1)).Nodup := by
  rw [List.map_append]
  refine List.nodup_append.mpr ⟨h, by simp, fun x hx y hy => ?_⟩
  simp only [List.map_cons, List.map_nil, List.mem_singleton] at hy
  subst hy
  intro e
  obtain ⟨z, hz, rfl⟩ := List.mem_map.mp hx
  have := List.any_eq_false.mp n z hz
  simp [e] at this
theorem ps_nput (hu : X.A.units + 64 < cLine) (ho : PE X o td) (hi : PE X i ty) (hv : PE X value tv) (hs : swapsWith value (some (.Subscript o i pos')) pos.line X.env = pure false) :
    PS X (.Assign [.Subscript o i pos'] value pos) (sNPut X.prog X.w td ty tv) := by
  refine ⟨fun pins s σ H D I h => ?_⟩
  refine wpAny_Assign_Subscript (thn (hv.run pins s σ H _ I h) fun r s1 ⟨v, H1, I1, rv, q1⟩ => thn (ho.run pins s1 σ H1 _ I1 q1) fun u s2 ⟨x, H2, I2, rx, q2⟩ => thn (hi.run pins s2 σ H2 _ I2 q2) fun iv s3 ⟨y, H3, I3, ry, k, a, d, xs, ea, ed, hd, nk, nv, dk, hn, hl, q3⟩ => ?_) hs
  subst ea ed
  obtain rfl : u = Value.ref d := rx
  obtain rfl : iv = Value.ref a := ry
  obtain ⟨h1, h2, ws, hp, hD⟩ := dn_of I3 hd nk
  have hnd : (xs.map (·.1)).Nodup := (I3.hok d _ hd).1.2.2.1
  have hk0 : atKey ws k = none := by
    have := (npair_at k hp).1
    rw [hn] at this
    exact Option.not_isSome_iff_eq_none.mp (by rw [this]; decide)
  refine wpAny_setItem_heap (hsz := by rw [← Paired.length hp]; exact h2) (knd := nestedKind X.prog X.w) (show X.A.in1.units + 8 < cLine by show X.A.units + 1 + 8 < cLine; omega) ⟨nest_is I3 _ _ _ nv rfl, dk⟩ hD fun h' dd' hs' => ?_
  rw [storedH_new hk0] at dd'
  obtain ⟨ob, es, ep, b1, b2, b3, b4, _, _⟩ := dd'
  refine ⟨σ, _, I3.write (e := d) (by rw [hd]; trivial) (.inl rfl) (fun b u hb z => (hs'.2 b hb).trans z) ⟨ob, b1⟩ (dn_new ⟨h1, ?_, nodup_put hnd hn, ws ++ [(k, a, r)], npair_snoc hp ⟨rfl, rfl, rv⟩, ob, es, ep, b1, b2, b3, b4⟩), q3⟩
  rw [List.length_append, List.length_singleton]
  exact hl
theorem pe_nnew : PE X (.Dict [] [] pos) (tNNew X.prog X.w) := ⟨fun pins s σ H Q I h =>
  wpAny_Dict_empty ⟨.ref s.heap.objs.size, _, I.laid (a := s.heap.objs.size) (o := DNO X.prog X.w s.heap.objs.size []) (t' := s.toks) (fun _ _ q => Heap.get?_push_of_some _ q) (Nat.le_refl _) (dn_new (dn_empty I.big)), rfl, h _ (I.hok.fresh (Nat.le_refl _))⟩⟩
theorem pe_ndisp (hu : X.A.units + 64 < cLine) (hk : PE X kx tk) (hv : PE X vx tv) : PE X (.Dict [some kx] [vx] pos) (tNDisp X.prog X.w tk tv) := by
  refine ⟨fun pins s σ H Q I h => ?_⟩
  have hn := I.hok.fresh (Nat.le_refl s.heap.objs.size)
  have I1 := I.laid (a := s.heap.objs.size) (o := DNO X.prog X.w s.heap.objs.size []) (h' := s.heap.push { cls := .type "dict", data := .dict #[] }) (t' := s.toks) (fun _ _ q => Heap.get?_push_of_some _ q) (Nat.le_refl _) (dn_new (dn_empty I.big))
  refine wpAny_Dict_any rfl rfl (fun z => nomatch z) (by show 1 ≤ 15; decide) ?_
  refine pairTrees_cons_walk (thn (hk.run pins _ σ _ _ I1 (h _ hn)) fun u s1 ⟨x, H1, J1, rx, q1⟩ => thn (hv.run pins s1 σ H1 _ J1 q1) fun r s2 ⟨v, H2, J2, rv, k, a, ea, hd, nv, dk, q2⟩ => ?_)
  subst ea
  obtain rfl : u = Value.ref a := rx
  refine pairTrees_nil_walk ?_
  have nk : NKeys H2 [] := fun _ h => nomatch h
  obtain ⟨h1, h2, ws, hp, hD⟩ := dn_of J2 hd nk
  cases hp
  show wpAny _ _ (storeAll s.heap.objs.size [(Value.ref a, r)]) _ _ s2
  unfold storeAll
  refine wpAny_storeAllH (knd := nestedKind X.prog X.w) (show X.A.units + 8 < cLine by omega) [(Value.ref a, r)] [(k, a, r)] [] s2 _ ⟨rfl, rfl, ⟨nest_is J2 _ _ _ nv rfl, dk⟩, trivial⟩ hD (by rw [sizeLine_eq]; show 1 ≤ 16777216; decide) fun h' tk dd' hs' => ?_
  obtain ⟨ob, es, ep, b1, b2, b3, b4, _, _⟩ := dd'
  refine ⟨.ref s.heap.objs.size, _, J2.write (e := s.heap.objs.size) (by rw [hd]; trivial) (.inl rfl) (fun b u hb z => (hs'.2 b hb).trans z) ⟨ob, b1⟩ (dn_new ⟨h1, by rw [sizeLine_eq]; show 1 ≤ _; decide, by simp, [(k, a, r)], .cons ⟨rfl, rfl, rv⟩ .nil, ob, es, ep, b1, b2, b3, b4⟩), rfl, q2⟩
end
end Wd
/-! max of a tuple of whole numbers; zip of a list and a tuple. -/
namespace Wd
open PySem PySem.Spec PyProof.Rows L2
section
variable {P : Program} {w : World} {A : Around} {E : Value → Shared → Prop} {s : Shared}
theorem max_tupI {l : Addr} {its : List Value} {ns : List Int} {Q : Value → Shared → Prop} (hh : A.handled = none) (hl : s.heap.IsTuple l its.toArray) (hi : IntsAre its ns) (hne : 0 < ns.length)
    (h : ∀ h' tk M t', (∀ b o, s.heap.get? b = some o → h'.get? b = some o) → M ∈ ns → (∀ a, a ∈ ns → a ≤ M) → Q (.int M t') { s with heap := h', toks := tk }) : wpAny (model P w) A (call (.builtin "max") [.ref l]) Q E s := by
  obtain ⟨xs, e⟩ := hi.allInts.items
  have hn : numsOf (intItems xs).toList = ns := by rw [← e]; exact hi.numsOf
  rw [nums_intItems] at hn
  subst hn
  rw [e] at hl
  have pos : 0 < xs.size := by simpa using hne
  have ll : l < s.heap.objs.size := by obtain ⟨_, q, _⟩ := hl; exact Heap.lt_size q
  refine call_max_walk (wpAny_pyIter_tuple hl ?_)
  refine ⟨_, [_, l], [_], _, _, _, _, rfl, Walks.tuple (A := A.in1) hh _ l (Nat.ne_of_lt ll) (intItems xs), ⟨⟨_, Heap.get?_push_size _ rfl, rfl, rfl⟩, hl.push _⟩, fun c hc => ?_, by simpa [intItems] using pos, CmpOf.ints_gt (numAt xs) (fun _ _ => intItems_at), fun v h' tk hP hk => ?_⟩
  · show c < (s.heap.push _).objs.size
    rw [Heap.size_push]
    simp only [List.mem_cons, List.not_mem_nil, or_false] at hc
    rcases hc with q | q
    · rw [q]; exact Nat.lt_succ_self _
    · rw [q]; exact Nat.lt_succ_of_lt ll
  · have old : ∀ b o, s.heap.get? b = some o → h'.get? b = some o := fun b o q => hk b o (fun hm => by
      rw [List.mem_singleton] at hm
      exact Nat.lt_irrefl _ (hm ▸ Heap.lt_size q)) (Heap.get?_push_of_some _ q)
    have hP' : (intItems xs)[argBest (fun i j => decide (numAt xs i > numAt xs j)) (xs.size - 1)]? = some v := by simpa [intItems] using hP
    obtain ⟨t, rfl⟩ := intItems_at hP'
    obtain ⟨g1, g2⟩ := argBest_gt (numAt xs) (xs.size - 1)
    refine h h' tk _ t old ?_ fun a ha => ?_
    · rw [numAt_eq]; exact PySem.getD_mem (by rw [List.length_map, Array.length_toList]; omega)
    · obtain ⟨j, hj, rfl⟩ := mem_getD ha
      rw [List.length_map, Array.length_toList] at hj
      rw [← numAt_eq]; exact g2 j (by omega)
end
/-- max(t), t a tuple of whole numbers -/
def rMaxT (K : PySem.W.Frag) : List V → Hp → VK → Prop := fun vs H Q => ∃ (a : Addr) (ns : List Int), vs = [V.ref a] ∧ SqT K H a (ns.map V.int) ∧ 0 < ns.length ∧ ∀ m, m ∈ ns → (∀ y, y ∈ ns → y ≤ m) → Q (.int m) H
theorem cr_maxT {X : Cx} (hc : X.calm = true) : CallR X (.builtin "max") (rMaxT X.K) := by
  intro pins s σ H vs us Q I r h
  obtain ⟨a, ns, rfl, hs, hne, q⟩ := h
  obtain ⟨its, rv, hl, _⟩ := I.tuple hs
  rw [Vals.ref1 r]
  exact max_tupI (I.ok.hd hc) hl rv.ints hne fun h' tk m t' hk h1 h2 => ⟨.int _, H, I.kept hk, ⟨_, rfl⟩, q m h1 h2⟩

/-! ### zip(list, tuple) -/
abbrev zm1 (h : Heap) (a : Addr) : Heap := h.push { cls := .type "list_iterator", data := .fields #[.ref a, .int 0 0] }
abbrev zm2 (h : Heap) (a b : Addr) : Heap := (zm1 h a).push { cls := .type "tuple_iterator", data := .fields #[.ref b, .int 0 0] }
abbrev zm3 (h : Heap) (a b : Addr) : Heap := (zm2 h a b).push { cls := .type "tuple", data := .seq #[.ref h.objs.size, .ref (zm1 h a).objs.size] }
abbrev zm4 (h : Heap) (a b : Addr) : Heap := (zm3 h a b).push { cls := .type "tuple", data := .seq #[.none, .none] }
abbrev zm5 (h : Heap) (a b : Addr) : Heap := (zm4 h a b).push { cls := .type "zip", data := .fields #[.none, .bool false, .bool false, .ref (zm2 h a b).objs.size, .ref (zm3 h a b).objs.size] }
theorem zm_new (a b : Addr) (xs ys : Array Value) :
    Meets (Builtin.«zip.__new__» ⟨[.type "zip", .ref a, .ref b], []⟩) (fun _ R s => s.heap.IsList a xs ∧ s.heap.IsTuple b ys ∧ R (.ok (.ret (.ref (zm4 s.heap a b).objs.size))) { s with heap := zm5 s.heap a b }) :=
  .of_wp fun prog w A R s h => by
    obtain ⟨hp, g, d, tk, os⟩ := s
    obtain ⟨q1, q2, h⟩ := h
    have e0 := sub_zip
    have i1 : Heap.IsList (Shared.heap ⟨hp, g, d, tk, os⟩) a xs := q1
    have i2 : Heap.IsTuple (Shared.heap ⟨zm1 hp a, g, d, tk, os⟩) b ys := Heap.IsTuple.push q2 _
    wp_walk using wpAny_pyIter_list i1, wpAny_pyIter_tuple i2
    exact ⟨_, rfl, h⟩
theorem zm_draws {prog : Program} {w : World} {A : Around} (hh : A.handled = none) (it l : Addr) (hne : l ≠ it) (items : Array Value) :
    Draws prog w A it [it, l] items.size (fun i v => items[i]? = some v) (fun i h => h.IsTupleIter it l i ∧ h.IsTuple l items) where
  live := fun _ _ st => by obtain ⟨⟨o, ho, _⟩, _⟩ := st; exact ⟨o, ho⟩
  frame := fun _ _ _ st hk => ⟨st.1.at fun o e => hk it (by simp) o e, st.2.at fun o e => hk l (by simp) o e⟩
  item := fun i s Q E hi st hQ => RZ.nextOf_tuple_item st.1 st.2 (x := items[i]) (by simp [hi]) fun h' q1 q2 => hQ _ h' s.toks (by simp [hi]) ⟨q1, st.2.extBut q2.extBut hne⟩ q2
  done := fun s Q E st hE => RZ.nextOf_tuple_end hh st.1 st.2 (by simp) hE
/-- the list at a and the tuple at b as they stand at each turn, the items in new pairs -/
def ItzM (K : PySem.W.Frag) (a b : Addr) : It :=
  ⟨fun i H => ∃ (xs ys : List V) (x y : V), SqL K H a xs ∧ SqT K H b ys ∧ xs[i]? = some x ∧ ys[i]? = some y,
    fun i H v H' => ∃ T x y, v = .ref T ∧ H T = none ∧ H' = upd H T (.tup [x, y]) ∧ (∀ xs, SqL K H a xs → xs[i]? = some x) ∧ ∀ ys, SqT K H b ys → ys[i]? = some y,
    fun i H => ∃ xs ys : List V, SqL K H a xs ∧ SqT K H b ys ∧ xs.length = ys.length ∧ xs.length = i⟩
/-- where the five cells of the zip lie, apart from what is walked -/
structure ZmSep (z TI TO i1 i2 a b : Addr) : Prop where
  d : ZipApart z TI TO i1 i2 a b
  ab1 : i1 ≠ b
  ab2 : i2 ≠ a
theorem ZmSep.two {z TI TO i1 i2 a b : Addr} (S : ZmSep z TI TO i1 i2 a b) : ZipSep2 z TI TO i1 i2 [i1, a] [i2, b] := by
  have D := S.d
  refine ⟨D.TIz, D.TOz, D.TITO, D.TIi1, by simp, ?_, ?_, D.TIi2, by simp, ?_, ?_, ?_, ?_⟩
  · simp only [List.mem_cons, List.not_mem_nil, or_false, not_or]; exact ⟨D.i1z.symm, D.l1z.symm⟩
  · simp only [List.mem_cons, List.not_mem_nil, or_false, not_or]; exact ⟨D.TOi1, D.l1TO.symm⟩
  · simp only [List.mem_cons, List.not_mem_nil, or_false, not_or]; exact ⟨D.i2z.symm, D.l2z.symm⟩
  · simp only [List.mem_cons, List.not_mem_nil, or_false, not_or]; exact ⟨D.TOi2, D.l2TO.symm⟩
  · simp only [List.mem_cons, List.not_mem_nil, or_false, not_or]; exact ⟨D.i12, S.ab1⟩
  · simp only [List.mem_cons, List.not_mem_nil, or_false, not_or]; exact ⟨D.i12.symm, S.ab2⟩
/-- the zip as it stands ahead of its turn i -/
def ZmAt (z TI TO i1 i2 a b : Addr) (i : Nat) (h : Heap) : Prop := IsZip h z TI TO .none ∧ IsTupOf2 h TI (.ref i1) (.ref i2) ∧ (∃ x y, IsTupOf2 h TO x y) ∧ h.IsListIter i1 a i ∧ h.IsTupleIter i2 b i
theorem five {c z TI TO i1 i2 : Addr} (h : c ∈ [z, TI, TO, i1, i2]) : c = z ∨ c = TI ∨ c = TO ∨ c = i1 ∨ c = i2 := by simpa using h
theorem ZmAt.some {z TI TO i1 i2 a b : Addr} {i : Nat} {h : Heap} (st : ZmAt z TI TO i1 i2 a b i h) {c : Addr} (hc : c ∈ [z, TI, TO, i1, i2]) : ∃ o, h.get? c = some o ∧ ∀ v, o.data ≠ .cell v := by
  obtain ⟨q1, q2, ⟨x, y, q3⟩, ⟨o4, q4, _, d4⟩, ⟨o5, q5, _, d5⟩⟩ := st
  rcases five hc with e | e | e | e | e
  · rw [e]; exact ⟨_, q1, fun v z => nomatch z⟩
  · rw [e]; exact ⟨_, q2, fun v z => nomatch z⟩
  · rw [e]; exact ⟨_, q3, fun v z => nomatch z⟩
  · rw [e]; exact ⟨o4, q4, fun v z => by rw [d4] at z; cases z⟩
  · rw [e]; exact ⟨o5, q5, fun v z => by rw [d5] at z; cases z⟩
theorem turn_zm {P : Program} {w : World} {K : PySem.W.Frag} {elts : List Expr} {kk : Nat} {tpos : Pos} {a b z TI TO i1 i2 : Addr} (S : ZmSep z TI TO i1 i2 a b) :
    Turn P w K (.Tuple elts kk tpos) (ItzM K a b) [z, TI, TO, i1, i2] z (ZmAt z TI TO i1 i2 a b) where
  mem := by simp
  obj := fun i h st c hc => st.some hc
  keep := fun i h h' st k => by
    obtain ⟨q1, q2, ⟨x, y, q3⟩, q4, q5⟩ := st
    exact ⟨k z (by simp) _ q1, k TI (by simp) _ q2, ⟨x, y, k TO (by simp) _ q3⟩, q4.at fun o q => k i1 (by simp) o q, q5.at fun o q => k i2 (by simp) o q⟩
  item := by
    intro X hP hw hK hc i pins s σ H E I hf st hg
    subst hP hw hK
    have allLt : ∀ c ∈ [z, TI, TO, i1, i2], c < s.heap.objs.size := fun c hcm => by
      obtain ⟨o, q, _⟩ := st.some hcm
      exact Heap.lt_size q
    obtain ⟨q1, q2, ⟨x0, y0, q3⟩, q4, q5⟩ := st
    obtain ⟨xs, ys, x, y, lx, ly, hx, hy⟩ := hg
    obtain ⟨its, rv, p1, _⟩ := I.list lx
    obtain ⟨jts, rw', p2, _⟩ := I.tuple ly
    obtain ⟨u1, hu1, ru1⟩ := rv.get hx
    obtain ⟨u2, hu2, ru2⟩ := rw'.get hy
    have hd1 : X.A.in1.handled = none := by simp [I.ok.hd hc]
    have D := S.d
    refine wpAny_pyNext_zipD2_item S.two (Draws.list hd1 i1 a D.l1i1 its.toArray) (zm_draws hd1 i2 b D.l2i2 jts.toArray) q1 q2 q3 ⟨q4, p1.isList⟩ ⟨q5, p2⟩ (by simpa using (List.getElem?_eq_some_iff.mp hu1).1) (by simpa using (List.getElem?_eq_some_iff.mp hu2).1)
      fun v1 v2 h' tk e1 e2 r1 r2 r3 r4 r5 r6 kept => ?_
    obtain rfl : v1 = u1 := by
      have e1' : its[i]? = some v1 := by simpa using e1
      exact Option.some.inj (e1'.symm.trans hu1)
    obtain rfl : v2 = u2 := by
      have e2' : jts[i]? = some v2 := by simpa using e2
      exact Option.some.inj (e2'.symm.trans hu2)
    refine ⟨_, rfl, wpAny_letOwnedTupleGo_zip (s := { s with heap := h', toks := tk }) r1 fun h'' z'' sb => ?_⟩
    have zl := allLt z (by simp)
    have laid : h''.get? s.heap.objs.size = some { cls := .type "tuple", data := .seq #[v1, v2] } := (sb.2 _ (Nat.ne_of_gt zl)).trans r5
    have I1 : Inv X pins σ (upd H s.heap.objs.size (.tup [x, y])) { s with heap := h'', toks := tk } :=
      I.turnedNew (t' := tk) (ch := [z, TI, TO, i1, i2]) (fun c o hb q => (sb.2 c (fun e => hb (by simp [e]))).trans (kept c o (fun e => hb (by simp [e])) (fun e => hb (by simp [e])) (fun e => hb (by simp [e])) (fun e => hb (by simp [e])) q)) hf (Nat.le_refl _)
        ⟨by rw [sizeLine_eq]; show 2 ≤ 16777216; decide, [v1, v2], .cons ru1 (.cons ru2 .nil), ⟨_, laid, rfl, _, rfl⟩⟩
    refine ⟨.ref s.heap.objs.size, _, I1, rfl, ⟨_, x, y, rfl, I.hok.fresh (Nat.le_refl _), rfl, fun l hl => by rw [I.list_inj hl lx]; exact hx, fun l hl => by rw [I.tuple_inj hl ly]; exact hy⟩, ⟨z'', ?_, ⟨v1, v2, ?_⟩, ?_, ?_⟩, fun c hcm => ?_⟩
    · exact (sb.2 _ D.TIz).trans (kept _ _ D.TIz D.TITO D.TIi1 D.TIi2 q2)
    · exact (sb.2 _ D.TOz).trans r2
    · exact r3.1.at fun o q => (sb.2 _ D.i1z).trans q
    · exact r4.1.at fun o q => (sb.2 _ D.i2z).trans q
    · rw [upd_ne (Nat.ne_of_lt (allLt c hcm))]
      exact (hf c hcm).1
  done := by
    intro X hP hw hK hc i pins s σ H E I hf st hg
    subst hP hw hK
    obtain ⟨q1, q2, ⟨x0, y0, q3⟩, q4, q5⟩ := st
    obtain ⟨xs, ys, lx, ly, el, ei⟩ := hg
    obtain ⟨its, rv, p1, _⟩ := I.list lx
    obtain ⟨jts, rw', p2, _⟩ := I.tuple ly
    have l1 := rv.length
    have l2 := rw'.length
    have hd1 : X.A.in1.handled = none := by simp [I.ok.hd hc]
    have D := S.d
    exact wpAny_pyNext_zipD2_end S.two (Draws.list hd1 i1 a D.l1i1 its.toArray) (zm_draws hd1 i2 b D.l2i2 jts.toArray) q1 q2 q3 ⟨q4, p1.isList⟩ ⟨q5, p2⟩ (by simp; omega) (by simp; omega) (.inl (by simp; omega))
      fun h' tk kept => ⟨rfl, I.turnedL (t' := tk) (ch := [z, TI, TO, i1, i2]) (fun c o hb q => kept c o (fun e => hb (by simp [e])) (fun e => hb (by simp [e])) (fun e => hb (by simp [e])) (fun e => hb (by simp [e])) q) hf⟩
  self := fun A i s Q E st h => wpAny_pyIter_zip st.1 h
theorem call_zm {P : Program} {w : World} {A : Around} {E : Value → Shared → Prop} {s : Shared} {a b : Addr} {xs ys : Array Value} {Q : Value → Shared → Prop} (h1 : s.heap.IsList a xs) (h2 : s.heap.IsTuple b ys)
    (h : ∀ h', ZmAt (s.heap.objs.size + 4) (s.heap.objs.size + 2) (s.heap.objs.size + 3) s.heap.objs.size (s.heap.objs.size + 1) a b 0 h' → (∀ c o, s.heap.get? c = some o → h'.get? c = some o) → Q (.ref (s.heap.objs.size + 4)) { s with heap := h' }) :
    wpAny (model P w) A (call (.type "zip") [.ref a, .ref b]) Q E s := by
  refine callType_new F.called_zip (by decide) (F.typeCall_zip_2 _ _) (F.newCall_zip_2 _ _) (fun obj => F.args_object_init_3 obj _ _) F.entry_zip_new (zm_new a b xs ys) ⟨h1, h2, ?_⟩
  have n1 : (zm1 s.heap a).objs.size = s.heap.objs.size + 1 := Heap.size_push ..
  have n2 : (zm2 s.heap a b).objs.size = s.heap.objs.size + 2 := by rw [Heap.size_push, n1]
  have n3 : (zm3 s.heap a b).objs.size = s.heap.objs.size + 3 := by rw [Heap.size_push, n2]
  have n4 : (zm4 s.heap a b).objs.size = s.heap.objs.size + 4 := by rw [Heap.size_push, n3]
  have up1 : ∀ c o, s.heap.get? c = some o → (zm1 s.heap a).get? c = some o := fun c o q => Heap.get?_push_of_some _ q
  have up2 : ∀ c o, (zm1 s.heap a).get? c = some o → (zm2 s.heap a b).get? c = some o := fun c o q => Heap.get?_push_of_some _ q
  have up3 : ∀ c o, (zm2 s.heap a b).get? c = some o → (zm3 s.heap a b).get? c = some o := fun c o q => Heap.get?_push_of_some _ q
  have up4 : ∀ c o, (zm3 s.heap a b).get? c = some o → (zm4 s.heap a b).get? c = some o := fun c o q => Heap.get?_push_of_some _ q
  have up5 : ∀ c o, (zm4 s.heap a b).get? c = some o → (zm5 s.heap a b).get? c = some o := fun c o q => Heap.get?_push_of_some _ q
  have g1 : (zm1 s.heap a).get? s.heap.objs.size = some _ := Heap.get?_push_size _ rfl
  have g2 : (zm2 s.heap a b).get? (zm1 s.heap a).objs.size = some _ := Heap.get?_push_size _ rfl
  have g3 : (zm3 s.heap a b).get? (zm2 s.heap a b).objs.size = some _ := Heap.get?_push_size _ rfl
  have g4 : (zm4 s.heap a b).get? (zm3 s.heap a b).objs.size = some _ := Heap.get?_push_size _ rfl
  have g5 : (zm5 s.heap a b).get? (zm4 s.heap a b).objs.size = some _ := Heap.get?_push_size _ rfl
  rw [n1] at g2 g3
  rw [n2] at g3 g5
  rw [n3] at g4 g5
  rw [n4] at g5
  show _ ∧ _
  rw [n4]
  exact ⟨⟨_, g5, rfl⟩, h _ ⟨g5, up5 _ _ (up4 _ _ g3), ⟨_, _, up5 _ _ g4⟩, ⟨_, up5 _ _ (up4 _ _ (up3 _ _ (up2 _ _ g1))), rfl, rfl⟩, ⟨_, up5 _ _ (up4 _ _ (up3 _ _ g2)), rfl, rfl⟩⟩ fun c o q => up5 _ _ (up4 _ _ (up3 _ _ (up2 _ _ (up1 _ _ q))))⟩
/-- for x, y in zip(xs, t) -/
def iZipM (K : PySem.W.Frag) (ta : TA) : TI := fun σ H R => ta σ H fun vs H1 => ∃ a b xs ys, vs = [.ref a, .ref b] ∧ SqL K H1 a xs ∧ SqT K H1 b ys ∧ R (ItzM K a b) H1
theorem pi_zipM {X : Cx} {e e2 : Expr} {ta : TA} {p pos tpos : Pos} {elts : List Expr} {kk : Nat} (hg : Gl X "zip") (hm : X.mg "zip" = none) (ha : PA X [e, e2] ta)
    (hs : starEach [e, e2] X.env = (false, eval e X.env) :: starEach [e2] X.env := by rfl) (hpl : (backTo pos (starEach [e2] X.env)).any (·.1) = false := by rfl) :
    PI X (.Tuple elts kk tpos) (.Call (.Name "zip" p) [e, e2] [] pos) (iZipM X.K ta) := by
  refine ⟨fun pins s σ H R I h => ?_⟩
  refine Call_ (ld_blt I hg hm PyProof.Rows.boot_zip (PyProof.Rows.callWith_type1 (thn (ha.run pos pins s σ H _ I h) fun us s1 ⟨vs, H1, I1, r1, a, b, xs, ys, ev, lx, ly, q⟩ => ?_) hs hpl))
  subst ev
  obtain ⟨w1, w2, rfl, ra, rb⟩ := vals2 r1
  obtain rfl : w1 = Value.ref a := ra
  obtain rfl : w2 = Value.ref b := rb
  obtain ⟨its, rv, p1, _⟩ := I1.list lx
  obtain ⟨jts, rw', p2, _⟩ := I1.tuple ly
  obtain ⟨o2, ho2, _⟩ := id p2
  have la := p1.lt
  have lb := Heap.lt_size ho2
  refine call_zm p1.isList (show s1.heap.IsTuple b jts.toArray from p2) fun h' at0 kept => wpAny_pyIter_zip at0.1 ?_
  refine ⟨_, [s1.heap.objs.size + 4, s1.heap.objs.size + 2, s1.heap.objs.size + 3, s1.heap.objs.size, s1.heap.objs.size + 1], _, _, H1, rfl, I1.kept (t' := s1.toks) kept, turn_zm ⟨PySem.W.ktu_apart s1.heap.objs.size a b la lb, Nat.ne_of_gt lb, Nat.ne_of_gt (Nat.lt_succ_of_lt la)⟩, at0, fun c hc => ?_, q⟩
  have le : s1.heap.objs.size ≤ c := by
    rcases five hc with e | e | e | e | e
    · rw [e]; exact Nat.le_add_right _ _
    · rw [e]; exact Nat.le_add_right _ _
    · rw [e]; exact Nat.le_add_right _ _
    · rw [e]; exact Nat.le_refl _
    · rw [e]; exact Nat.le_add_right _ _
  exact I1.fpOk le (I1.hok.fresh le)
section
variable {σ : L2.St} {H : Hp} {K : PySem.W.Frag}
theorem g_zipM {ta : TA} {R : It → Hp → Prop} (h : ta σ H fun vs H1 => ∃ a b xs ys, vs = [.ref a, .ref b] ∧ SqL K H1 a xs ∧ SqT K H1 b ys ∧ R (ItzM K a b) H1) : iZipM K ta σ H R := h
theorem w_zipM {a : L2.St → Hp → Prop} {b : VK} {g : TG} {tb : TS} {p r : Addr} {xs ys : List V} (hl : xs.length = ys.length) (Pv : Nat → L2.St → Hp → Prop) (h0 : Pv 0 σ H) (hq : ∀ i σ H, Pv i σ H → SqL K H p xs ∧ SqT K H r ys)
    (hs : ∀ i x y T σ H, xs[i]? = some x → ys[i]? = some y → Pv i σ H → H T = none → g (.ref T) σ (upd H T (.tup [x, y])) fun σ2 H2 => tb ⟨Pv (i + 1), b, a, Pv (i + 1)⟩ σ2 H2) (hd : ∀ σ H, Pv xs.length σ H → a σ H) :
    ∃ a' b' xs ys, [V.ref p, .ref r] = [V.ref a', .ref b'] ∧ SqL K H a' xs ∧ SqT K H b' ys ∧ ForEnd g tb a b σ (ItzM K a' b') H := by
  refine ⟨p, r, xs, ys, rfl, (hq 0 σ H h0).1, (hq 0 σ H h0).2, ?_⟩
  refine ⟨fun i m σ H => m = xs.length - i ∧ i ≤ xs.length ∧ Pv i σ H, ⟨xs.length, by simp, Nat.zero_le _, h0⟩, ?_⟩
  rintro i m σ H ⟨rfl, hi, pv⟩
  obtain ⟨qx, qy⟩ := hq i σ H pv
  by_cases hlt : i < xs.length
  · have hx : xs[i]? = some xs[i] := List.getElem?_eq_getElem hlt
    have hlt2 : i < ys.length := by omega
    have hy : ys[i]? = some ys[i] := List.getElem?_eq_getElem hlt2
    refine .inr ⟨⟨xs, ys, _, _, qx, qy, hx, hy⟩, Pv (i + 1), fun σ' H' p' => ⟨xs.length - (i + 1), by omega, rfl, hlt, p'⟩, fun v H' y => ?_⟩
    obtain ⟨T, x', y', rfl, hT, rfl, f1, f2⟩ := y
    exact hs i x' y' T σ H (f1 xs qx) (f2 ys qy) pv hT
  · have e : i = xs.length := by omega
    subst e
    exact .inl ⟨⟨xs, ys, qx, qy, hl, rfl⟩, hd σ H pv⟩
end
end Wd
/-! The search over the steps of tasks, in plain Lean. -/
namespace Wd
open PySem PySem.Spec PyProof.Rows L2
abbrev Tp := Int × Int
def wbh (t : Tp) (x : Int) : List Int := if x + 1 < t.1 then [x + 1] else if x + 1 = t.2 then [0] else [x + 1, 0]
def stepW (acc : List (List Int)) (t : Tp) (x : Int) : List (List Int) := acc.flatMap fun r => (wbh t x).map fun y => r ++ [y]
def allW : List (List Int) → List (Tp × Int) → List (List Int)
  | acc, [] => acc
  | acc, p :: ps => allW (stepW acc p.1 p.2) ps
theorem allW_snoc : ∀ (acc : List (List Int)) (ps : List (Tp × Int)) (p : Tp × Int), allW acc (ps ++ [p]) = stepW (allW acc ps) p.1 p.2
  | _, [], _ => rfl
  | acc, q :: ps, p => allW_snoc (stepW acc q.1 q.2) ps p
def awb (ts : List Tp) (xs : List Int) : List (List Int) := allW [[]] (ts.zip xs)
def Fol : List Tp → List Int → List Int → Prop
  | [], [], [] => True
  | t :: ts, x :: xs, y :: ys => y ∈ wbh t x ∧ Fol ts xs ys
  | _, _, _ => False
theorem stepW_mem {acc : List (List Int)} {t : Tp} {x : Int} {r : List Int} : r ∈ stepW acc t x ↔ ∃ a ∈ acc, ∃ y ∈ wbh t x, r = a ++ [y] := by
  unfold stepW
  rw [List.mem_flatMap]
  constructor
  · rintro ⟨a, ha, hr⟩
    obtain ⟨y, hy, rfl⟩ := List.mem_map.mp hr
    exact ⟨a, ha, y, hy, rfl⟩
  · rintro ⟨a, ha, y, hy, rfl⟩
    exact ⟨a, ha, List.mem_map.mpr ⟨y, hy, rfl⟩⟩
theorem allW_mem : ∀ (ts : List Tp) (xs : List Int) (acc : List (List Int)) (r : List Int), ts.length = xs.length → (r ∈ allW acc (ts.zip xs) ↔ ∃ a ∈ acc, ∃ ys, Fol ts xs ys ∧ r = a ++ ys)
  | [], [], acc, r, _ => by
    show r ∈ acc ↔ _
    constructor
    · intro h; exact ⟨r, h, [], trivial, (List.append_nil r).symm⟩
    · rintro ⟨a, ha, ys, hf, rfl⟩
      cases ys with
      | nil => rw [List.append_nil]; exact ha
      | cons y ys => exact hf.elim
  | t :: ts, x :: xs, acc, r, hl => by
    show r ∈ allW (stepW acc t x) (ts.zip xs) ↔ _
    rw [allW_mem ts xs _ r (by simpa using hl)]
    constructor
    · rintro ⟨a, ha, ys, hf, rfl⟩
      obtain ⟨a0, ha0, y, hy, rfl⟩ := stepW_mem.mp ha
      exact ⟨a0, ha0, y :: ys, ⟨hy, hf⟩, by rw [List.append_assoc]; rfl⟩
    · rintro ⟨a, ha, ys, hf, rfl⟩
      cases ys with
      | nil => exact hf.elim
      | cons y ys => exact ⟨a ++ [y], stepW_mem.mpr ⟨a, ha, y, hf.1, rfl⟩, ys, hf.2, by rw [List.append_assoc]; rfl⟩
theorem awb_mem {ts : List Tp} {xs r : List Int} (hl : ts.length = xs.length) : r ∈ awb ts xs ↔ Fol ts xs r := by
  unfold awb
  rw [allW_mem ts xs [[]] r hl]
  constructor
  · rintro ⟨a, ha, ys, hf, rfl⟩
    rw [List.mem_singleton] at ha
    subst ha
    exact hf
  · intro h; exact ⟨[], List.mem_singleton.mpr rfl, r, h, rfl⟩
theorem wbh_len (t : Tp) (x : Int) : (wbh t x).length ≤ 2 := by
  unfold wbh
  split
  · exact Nat.le_succ 1
  · split
    · exact Nat.le_succ 1
    · exact Nat.le_refl 2
theorem stepW_len {acc : List (List Int)} {t : Tp} {x : Int} : (stepW acc t x).length ≤ acc.length * 2 := by
  unfold stepW
  induction acc with
  | nil => exact Nat.zero_le _
  | cons a acc ih =>
    rw [List.flatMap_cons, List.length_append, List.length_map, List.length_cons, Nat.succ_mul]
    have := wbh_len t x
    omega
theorem allW_len : ∀ (ps : List (Tp × Int)) (acc : List (List Int)), (allW acc ps).length ≤ acc.length * 2 ^ ps.length
  | [], acc => by show acc.length ≤ acc.length * 1; omega
  | p :: ps, acc => by
    have h1 := allW_len ps (stepW acc p.1 p.2)
    have h2 := stepW_len (acc := acc) (t := p.1) (x := p.2)
    have h3 : (stepW acc p.1 p.2).length * 2 ^ ps.length ≤ acc.length * 2 * 2 ^ ps.length := Nat.mul_le_mul_right _ h2
    have h4 : acc.length * 2 ^ (p :: ps).length = acc.length * 2 * 2 ^ ps.length := by rw [List.length_cons, Nat.pow_succ, Nat.mul_assoc, Nat.mul_comm 2]
    show (allW (stepW acc p.1 p.2) ps).length ≤ _
    omega
def WfT (ts : List Tp) : Prop := ∀ t ∈ ts, 1 ≤ t.1 ∧ t.1 ≤ t.2 ∧ t.2 ≤ 8
def WfW : List Tp → List Int → Prop
  | [], [] => True
  | t :: ts, x :: xs => (0 ≤ x ∧ x < t.2) ∧ WfW ts xs
  | _, _ => False
theorem WfW.len : ∀ {ts : List Tp} {xs : List Int}, WfW ts xs → ts.length = xs.length
  | [], [], _ => rfl
  | _ :: _, _ :: _, h => by rw [List.length_cons, List.length_cons, WfW.len h.2]
theorem fol_wf : ∀ {ts : List Tp} {xs ys : List Int}, WfT ts → WfW ts xs → Fol ts xs ys → WfW ts ys
  | [], [], [], _, _, _ => trivial
  | t :: ts, x :: xs, y :: ys, ht, hw, hf => by
    refine ⟨?_, fol_wf (fun u hu => ht u (List.mem_cons_of_mem _ hu)) hw.2 hf.2⟩
    have h1 := ht t List.mem_cons_self
    have h2 := hw.1
    have h3 := hf.1
    unfold wbh at h3
    split at h3
    · rw [List.mem_singleton] at h3; omega
    · split at h3
      · rw [List.mem_singleton] at h3; omega
      · rw [List.mem_cons, List.mem_singleton] at h3; omega
theorem fol_len : ∀ {ts : List Tp} {xs ys : List Int}, Fol ts xs ys → ys.length = ts.length
  | [], [], [], _ => rfl
  | _ :: _, _ :: _, _ :: _, h => by rw [List.length_cons, List.length_cons, fol_len h.2]
theorem wf_start : ∀ {ts : List Tp}, WfT ts → WfW ts (List.replicate ts.length 0)
  | [], _ => trivial
  | t :: ts, h => ⟨by have := h t List.mem_cons_self; omega, wf_start (ts := ts) fun u hu => h u (List.mem_cons_of_mem _ hu)⟩
def univW : Nat → List (List Int)
  | 0 => [[]]
  | k + 1 => (univW k).flatMap fun r => (List.range 8).map fun y : Nat => (y : Int) :: r
theorem univW_len : ∀ k, (univW k).length = 8 ^ k
  | 0 => rfl
  | k + 1 => by
    show ((univW k).flatMap _).length = _
    rw [Nat.pow_succ, ← univW_len k]
    generalize univW k = l
    induction l with
    | nil => rfl
    | cons r l ih => rw [List.flatMap_cons, List.length_append, List.length_map, List.length_range, ih, List.length_cons]; omega
theorem univW_mem : ∀ {ts : List Tp} {xs : List Int}, WfT ts → WfW ts xs → xs ∈ univW ts.length
  | [], [], _, _ => List.mem_singleton.mpr rfl
  | t :: ts, x :: xs, ht, hw => by
    have h1 := ht t List.mem_cons_self
    have h2 := hw.1
    refine List.mem_flatMap.mpr ⟨xs, univW_mem (fun u hu => ht u (List.mem_cons_of_mem _ hu)) hw.2, List.mem_map.mpr ⟨x.toNat, List.mem_range.mpr (by omega), ?_⟩⟩
    congr 1
    omega
/-! ### steps -/
abbrev Sta := Int × List Int
def univS (k : Nat) : List Sta := (univW k).flatMap fun r => (List.range 25).map fun g : Nat => ((g : Int), r)
theorem univS_len (k : Nat) : (univS k).length = 8 ^ k * 25 := by
  unfold univS
  rw [← univW_len k]
  generalize univW k = l
  induction l with
  | nil => rfl
  | cons r l ih => rw [List.flatMap_cons, List.length_append, List.length_map, List.length_range, ih, List.length_cons]; omega
theorem univS_mem {ts : List Tp} {s : Sta} (ht : WfT ts) (h0 : 0 ≤ s.1) (h1 : s.1 ≤ 24) (hw : WfW ts s.2) : s ∈ univS ts.length :=
  List.mem_flatMap.mpr ⟨s.2, univW_mem ht hw, List.mem_map.mpr ⟨s.1.toNat, List.mem_range.mpr (by omega), by
    have : ((s.1.toNat : Nat) : Int) = s.1 := by omega
    rw [this]⟩⟩
def patd (b gap : Int) (ws : List Int) : Bool := decide (gap % b = 0) && ws.all fun x => decide (x < gap)
def wordB (lo hi b gap : Int) (ws : List Int) : Option Str := if gap > hi then some "late" else if gap < lo ∧ patd b gap ws = true then some "early" else none
def foll (b : Int) (s : Sta) : Sta := if patd b s.1 s.2 = true then (0, s.2) else s
theorem foll_two (b : Int) (s : Sta) : (foll b s).2 = s.2 := by unfold foll; split <;> rfl
theorem foll_one (b : Int) (s : Sta) : (foll b s).1 = 0 ∨ (foll b s).1 = s.1 := by unfold foll; split; exact .inl rfl; exact .inr rfl
def start0 (ts : List Tp) : Sta := (0, List.replicate ts.length 0)
section
variable (lo hi b : Int) (ts : List Tp)
/-- a step that can be at that moment, the watcher unbitten -/
inductive Reach : Nat → Sta → Prop
  | zero : Reach 0 (start0 ts)
  | succ {n : Nat} {s : Sta} {ws : List Int} : Reach n s → Fol ts s.2 ws → wordB lo hi b (s.1 + 1) ws = none → Reach (n + 1) (foll b (s.1 + 1, ws))
/-- the steps to one, from the first on -/
inductive Pth : List Sta → Sta → Prop
  | zero : Pth [start0 ts] (start0 ts)
  | succ {p : List Sta} {s : Sta} {ws : List Int} : Pth p s → Fol ts s.2 ws → wordB lo hi b (s.1 + 1) ws = none → Pth (p ++ [foll b (s.1 + 1, ws)]) (foll b (s.1 + 1, ws))
def Steady : Prop := ∀ n s ws, Reach lo hi b ts n s → Fol ts s.2 ws → wordB lo hi b (s.1 + 1) ws = none
end
section
variable {lo hi b : Int} {ts : List Tp}
theorem reach_wf (h0 : 0 ≤ hi) (ht : WfT ts) {n : Nat} {s : Sta} (h : Reach lo hi b ts n s) : 0 ≤ s.1 ∧ s.1 ≤ hi ∧ WfW ts s.2 := by
  induction h with
  | zero => exact ⟨Int.le_refl 0, h0, wf_start ht⟩
  | @succ n s ws _ hf hw ih =>
    have hg : s.1 + 1 ≤ hi := by
      unfold wordB at hw
      split at hw
      · cases hw
      · omega
    rw [foll_two]
    refine ⟨?_, ?_, fol_wf ht ih.2.2 hf⟩
    · rcases foll_one b (s.1 + 1, ws) with e | e <;> rw [e]
      · exact Int.le_refl 0
      · show 0 ≤ s.1 + 1; omega
    · rcases foll_one b (s.1 + 1, ws) with e | e <;> rw [e]
      · exact h0
      · exact hg
theorem pth_len {p : List Sta} {s : Sta} (h : Pth lo hi b ts p s) : 0 < p.length := by
  cases h with
  | zero => exact Nat.zero_lt_one
  | succ => rw [List.length_append]; exact Nat.lt_add_left _ Nat.zero_lt_one
theorem pth_reach {p : List Sta} {s : Sta} (h : Pth lo hi b ts p s) : Reach lo hi b ts (p.length - 1) s := by
  induction h with
  | zero => exact .zero
  | @succ p s ws hp hf hw ih =>
    have := pth_len hp
    have e : (p ++ [foll b (s.1 + 1, ws)]).length - 1 = (p.length - 1) + 1 := by rw [List.length_append, List.length_singleton]; omega
    rw [e]
    exact .succ ih hf hw
end
/-! ### the search -/
/-- a step that is known: where its key stands, and the one that it was first seen from -/
abbrev AhE := Sta × Addr × Option (Sta × Addr)
inductive Anc (es : List AhE) : Sta → List Sta → Prop
  | root {s : Sta} {a : Addr} : (s, a, none) ∈ es → Anc es s [s]
  | step {s : Sta} {a : Addr} {s' : Sta} {a' : Addr} {p : List Sta} : (s, a, some (s', a')) ∈ es → Anc es s' p → Anc es s (p ++ [s])
theorem Anc.mono {es es' : List AhE} (h : ∀ e ∈ es, e ∈ es') {s : Sta} {p : List Sta} (a : Anc es s p) : Anc es' s p := by
  induction a with
  | root h1 => exact .root (h _ h1)
  | step h1 _ ih => exact .step (h _ h1) ih
section
variable (lo hi b : Int) (ts : List Tp)
def Proc (es : List AhE) (s : Sta) : Prop := ∀ ws, Fol ts s.2 ws → wordB lo hi b (s.1 + 1) ws = none ∧ foll b (s.1 + 1, ws) ∈ es.map (·.1)
structure Bfs (n : Nat) (es : List AhE) (S : List Sta) : Prop where
  nd : (es.map (·.1)).Nodup
  st : start0 ts ∈ es.map (·.1)
  anc : ∀ e ∈ es, ∃ p, Anc es e.1 p ∧ Pth lo hi b ts p e.1
  fr : ∀ s ∈ S, ∃ p, Anc es s p ∧ Pth lo hi b ts p s ∧ p.length = n + 1
  cl : ∀ e ∈ es, e.1 ∈ S ∨ Proc lo hi b ts es e.1
  lt : ∀ m s, m < n → Reach lo hi b ts m s → Proc lo hi b ts es s
  eq : ∀ s, Reach lo hi b ts n s → s ∈ es.map (·.1)
/-- within a turn: i of the steps S are looked at, L are new -/
structure Mid (n : Nat) (es0 es : List AhE) (S : List Sta) (i : Nat) (L : List Sta) : Prop where
  nd : (es.map (·.1)).Nodup
  anc : ∀ e ∈ es, ∃ p, Anc es e.1 p ∧ Pth lo hi b ts p e.1
  old : ∀ e ∈ es0, e ∈ es
  ext : es.map (·.1) = es0.map (·.1) ++ L
  fr : ∀ s ∈ L, ∃ p, Anc es s p ∧ Pth lo hi b ts p s ∧ p.length = n + 2
  done : ∀ k s, k < i → S[k]? = some s → Proc lo hi b ts es s
end
section
variable {lo hi b : Int} {ts : List Tp}
theorem Proc.mono {es es' : List AhE} (h : ∀ e ∈ es, e ∈ es') {s : Sta} (p : Proc lo hi b ts es s) : Proc lo hi b ts es' s := fun ws hf => by
  obtain ⟨h1, h2⟩ := p ws hf
  refine ⟨h1, ?_⟩
  obtain ⟨e, he, q⟩ := List.mem_map.mp h2
  exact List.mem_map.mpr ⟨e, h e he, q⟩
theorem bfs_start {a : Addr} : Bfs lo hi b ts 0 [(start0 ts, a, none)] [start0 ts] where
  nd := by simp
  st := by simp
  anc := fun e he => by
    rw [List.mem_singleton] at he; subst he
    exact ⟨_, .root (List.mem_singleton.mpr rfl), .zero⟩
  fr := fun s hs => by
    rw [List.mem_singleton] at hs; subst hs
    exact ⟨_, .root (List.mem_singleton.mpr rfl), .zero, rfl⟩
  cl := fun e he => by
    rw [List.mem_singleton] at he; subst he
    exact .inl (List.mem_singleton.mpr rfl)
  lt := fun m s h => by omega
  eq := fun s h => by cases h; simp
theorem mid_start {n : Nat} {es : List AhE} {S : List Sta} (B : Bfs lo hi b ts n es S) : Mid lo hi b ts n es es S 0 [] where
  nd := B.nd
  anc := B.anc
  old := fun _ h => h
  ext := (List.append_nil _).symm
  fr := fun _ h => nomatch h
  done := fun k s h => by omega
theorem mid_next {n : Nat} {es0 es : List AhE} {S L : List Sta} {i : Nat} {s : Sta} (M : Mid lo hi b ts n es0 es S i L) (hs : S[i]? = some s) (hp : Proc lo hi b ts es s) : Mid lo hi b ts n es0 es S (i + 1) L where
  nd := M.nd
  anc := M.anc
  old := M.old
  ext := M.ext
  fr := M.fr
  done := fun k s' hk he => by
    by_cases c : k < i
    · exact M.done k s' c he
    · have : k = i := by omega
      subst this
      cases hs.symm.trans he
      exact hp
theorem mid_add {n : Nat} {es0 es : List AhE} {S L : List Sta} {i : Nat} {s : Sta} {a a' : Addr} {ws : List Int} (B : Bfs lo hi b ts n es0 S) (M : Mid lo hi b ts n es0 es S i L) (hs : s ∈ S) (hf : Fol ts s.2 ws) (hw : wordB lo hi b (s.1 + 1) ws = none)
    (hn : foll b (s.1 + 1, ws) ∉ es.map (·.1)) : Mid lo hi b ts n es0 (es ++ [(foll b (s.1 + 1, ws), a', some (s, a))]) S i (L ++ [foll b (s.1 + 1, ws)]) := by
  have sub : ∀ e ∈ es, e ∈ es ++ [(foll b (s.1 + 1, ws), a', some (s, a))] := fun e h => List.mem_append_left _ h
  obtain ⟨p, h1, h2, h3⟩ := B.fr s hs
  have nf : ∃ p, Anc (es ++ [(foll b (s.1 + 1, ws), a', some (s, a))]) (foll b (s.1 + 1, ws)) p ∧ Pth lo hi b ts p (foll b (s.1 + 1, ws)) ∧ p.length = n + 2 :=
    ⟨p ++ [foll b (s.1 + 1, ws)], .step (List.mem_append_right _ (List.mem_singleton.mpr rfl)) ((h1.mono M.old).mono sub), .succ h2 hf hw, by rw [List.length_append, List.length_singleton, h3]⟩
  refine ⟨?_, fun e he => ?_, fun e he => sub e (M.old e he), ?_, fun s' hs' => ?_, fun k s' hk he => (M.done k s' hk he).mono sub⟩
  · rw [List.map_append]
    refine List.nodup_append.mpr ⟨M.nd, by simp, fun x hx y hy => ?_⟩
    simp only [List.map_cons, List.map_nil, List.mem_singleton] at hy
    subst hy
    exact fun e => hn (e ▸ hx)
  · rw [List.mem_append, List.mem_singleton] at he
    rcases he with he | rfl
    · obtain ⟨q, q1, q2⟩ := M.anc e he
      exact ⟨q, q1.mono sub, q2⟩
    · obtain ⟨q, q1, q2, _⟩ := nf
      exact ⟨q, q1, q2⟩
  · rw [List.map_append, M.ext, List.append_assoc]; rfl
  · rw [List.mem_append, List.mem_singleton] at hs'
    rcases hs' with hs' | rfl
    · obtain ⟨q, q1, q2⟩ := M.fr s' hs'
      exact ⟨q, q1.mono sub, q2⟩
    · exact nf
theorem mid_end {n : Nat} {es0 es : List AhE} {S L : List Sta} (B : Bfs lo hi b ts n es0 S) (M : Mid lo hi b ts n es0 es S S.length L) : Bfs lo hi b ts (n + 1) es L := by
  have dn : ∀ s ∈ S, Proc lo hi b ts es s := fun s hs => by
    obtain ⟨k, hk, e⟩ := List.mem_iff_getElem.mp hs
    exact M.done k s hk (by rw [List.getElem?_eq_getElem hk, e])
  have all0 : ∀ e ∈ es0, Proc lo hi b ts es e.1 := fun e he => by
    rcases B.cl e he with h | h
    · exact dn _ h
    · exact h.mono M.old
  have lt1 : ∀ m s, m < n + 1 → Reach lo hi b ts m s → Proc lo hi b ts es s := fun m s hm hr => by
    by_cases c : m < n
    · exact (B.lt m s c hr).mono M.old
    · have : m = n := by omega
      subst this
      obtain ⟨e, he, rfl⟩ := List.mem_map.mp (B.eq s hr)
      exact all0 e he
  refine ⟨M.nd, ?_, M.anc, M.fr, fun e he => ?_, lt1, fun s hr => ?_⟩
  · obtain ⟨e, he, q⟩ := List.mem_map.mp B.st
    exact List.mem_map.mpr ⟨e, M.old e he, q⟩
  · have hm : e.1 ∈ es.map (·.1) := List.mem_map.mpr ⟨e, he, rfl⟩
    rw [M.ext, List.mem_append] at hm
    rcases hm with hm | hm
    · obtain ⟨e0, he0, q⟩ := List.mem_map.mp hm
      rw [← q]
      exact .inr (all0 e0 he0)
    · exact .inl hm
  · cases hr with
    | @succ _ s0 ws h1 h2 h3 => exact (lt1 n s0 (Nat.lt_succ_self n) h1 ws h2).2
theorem bfs_steady {n : Nat} {es : List AhE} (B : Bfs lo hi b ts n es []) : Steady lo hi b ts := by
  have all : ∀ m s, Reach lo hi b ts m s → Proc lo hi b ts es s := fun m s hr => by
    have : s ∈ es.map (·.1) := by
      induction hr with
      | zero => exact B.st
      | @succ m s ws h1 h2 h3 ih =>
        obtain ⟨e, he, q⟩ := List.mem_map.mp ih
        rcases B.cl e he with z | z
        · cases z
        · rw [q] at z; exact (z ws h2).2
    obtain ⟨e, he, q⟩ := List.mem_map.mp this
    rcases B.cl e he with z | z
    · cases z
    · rw [← q]; exact z
  exact fun n s ws hr hf => (all n s hr ws hf).1
theorem known_len (h0 : 0 ≤ hi) (h24 : hi ≤ 24) (ht : WfT ts) (hk : ts.length ≤ 2) {es : List AhE} (nd : (es.map (·.1)).Nodup) (anc : ∀ e ∈ es, ∃ p, Anc es e.1 p ∧ Pth lo hi b ts p e.1) : es.length ≤ 1600 := by
  have := List.Nodup.length_le_of_subset (l₂ := univS ts.length) nd fun s hs => by
    obtain ⟨e, he, rfl⟩ := List.mem_map.mp hs
    obtain ⟨p, _, hp⟩ := anc e he
    obtain ⟨q1, q2, q3⟩ := reach_wf h0 ht (pth_reach hp)
    exact univS_mem ht q1 (by omega) q3
  rw [univS_len, List.length_map] at this
  have h8 : 8 ^ ts.length ≤ 8 ^ 2 := Nat.pow_le_pow_right (by decide) hk
  have : 8 ^ ts.length * 25 ≤ 64 * 25 := Nat.mul_le_mul_right _ h8
  omega
end
/-! ### the reports along steps -/
def staAt (path : List Sta) (i : Nat) : Sta := (path[i]?).getD (0, [])
def repAt (path : List Sta) (k n : Nat) : List Int := ((List.range n).filter fun i => decide ((staAt path (i + 1)).2[k]? = some 0)).map fun i => ((i + 1 : Nat) : Int)
def repsOf (path : List Sta) (k : Nat) : List (List Int) := (List.range k).map fun j => repAt path j (path.length - 1)
/-! ### in the heap -/
def StV (H : Hp) (s : Sta) (a : Addr) : Prop := ∃ c, H a = some (.tup [.int s.1, .ref c]) ∧ H c = some (.tup (s.2.map V.int))
theorem StV.keep {H H' : Hp} (e : KeepT H H') {s : Sta} {a : Addr} (h : StV H s a) : StV H' s a := by
  obtain ⟨c, h1, h2⟩ := h
  exact ⟨c, e _ _ h1, e _ _ h2⟩
def stKey (s : Sta) : NestedKey := .tup [.num s.1, .tup (s.2.map .num)]
theorem nums_v {H : Hp} : ∀ ws : List Int, NestVs H (ws.map .num) (ws.map V.int)
  | [] => .nil
  | x :: ws => .cons (.int x) (nums_v ws)
theorem StV.nest {H : Hp} {s : Sta} {a : Addr} (h : StV H s a) : NestV H (stKey s) (.ref a) := by
  obtain ⟨c, h1, h2⟩ := h
  exact .tup h1 (.cons (.int _) (.cons (.tup h2 (nums_v _)) .nil))
theorem nums_depth : ∀ ws : List Int, NestedKey.depthAll (ws.map .num) = 0
  | [] => rfl
  | x :: ws => by simp [NestedKey.depthAll, NestedKey.depth, nums_depth ws]
theorem stKey_depth (s : Sta) : (stKey s).depth ≤ 8 := by
  have := nums_depth s.2
  unfold stKey
  simp only [NestedKey.depth, NestedKey.depthAll, this]
  decide
theorem nums_inj : ∀ {a c : List Int}, a.map NestedKey.num = c.map NestedKey.num → a = c
  | [], [], _ => rfl
  | [], _ :: _, h => nomatch h
  | _ :: _, [], h => nomatch h
  | x :: a, y :: c, h => by
    rw [List.map_cons, List.map_cons] at h
    obtain ⟨h1, h2⟩ := List.cons.inj h
    rw [NestedKey.num.inj h1, nums_inj h2]
theorem stKey_inj {s t : Sta} (h : stKey s = stKey t) : s = t := by
  unfold stKey at h
  have h1 := NestedKey.tup.inj h
  obtain ⟨e1, h2⟩ := List.cons.inj h1
  obtain ⟨e2, _⟩ := List.cons.inj h2
  exact Prod.ext (NestedKey.num.inj e1) (nums_inj (NestedKey.tup.inj e2))
def ahV (o : Option (Sta × Addr)) : V := match o with
  | none => .non
  | some p => .ref p.2
def toN (es : List AhE) : List NKV := es.map fun e => (stKey e.1, e.2.1, ahV e.2.2)
def AhOk (H : Hp) (es : List AhE) : Prop := ∀ e ∈ es, StV H e.1 e.2.1 ∧ ∀ p, e.2.2 = some p → StV H p.1 p.2
theorem AhOk.keep {H H' : Hp} {es : List AhE} (h : AhOk H es) (e : KeepT H H') : AhOk H' es := fun x hx => ⟨(h x hx).1.keep e, fun p q => ((h x hx).2 p q).keep e⟩
theorem AhOk.keys {H : Hp} {es : List AhE} (h : AhOk H es) : NKeys H (toN es) := fun x hx => by
  obtain ⟨e, he, rfl⟩ := List.mem_map.mp hx
  exact ⟨(h e he).1.nest, stKey_depth _⟩
theorem toN_has (es : List AhE) (s : Sta) : hasN (toN es) (stKey s) = decide (s ∈ es.map (·.1)) := by
  unfold hasN toN
  rw [List.any_map]
  induction es with
  | nil => rfl
  | cons e es ih =>
    rw [List.any_cons, ih, List.map_cons]
    by_cases c : e.1 = s
    · simp [c]
    · have : ¬ stKey e.1 = stKey s := fun z => c (stKey_inj z)
      have c2 : ¬ s = e.1 := fun z => c z.symm
      simp [this, c2]
theorem toN_val : ∀ {es : List AhE} {s : Sta} {a : Addr} {o : Option (Sta × Addr)}, (es.map (·.1)).Nodup → (s, a, o) ∈ es → valN (toN es) (stKey s) = some (ahV o)
  | [], _, _, _, _, h => nomatch h
  | e :: es, s, a, o, nd, h => by
    rw [List.map_cons, List.nodup_cons] at nd
    unfold valN toN
    rw [List.map_cons, List.find?_cons]
    rcases List.mem_cons.mp h with rfl | h
    · simp
    · have c : ¬ stKey e.1 = stKey s := fun z => nd.1 (by rw [stKey_inj z]; exact List.mem_map.mpr ⟨_, h, rfl⟩)
      have := toN_val nd.2 h
      unfold valN toN at this
      simp only [c, decide_false]
      exact this
end Wd
/-! list(d) of a dict with nested keys. -/
namespace Wd
open PySem PySem.Spec PyProof.Rows L2
theorem npair_get : ∀ {xs : List NKV} {ws : List (NestedKey × Addr × Value)} {j : Nat} {y : NestedKey × Addr × Value}, NPair xs ws → ws[j]? = some y → ∃ x, xs[j]? = some x ∧ x.2.1 = y.2.1
  | [], _, _, _, .nil, h => nomatch h
  | x :: xs, z :: ws, 0, y, .cons h t, e => by cases e; exact ⟨x, rfl, h.2.1⟩
  | x :: xs, z :: ws, j + 1, y, .cons h t, e => npair_get (xs := xs) (ws := ws) (j := j) t e
theorem npair_len : ∀ {xs : List NKV} {ws : List (NestedKey × Addr × Value)}, NPair xs ws → xs.length = ws.length
  | [], _, .nil => rfl
  | x :: xs, z :: ws, .cons h t => by rw [List.length_cons, List.length_cons, npair_len t]
def rListN (P : Program) (w : World) : List V → Hp → VK → Prop := fun xs H Q => ∃ d ns, xs = [.ref d] ∧ H d = some (DNO P w d ns) ∧ ∀ q, H q = none → Q (.ref q) (upd H q (.lst (ns.map fun x => V.ref x.2.1)))
theorem call_listN {X : Cx} (hc : X.calm = true) : CallR X (.type "list") (rListN X.prog X.w) := by
  intro pins s σ H xs us Q I r h
  obtain ⟨d, ns, e, hd, q⟩ := h
  subst e
  obtain ⟨u, eu, rx⟩ := vals1 r
  subst eu
  obtain rfl : u = Value.ref d := rx
  obtain ⟨⟨lo, hz, _, ws, hp, o, es, ep, ho, hx, hda, he⟩, _⟩ := I.hok d _ hd
  have lw := npair_len hp
  have le : es.size = ns.length := by rw [lw, ← Array.length_toList, he, List.length_map]
  refine PySem.W.kdl_call (PySem.KdlSrc.rawDict (es := es) (ep := ep) lo) (I.ok.hd hc) ⟨o, ho, hx, hda⟩ (by rw [le]; exact hz) fun h' tk acc' c' hkeep hS hacc => ?_
  refine ⟨.ref s.heap.objs.size, upd H s.heap.objs.size (.lst (ns.map fun x => V.ref x.2.1)), I.laid hkeep (Nat.le_refl _) (show ObjOk X.prog X.w _ _ _ (.lst (ns.map fun x => V.ref x.2.1)) from ⟨?_, acc'.toList, c', ?_, ?_⟩), rfl, q _ (I.hok.fresh (Nat.le_refl _))⟩
  · rw [List.length_map]; exact hz
  · have el : acc'.toList.length = acc'.size := by simp
    refine vals_of_at (by rw [List.length_map, el, hacc.1, le]) fun j x w h1 h2 => ?_
    obtain ⟨hi, e⟩ := hacc.2 j w (by rw [← Array.getElem?_toList]; exact h2)
    have h3 : es.toList[j]? = some es[j] := by rw [Array.getElem?_toList]; exact Array.getElem?_eq_getElem hi
    rw [he, List.getElem?_map] at h3
    cases hy : ws[j]? with
    | none => rw [hy] at h3; cases h3
    | some y =>
      rw [hy] at h3
      have h4 := Option.some.inj h3
      obtain ⟨x', hx', e2⟩ := npair_get hp hy
      rw [List.getElem?_map, hx'] at h1
      cases h1
      rw [e, ← h4]
      show L2.RelV (V.ref x'.2.1) (Value.ref y.2.1)
      rw [e2]
      exact rfl
  · rw [Array.toArray_toList]; exact hS
theorem g_listN {P : Program} {w : World} {d : Addr} {ns : List NKV} {H : Hp} {Q : VK} (h : H d = some (DNO P w d ns)) (q : ∀ p, H p = none → Q (.ref p) (upd H p (.lst (ns.map fun x => V.ref x.2.1)))) : rListN P w [.ref d] H Q := ⟨d, ns, rfl, h, q⟩
theorem g_zipA {K : PySem.W.Frag} {ta : TA} {σ : L2.St} {H : Hp} {R : It → Hp → Prop} (h : ta σ H fun vs H1 => ∃ a b xs ys, vs = [V.ref a, .ref b] ∧ ((SqL K H1 a xs ∧ SqL K H1 b ys ∧ R (Itz K a b) H1) ∨ (SqT K H1 a xs ∧ SqT K H1 b ys ∧ R (RZ.ItzT K a b) H1))) : RZ.iZipA K ta σ H R := h
theorem w_lcZipT {σ : L2.St} {H : Hp} {Q : VK} {K : PySem.W.Frag} {g : TG} {tt : TT} {te : TE} {vs : List Nat} {p r : Addr} {xs ys : List V} (hl : xs.length = ys.length) (hp : SqT K H p xs) (hr : SqT K H r ys) (Pv : Addr → Nat → Hp → Prop) (h0 : ∀ D, H D = none → Pv D 0 (upd H D (.lst [])))
    (hq : ∀ D i H', H D = none → Pv D i H' → SqT K H' p xs ∧ SqT K H' r ys)
    (hs : ∀ D i x y T H', H D = none → xs[i]? = some x → ys[i]? = some y → Pv D i H' → H' T = none → g (.ref T) (wipe σ vs) (upd H' T (.tup [x, y])) fun σ2 H2 => wipe σ2 vs = wipe σ vs ∧ tt σ2 H2 fun b H3 =>
      if b = true then te σ2 H3 fun y H4 => ∃ acc, H4 D = some (.lst acc) ∧ acc.length < sizeLine ∧ Pv D (i + 1) (upd H4 D (.lst (acc ++ [y]))) else Pv D (i + 1) H3) (hd : ∀ D H', H D = none → Pv D xs.length H' → Q (.ref D) H') :
    ∃ a b xs ys, [V.ref p, .ref r] = [V.ref a, .ref b] ∧ ((SqL K H a xs ∧ SqL K H b ys ∧ LcEnd g tt te vs σ Q (Itz K a b) H) ∨ (SqT K H a xs ∧ SqT K H b ys ∧ LcEnd g tt te vs σ Q (RZ.ItzT K a b) H)) := by
  refine ⟨p, r, xs, ys, rfl, .inr ⟨hp, hr, fun D hD => ?_⟩⟩
  refine ⟨fun i m H' => m = xs.length - i ∧ i ≤ xs.length ∧ Pv D i H', ⟨xs.length, by simp, Nat.zero_le _, h0 D hD⟩, ?_⟩
  rintro i m H' ⟨rfl, hi, pv⟩
  obtain ⟨qx, qy⟩ := hq D i H' hD pv
  by_cases hlt : i < xs.length
  · have hx : xs[i]? = some xs[i] := List.getElem?_eq_getElem hlt
    have hlt2 : i < ys.length := by omega
    have hy : ys[i]? = some ys[i] := List.getElem?_eq_getElem hlt2
    refine .inr ⟨⟨xs, ys, _, _, qx, qy, hx, hy⟩, Pv D (i + 1), fun H' p' => ⟨xs.length - (i + 1), by omega, rfl, hlt, p'⟩, fun v H'' y => ?_⟩
    obtain ⟨T, x', y', rfl, hT, rfl, f1, f2⟩ := y
    exact hs D i x' y' T H' hD (f1 xs qx) (f2 ys qy) pv hT
  · have e : i = xs.length := by omega
    subst e
    exact .inl ⟨⟨xs, ys, qx, qy, Or.inl (Nat.le_refl _)⟩, hd D H' hD pv⟩
end Wd
namespace K13
open PySem PySem.Spec PyProof.Rows L2 Wd
def top (i : Nat) : Stmt := PySem.Challenge.pw_windowdog_k13_whole_tasks_never_bitten.main.body.getD i (.Pass ⟨0, 0, 0, 0⟩)
/-- the built-in names that the text calls, its constants and its refusals -/
structure Txt (K : PySem.W.Frag) (mg : Str → Option Value) (CW CT CB CM : Addr) : Prop where
  n_isinstance : mg "isinstance" = none
  n_len : mg "len" = none
  n_int : mg "int" = none
  n_bool : mg "bool" = none
  n_range : mg "range" = none
  n_list : mg "list" = none
  n_tuple : mg "tuple" = none
  n_str : mg "str" = none
  n_max : mg "max" = none
  n_min : mg "min" = none
  n_zip : mg "zip" = none
  c_GREATEST_HIGH : ∃ t, mg "GREATEST_HIGH" = some (.int 1000 t)
  c_GREATEST_BEAT : ∃ t, mg "GREATEST_BEAT" = some (.int 60 t)
  c_MOST_TASKS : ∃ t, mg "MOST_TASKS" = some (.int 4 t)
  c_LONGEST_TASK : ∃ t, mg "LONGEST_TASK" = some (.int 60 t)
  c_MOST_SEARCHED_TASKS : ∃ t, mg "MOST_SEARCHED_TASKS" = some (.int 2 t)
  c_LONGEST_SEARCHED_TASK : ∃ t, mg "LONGEST_SEARCHED_TASK" = some (.int 8 t)
  c_GREATEST_SEARCHED_BEAT : ∃ t, mg "GREATEST_SEARCHED_BEAT" = some (.int 6 t)
  c_GREATEST_SEARCHED_HIGH : ∃ t, mg "GREATEST_SEARCHED_HIGH" = some (.int 24 t)
  g_BadWindow : mg "BadWindow" = some (.ref CW)
  x_BadWindow : PySem.W.excIn K CW [.type "ValueError", .type "Exception", .type "BaseException", .type "object"] "ValueError.__new__" = true
  k_BadWindow : PySem.W.keepIn K (.ref CW) = true
  b_BadWindow : PySem.W.subIn K (.ref CW) (.type "BaseException") = some true
  t_BadWindow : PySem.W.typeIn K (.ref CW) = some (.type "type")
  g_BadBeat : mg "BadBeat" = some (.ref CT)
  x_BadBeat : PySem.W.excIn K CT [.type "ValueError", .type "Exception", .type "BaseException", .type "object"] "ValueError.__new__" = true
  k_BadBeat : PySem.W.keepIn K (.ref CT) = true
  b_BadBeat : PySem.W.subIn K (.ref CT) (.type "BaseException") = some true
  t_BadBeat : PySem.W.typeIn K (.ref CT) = some (.type "type")
  g_BadTasks : mg "BadTasks" = some (.ref CB)
  x_BadTasks : PySem.W.excIn K CB [.type "ValueError", .type "Exception", .type "BaseException", .type "object"] "ValueError.__new__" = true
  k_BadTasks : PySem.W.keepIn K (.ref CB) = true
  b_BadTasks : PySem.W.subIn K (.ref CB) (.type "BaseException") = some true
  t_BadTasks : PySem.W.typeIn K (.ref CB) = some (.type "type")
  g_TooMuch : mg "TooMuch" = some (.ref CM)
  x_TooMuch : PySem.W.excIn K CM [.type "ValueError", .type "Exception", .type "BaseException", .type "object"] "ValueError.__new__" = true
  k_TooMuch : PySem.W.keepIn K (.ref CM) = true
  b_TooMuch : PySem.W.subIn K (.ref CM) (.type "BaseException") = some true
  t_TooMuch : PySem.W.typeIn K (.ref CM) = some (.type "type")
section
variable {P : Program} {w : World} {K : PySem.W.Frag} {mg : Str → Option Value} {base : Heap} {CW CT CB CM : Addr}
abbrev s_is_number : Stmt := top 7
theorem sc_is_number : FnScope ["value"] ["value"] (C8.fnScope s_is_number) := C8.fnScope_by (by decide +kernel)
def sp_is_number : Sp := fun vs H Q _ => ∃ i : Int, vs = [.int i] ∧ Q (.bl true) H
theorem ok_is_number (T : Txt K mg CW CT CB CM) {f : Addr} {fd : FuncData} (D : C8.Def K mg "is_number" s_is_number f fd) (b : Binds K fd ["value"] []) : C8.Cal P w K mg base 1 "is_number" sp_is_number [] := by
  refine C8.cal0 D b .nil sc_is_number (fun vs H Q E h => ?_) fun cdv A outer s H vs Q E hr h => ?_
  · obtain ⟨i, rfl, _⟩ := h; rfl
  · obtain ⟨i, rfl, q⟩ := h
    have nd := sc_is_number.nd
    refine ⟨_, (pss_one (ps_ret (pe_and (pe_callB (r := rIsi K) call_isi (by rfl) T.n_isinstance (by decide +kernel) (pa_cons (pv 0) (pa_cons (pe_bltn (v := .ty "int") (by rfl) T.n_int (by decide +kernel) rfl) pa_nil))) (pe_one (pe_not (pe_callB (r := rIsi K) call_isi (by rfl) T.n_isinstance (by decide +kernel) (pa_cons (pv 0) (pa_cons (pe_bltn (v := .ty "bool") (by rfl) T.n_bool (by decide +kernel) rfl) pa_nil)))))))), ?_⟩
    walk_at "go"
    refine g_isi (.ty "int") (.base (.int i)) (kit_ty (r := true) (by decide +kernel)) ?_
    walk_at "go"
    refine g_isi (.ty "bool") (.base (.int i)) (kit_ty (r := false) (by decide +kernel)) ?_
    walk_at "go"
    exact q

abbrev s_is_range : Stmt := top 8
theorem sc_is_range : FnScope ["least", "most", "limit"] ["least", "most", "limit"] (C8.fnScope s_is_range) := C8.fnScope_by (by decide +kernel)
def sp_is_range : Sp := fun vs H Q _ => ∃ i j k : Int, vs = [.int i, .int j, .int k] ∧ Q (.bl (decide (0 ≤ i ∧ i ≤ j ∧ j ≤ k))) H
theorem ok_is_range (T : Txt K mg CW CT CB CM) {f : Addr} {fd : FuncData} (D : C8.Def K mg "is_range" s_is_range f fd) (b : Binds K fd ["least", "most", "limit"] []) (g_is_number : C8.Cal P w K mg base 1 "is_number" sp_is_number []) : C8.Cal P w K mg base 2 "is_range" sp_is_range [] := by
  refine C8.cal0 D b .nil sc_is_range (fun vs H Q E h => ?_) fun cdv A outer s H vs Q E hr h => ?_
  · obtain ⟨i, j, k, rfl, _⟩ := h; rfl
  · obtain ⟨i, j, k, rfl, q⟩ := h
    have nd := sc_is_range.nd
    refine ⟨_, (pss_one (ps_ret (pe_and (C8.pe_c g_is_number hr (by first | decide | exact Nat.le_refl _ | omega) (by rfl) (pa_cons (pv 0) pa_nil)) (pe_and (C8.pe_c g_is_number hr (by first | decide | exact Nat.le_refl _ | omega) (by rfl) (pa_cons (pv 1) pa_nil)) (pe_one (pe_chain3 op_le op_le op_le pe_int (pv 0) (pv 1) (pv 2))))))), ?_⟩
    walk_at "go"
    refine ⟨i, rfl, ?_⟩
    walk_at "go"
    refine ⟨j, rfl, ?_⟩
    walk_at "go"
    refine g_ite (fun h1 => ?_) (fun h1 => ?_)
    · walk_at "go"
      refine g_ite (fun h2 => ?_) (fun h2 => ?_)
      · walk_at "go"
        have e : decide (0 ≤ i ∧ i ≤ j ∧ j ≤ k) = decide (j ≤ k) := by simp [h1, h2]
        rw [e] at q; exact q
      · walk_at "go"
        have e : decide (0 ≤ i ∧ i ≤ j ∧ j ≤ k) = false := decide_eq_false (by omega)
        rw [e] at q; exact q
    · walk_at "go"
      have e : decide (0 ≤ i ∧ i ≤ j ∧ j ≤ k) = false := decide_eq_false (by omega)
      rw [e] at q; exact q

def okW (lo hi : Int) : Prop := 0 ≤ lo ∧ lo ≤ hi ∧ hi ≤ 1000
abbrev s_check_window : Stmt := top 11
theorem sc_check_window : FnScope ["window", "low", "high"] ["window"] (C8.fnScope s_check_window) := C8.fnScope_by (by decide +kernel)
def sp_check_window (K : PySem.W.Frag) (CW : Addr) : Sp := fun vs H Q E => ∃ (W : Addr) (lo hi : Int), vs = [.ref W] ∧ SqT K H W [.int lo, .int hi] ∧ (okW lo hi → Q .non H) ∧ (¬ okW lo hi → E (.ref CW) none H)
theorem ok_check_window (T : Txt K mg CW CT CB CM) {f : Addr} {fd : FuncData} (D : C8.Def K mg "check_window" s_check_window f fd) (b : Binds K fd ["window"] []) (g_is_range : C8.Cal P w K mg base 2 "is_range" sp_is_range []) : CalX P w K mg base 3 "check_window" (sp_check_window K CW) := by
  refine calX D b sc_check_window (fun vs H Q E h => ?_) fun cdv A outer s H vs Q E hr h => ?_
  · obtain ⟨W, lo, hi, rfl, _⟩ := h; rfl
  · obtain ⟨W, lo, hi, rfl, hW, q1, q2⟩ := h
    have nd := sc_check_window.nd
    obtain ⟨tg, c_GREATEST_HIGH⟩ := T.c_GREATEST_HIGH
    refine ⟨_, (pss_cons (ps_asg (pv 0) (pg_tup rfl (pgs_cons (pg_name (i := 1) nd rfl (Or.inl rfl)) (pgs_cons (pg_name (i := 2) nd rfl (Or.inl rfl)) pgs_nil))))
      (pss_one (ps_if (pt_not (pt_val (C8.pe_c g_is_range hr (by first | decide | exact Nat.le_refl _ | omega) (by rfl) (pa_cons (pv 1) (pa_cons (pv 2) (pa_cons (pe_glob (v := .int 1000) rfl c_GREATEST_HIGH ⟨_, rfl⟩) pa_nil)))))) (pss_one (ps_raise rfl (takes_of rfl rfl rfl rfl) (pmk_own PySem.F.excBase_ValueError T.x_BadWindow T.g_BadWindow T.k_BadWindow (raises_own T.b_BadWindow T.t_BadWindow) (by rfl)))) pss_nil))), ?_⟩
    walk_at "go"
    refine g_gtup hW rfl ?_
    walk_at "go"
    refine ⟨lo, hi, 1000, rfl, ?_⟩
    walk_at "go"
    refine g_iteN (fun hn => ?_) (fun hy => ?_)
    · exact q2 hn
    · walk_at "go"
      exact q1 hy

abbrev s_law_start : Stmt := top 31
theorem sc_law_start : FnScope ["_law_script", "_law_mixed", "_law_cell"] ["_law_script"] (C8.fnScope s_law_start) := C8.fnScope_by (by decide +kernel)
def sp_start (K : PySem.W.Frag) : Sp := fun vs H Q _ => ∃ (B : Hp) (sc : Addr) (ns : List Int), vs = [.ref sc] ∧ SqL K B sc (ns.map V.int) ∧ Same B H ∧ ns.length ≤ 63 ∧ ∀ H' S, H S = none → Same H H' → Dst K B H' S → Q (.ref S) H'
theorem ok_start (T : Txt K mg CW CT CB CM) {f : Addr} {fd : FuncData} (D : C8.Def K mg "_law_start" s_law_start f fd) (b : Binds K fd ["_law_script"] []) : C8.Cal P w K mg base 1 "_law_start" (sp_start K) [] := by
  refine C8.cal0 D b .nil sc_law_start (fun vs H Q E h => ?_) fun cdv A outer s H vs Q E hr h => ?_
  · obtain ⟨B, sc, ns, rfl, _⟩ := h; rfl
  · obtain ⟨B, sc, ns, rfl, hB, sB, hl, q⟩ := h
    have hS := list_same sB hB
    have nd := sc_law_start.nd
    refine ⟨_, (pss_cons (ps_set (i := 1) nd rfl (Or.inl rfl) pe_int)
      (pss_cons (ps_for PassesOwn.never rfl (pi_list (pv 0)) (pg_name (i := 2) nd rfl (Or.inl rfl)) (pss_one (ps_set (i := 1) nd rfl (Or.inl rfl) (pe_op op_mod (pe_op op_add (pe_op op_add (pe_op op_mulW (pv 1) pe_int) (pv 2)) pe_int) pe_int))))
      (pss_one (ps_ret (pe_lst (pa_cons (pv 0) (pa_cons pe_int (pa_cons (pv 1) (pa_cons pe_int pa_nil))))))))), ?_⟩
    walk_at "go"
    refine w_list (xs := ns.map V.int) (fun i σ H' => H' = H ∧ ∃ (m : Int) (v : Option V), σ = [some (.ref sc), some (.int m), v] ∧ 0 ≤ m ∧ m < 2147483647) ?_ ?_ ?_ ?_
    · exact ⟨rfl, 1, none, rfl, by decide, by decide⟩
    · rintro i σ H' _ ⟨rfl, _⟩; exact hS
    · rintro i x σ H' hx ⟨rfl, m, v, rfl, h1, h2⟩
      obtain ⟨c, hc, rfl⟩ := map_at hx
      walk_at "go"
      refine g_I (mulW_small h1 (by omega) (by decide) (by decide)) ?_
      walk_at "go"
      refine g_I (show (0 : Int) < 2147483647 by decide) ?_
      walk_at "go"
      exact ⟨rfl, _, _, rfl, by omega, by omega⟩
    · rintro σ H' ⟨rfl, m, v, rfl, h1, h2⟩
      walk_at "go"
      intro S hn
      exact q _ S hn (same_new hn) ⟨sc, ns, 0, m, 0, upd_same, .of hB (fun _ _ h => h) (Same.back sB hn), .of (sB.trans (same_new hn)), hl, by decide, h1, h2⟩

abbrev s_law_drawn : Stmt := top 32
theorem sc_law_drawn : FnScope ["_law_state", "_law_many", "_law_found", "_law_cell"] ["_law_state", "_law_many"] (C8.fnScope s_law_drawn) := C8.fnScope_by (by decide +kernel)
def sp_drawn (K : PySem.W.Frag) : Sp := fun vs H Q _ => ∃ (B : Hp) (S : Addr) (n : Int), vs = [.ref S, .int n] ∧ Dst K B H S ∧ 0 < n ∧ n < 10 ^ 38 ∧ ∀ H' v, Frm S H H' → Dst K B H' S → 0 ≤ v → v < n → Q (.int v) H'
theorem ok_drawn (T : Txt K mg CW CT CB CM) {f : Addr} {fd : FuncData} (D : C8.Def K mg "_law_drawn" s_law_drawn f fd) (b : Binds K fd ["_law_state", "_law_many"] []) : C8.Cal P w K mg base 1 "_law_drawn" (sp_drawn K) [] := by
  refine C8.cal0 D b .nil sc_law_drawn (fun vs H Q E h => ?_) fun cdv A outer s H vs Q E hr h => ?_
  · obtain ⟨B, S, n, rfl, _⟩ := h; rfl
  · obtain ⟨B, S, n, rfl, ⟨sc, ns, c, m, r, hS, hsB, fB, hl, c0, m0, m1⟩, n0, n1, q⟩ := h
    have hsc := hsB.frm fB
    have nd := sc_law_drawn.nd
    refine ⟨_, (pss_cons (ps_if (pt_cmpR op_gt (pe_ix (r := rIxL K) ix_list (pv 0) pe_int (fun _ _ => rfl)) pe_int (nomark _)) (pss_cons (ps_set (i := 2) nd rfl (Or.inl rfl) (pe_op op_mod (pe_ix (r := rIxL K) ix_list (pv 0) pe_int (fun _ _ => rfl)) (pv 1)))
      (pss_cons (ps_asg (pe_op op_fdivW (pe_ix (r := rIxL K) ix_list (pv 0) pe_int (fun _ _ => rfl)) (pv 1)) (pg_sub (pv 0) pe_int set_list))
      (pss_one (ps_ret (pv 2))))) pss_nil)
      (pss_cons (ps_asg (pe_op op_add (pe_ix (r := rIxL K) ix_list (pv 0) pe_int (fun _ _ => rfl)) pe_int) (pg_sub (pv 0) pe_int set_list))
      (pss_cons (ps_if (pt_cmpR op_le (pe_ix (r := rIxL K) ix_list (pv 0) pe_int (fun _ _ => rfl)) (pe_callB (r := Wd.rLen K) call_len1 (by rfl) T.n_len PySem.boot_len (pa_cons (pe_ix (r := rIxL K) ix_list (pv 0) pe_int (fun _ _ => rfl)) pa_nil)) (nomark _)) (pss_cons (ps_set (i := 3) nd rfl (Or.inl rfl) (pe_ix (r := rIxL K) ix_list (pe_ix (r := rIxL K) ix_list (pv 0) pe_int (fun _ _ => rfl)) (pe_op op_sub (pe_ix (r := rIxL K) ix_list (pv 0) pe_int (fun _ _ => rfl)) pe_int) (fun _ _ => rfl)))
      (pss_cons (ps_asg (pe_ifExp (pt_cmpR op_ge (pv 3) (pe_op op_pow pe_int pe_int) (nomark _)) (pe_op op_fdivW (pv 3) (pv 1)) pe_int) (pg_sub (pv 0) pe_int set_list))
      (pss_one (ps_ret (pe_op op_mod (pv 3) (pv 1)))))) pss_nil)
      (pss_cons (ps_asg (pe_op op_mod (pe_op op_add (pe_op op_mulW (pe_ix (r := rIxL K) ix_list (pv 0) pe_int (fun _ _ => rfl)) pe_int) pe_int) pe_int) (pg_sub (pv 0) pe_int set_list))
      (pss_one (ps_ret (pe_op op_mod (pe_op op_fdivW (pe_ix (r := rIxL K) ix_list (pv 0) pe_int (fun _ _ => rfl)) pe_int) (pv 1)))))))), ?_⟩
    walk_at "go"
    refine g_ixL (SqL.of hS) rfl ?_
    walk_at "go"
    refine g_ite (fun hr0 => ?_) (fun hr0 => ?_)
    · walk_at "go"
      refine g_ixL (SqL.of hS) rfl ?_
      walk_at "go"
      refine g_I n0 ?_
      walk_at "go"
      refine g_ixL (SqL.of hS) rfl ?_
      walk_at "go"
      refine g_I (divW_small n0 n1) ?_
      walk_at "go"
      refine g_setL hS rfl ?_
      walk_at "go"
      exact q _ _ .set ⟨sc, ns, c, m, r / n, upd_same, hsB, fB.trans .set, hl, c0, m0, m1⟩ (Int.emod_nonneg _ (by omega)) (Int.emod_lt_of_pos _ n0)
    · walk_at "go"
      refine g_ixL (SqL.of hS) rfl ?_
      walk_at "go"
      refine g_setL hS rfl ?_
      walk_at "go"
      refine g_ixL (SqL.of upd_same) rfl ?_
      walk_at "go"
      refine g_ixL (SqL.of upd_same) rfl ?_
      walk_at "go"
      refine g_len (.inl (hsc.frm .set).sq) ?_
      walk_at "go"
      rw [List.length_map]
      refine g_ite (fun hc => ?_) (fun hc => ?_)
      · walk_at "go"
        refine g_ixL (SqL.of upd_same) rfl ?_
        walk_at "go"
        refine g_ixL (SqL.of upd_same) rfl ?_
        walk_at "go"
        have hcl : c.toNat < ns.length := by omega
        refine g_ixL (hsc.frm .set).sq (at_of (j := c.toNat) (v := V.int (ns[c.toNat]'hcl)) (by omega) (by rw [List.getElem?_map, List.getElem?_eq_getElem hcl]; rfl)) ?_
        generalize ns[c.toNat]'hcl = z
        walk_at "go"
        refine g_I (pow_small (by decide) (by decide) (by decide)) ?_
        walk_at "go"
        have fin : ∀ x : Int, Frm S H (upd (upd H S (HO.lst [V.ref sc, V.int (c + 1), V.int m, V.int r])) S (HO.lst [V.ref sc, V.int (c + 1), V.int m, V.int x])) ∧ Dst K B (upd (upd H S (HO.lst [V.ref sc, V.int (c + 1), V.int m, V.int r])) S (HO.lst [V.ref sc, V.int (c + 1), V.int m, V.int x])) S := fun x =>
          ⟨Frm.set.trans .set, sc, ns, c + 1, m, x, upd_same, hsB, (fB.trans .set).trans .set, hl, by omega, m0, m1⟩
        refine g_ite (fun hz => ?_) (fun hz => ?_)
        · walk_at "go"
          refine g_I (divW_small n0 n1) ?_
          walk_at "go"
          refine g_setL upd_same rfl ?_
          walk_at "go"
          refine g_I n0 ?_
          exact q _ _ (fin _).1 (fin _).2 (Int.emod_nonneg _ (by omega)) (Int.emod_lt_of_pos _ n0)
        · walk_at "go"
          refine g_setL upd_same rfl ?_
          walk_at "go"
          refine g_I n0 ?_
          exact q _ _ (fin _).1 (fin _).2 (Int.emod_nonneg _ (by omega)) (Int.emod_lt_of_pos _ n0)
      · walk_at "go"
        refine g_ixL (SqL.of upd_same) rfl ?_
        walk_at "go"
        refine g_I (mulW_small m0 (by omega) (by decide) (by decide)) ?_
        walk_at "go"
        refine g_I (show (0 : Int) < 2147483647 by decide) ?_
        walk_at "go"
        refine g_setL upd_same rfl ?_
        walk_at "go"
        refine g_ixL (SqL.of upd_same) rfl ?_
        walk_at "go"
        refine g_I (divW_small (by decide) (by decide)) ?_
        walk_at "go"
        refine g_I n0 ?_
        exact q _ _ (Frm.set.trans .set) ⟨sc, ns, c + 1, _, r, upd_same, hsB, (fB.trans .set).trans .set, hl, by omega, Int.emod_nonneg _ (by decide), Int.emod_lt_of_pos _ (by decide)⟩ (Int.emod_nonneg _ (by omega)) (Int.emod_lt_of_pos _ n0)
theorem use_drawn {B H : Hp} {S : Addr} {n : Int} {Q : VK} {E : XK} (d : Dst K B H S) (h0 : 0 < n) (h1 : n < 10 ^ 38) (k : ∀ H' v, Frm S H H' → Dst K B H' S → 0 ≤ v → v < n → Q (.int v) H') : sp_drawn K ([.ref S, .int n] ++ []) H Q E := ⟨B, S, n, rfl, d, h0, h1, k⟩

def okB (b : Int) : Prop := 1 ≤ b ∧ b ≤ 60
abbrev s_check_beat : Stmt := top 20
theorem sc_check_beat : FnScope ["beat"] ["beat"] (C8.fnScope s_check_beat) := C8.fnScope_by (by decide +kernel)
def sp_check_beat (CT : Addr) : Sp := fun vs H Q E => ∃ b : Int, vs = [.int b] ∧ (okB b → Q .non H) ∧ (¬ okB b → E (.ref CT) none H)
theorem ok_check_beat (T : Txt K mg CW CT CB CM) {f : Addr} {fd : FuncData} (D : C8.Def K mg "check_beat" s_check_beat f fd) (b : Binds K fd ["beat"] []) (g_is_number : C8.Cal P w K mg base 1 "is_number" sp_is_number []) : CalX P w K mg base 2 "check_beat" (sp_check_beat CT) := by
  refine calX D b sc_check_beat (fun vs H Q E h => ?_) fun cdv A outer s H vs Q E hr h => ?_
  · obtain ⟨b, rfl, _⟩ := h; rfl
  · obtain ⟨b, rfl, q1, q2⟩ := h
    have nd := sc_check_beat.nd
    obtain ⟨tg, c_GREATEST_BEAT⟩ := T.c_GREATEST_BEAT
    refine ⟨_, (pss_one (ps_if (PW.pt (pw_or (pt_not (pt_val (C8.pe_c g_is_number hr (by first | decide | exact Nat.le_refl _ | omega) (by rfl) (pa_cons (pv 0) pa_nil)))) (pw_or1 (pt_not (pt_chain op_le op_le pe_int (pv 0) (pe_glob (v := .int 60) rfl c_GREATEST_BEAT ⟨_, rfl⟩)))))) (pss_one (ps_raise rfl (takes_of rfl rfl rfl rfl) (pmk_own PySem.F.excBase_ValueError T.x_BadBeat T.g_BadBeat T.k_BadBeat (raises_own T.b_BadBeat T.t_BadBeat) (by rfl)))) pss_nil)), ?_⟩
    walk_at "go"
    refine ⟨b, rfl, ?_⟩
    walk_at "go"
    refine g_ite (fun h1 => ?_) (fun h1 => ?_)
    · walk_at "go"
      refine g_iteN (fun h2 => ?_) (fun h2 => ?_)
      · exact q2 (fun z => h2 z.2)
      · walk_at "go"
        exact q1 ⟨h1, h2⟩
    · walk_at "go"
      exact q2 (fun z => h1 z.1)
end
end K13
namespace K13
open PySem PySem.Spec PyProof.Rows L2 Wd
/-! ### two fors in a comprehension, over lists -/
def InE (g1 : TG) (tt1 : TT) (te : TE) (vs1 : List Nat) (σ2 : L2.St) (D : Addr) (N : Hp → Prop) (J1 : It) (H4 : Hp) : Prop := ∃ W1 : Nat → Nat → Hp → Prop, (∃ m, W1 0 m H4) ∧ ∀ j k H, W1 j k H →
      (J1.stop j H ∧ N H) ∨ (J1.go j H ∧ ∃ Nx1 : Hp → Prop, (∀ H', Nx1 H' → ∃ k', k' < k ∧ W1 (j + 1) k' H') ∧ ∀ x H', J1.yld j H x H' → g1 x (wipe σ2 vs1) H' fun σ3 H5 => wipe σ3 vs1 = wipe σ2 vs1 ∧ tt1 σ3 H5 fun b H6 =>
        if b = true then te σ3 H6 fun y H7 => ∃ acc, H7 D = some (.lst acc) ∧ acc.length < sizeLine ∧ Nx1 (upd H7 D (.lst (acc ++ [y]))) else Nx1 H6)
theorem inE_list {K : PySem.W.Frag} {g1 : TG} {tt1 : TT} {te : TE} {vs1 : List Nat} {σ2 : L2.St} {D r : Addr} {N : Hp → Prop} {H4 : Hp} {ys : List V} (Pi : Nat → Hp → Prop) (h0 : Pi 0 H4) (hl : ∀ j H, j ≤ ys.length → Pi j H → SqL K H r ys)
    (hs : ∀ j y H, ys[j]? = some y → Pi j H → g1 y (wipe σ2 vs1) H fun σ3 H5 => wipe σ3 vs1 = wipe σ2 vs1 ∧ tt1 σ3 H5 fun b H6 =>
        if b = true then te σ3 H6 fun y H7 => ∃ acc, H7 D = some (.lst acc) ∧ acc.length < sizeLine ∧ Pi (j + 1) (upd H7 D (.lst (acc ++ [y]))) else Pi (j + 1) H6) (hd : ∀ H, Pi ys.length H → N H) : InE g1 tt1 te vs1 σ2 D N (Itl K r) H4 := by
  refine ⟨fun i m H => m = ys.length - i ∧ i ≤ ys.length ∧ Pi i H, ⟨ys.length, by simp, Nat.zero_le _, h0⟩, ?_⟩
  rintro i m H ⟨rfl, hi, p⟩
  have q := hl i H hi p
  by_cases hlt : i < ys.length
  · refine .inr ⟨⟨ys, ys[i], q, by simp [hlt]⟩, Pi (i + 1), fun H' p' => ⟨ys.length - (i + 1), by omega, rfl, hlt, p'⟩, fun x H' y => ?_⟩
    obtain ⟨e, y⟩ := y
    subst e
    exact hs i x _ (y ys q) p
  · have e : i = ys.length := by omega
    subst e
    exact .inl ⟨⟨ys, q, Nat.le_refl _⟩, hd H p⟩
def Lc2End (g : TG) (tt : TT) (wi1 : TI) (g1 : TG) (tt1 : TT) (te : TE) (vs vs1 : List Nat) (σ : L2.St) (Q : VK) (J : It) (H1 : Hp) : Prop := ∀ D, H1 D = none → ∃ W : Nat → Nat → Hp → Prop, (∃ m, W 0 m (upd H1 D (.lst []))) ∧ ∀ i m H, W i m H →
  (J.stop i H ∧ Q (.ref D) H) ∨ (J.go i H ∧ ∃ Nx : Hp → Prop, (∀ H', Nx H' → ∃ m', m' < m ∧ W (i + 1) m' H') ∧ ∀ x H', J.yld i H x H' → g x (wipe σ vs) H' fun σ2 H2 => wipe σ2 vs = wipe σ vs ∧ tt σ2 H2 fun b H3 =>
    if b = true then wi1 σ2 H3 (InE g1 tt1 te vs1 σ2 D Nx) else Nx H3)
theorem g_lc2 {σ : L2.St} {H : Hp} {Q : VK} {wi : TI} {g : TG} {tt : TT} {wi1 : TI} {g1 : TG} {tt1 : TT} {te : TE} {vs vs1 : List Nat} (h : wi σ H (Lc2End g tt wi1 g1 tt1 te vs vs1 σ Q)) : tLc2 wi g tt wi1 g1 tt1 te vs vs1 σ H Q := h
theorem w_lc2 {K : PySem.W.Frag} {σ : L2.St} {H : Hp} {Q : VK} {g : TG} {tt : TT} {wi1 : TI} {g1 : TG} {tt1 : TT} {te : TE} {vs vs1 : List Nat} {p : Addr} {xs : List V} (hp : SqL K H p xs) (Po : Addr → Nat → Hp → Prop)
    (h0 : ∀ D, H D = none → Po D 0 (upd H D (.lst []))) (hl : ∀ D i H', H D = none → i ≤ xs.length → Po D i H' → SqL K H' p xs)
    (hs : ∀ D i x H', H D = none → xs[i]? = some x → Po D i H' → g x (wipe σ vs) H' fun σ2 H2 => wipe σ2 vs = wipe σ vs ∧ tt σ2 H2 fun b H3 => if b = true then wi1 σ2 H3 (InE g1 tt1 te vs1 σ2 D (Po D (i + 1))) else Po D (i + 1) H3) (hd : ∀ D H', H D = none → Po D xs.length H' → Q (.ref D) H') :
    ∃ q, V.ref p = .ref q ∧ (∃ xs, SqL K H q xs) ∧ Lc2End g tt wi1 g1 tt1 te vs vs1 σ Q (Itl K q) H := by
  refine ⟨p, rfl, ⟨xs, hp⟩, fun D hD => ?_⟩
  refine ⟨fun i m H => m = xs.length - i ∧ i ≤ xs.length ∧ Po D i H, ⟨xs.length, by simp, Nat.zero_le _, h0 D hD⟩, ?_⟩
  rintro i m H' ⟨rfl, hi, po⟩
  have q := hl D i H' hD hi po
  by_cases hlt : i < xs.length
  · refine .inr ⟨⟨xs, xs[i], q, by simp [hlt]⟩, Po D (i + 1), fun H' p' => ⟨xs.length - (i + 1), by omega, rfl, hlt, p'⟩, fun x H' y => ?_⟩
    obtain ⟨e, y⟩ := y
    subst e
    exact hs D i x _ hD (y xs q) po
  · have e : i = xs.length := by omega
    subst e
    exact .inl ⟨⟨xs, q, Nat.le_refl _⟩, hd D H' hD po⟩
/-- works in a list -/
abbrev Wk := Addr × Int × Int
structure WkL (H : Hp) (L : Addr) (zs : List Wk) : Prop where
  at_ : H L = some (.lst (zs.map fun z => V.ref z.1))
  own : ∀ z ∈ zs, H z.1 = some (.tup [.int z.2.1, .int z.2.2])
theorem WkL.same {H H' : Hp} {L : Addr} {zs : List Wk} (w : WkL H L zs) (e : Same H H') : WkL H' L zs := ⟨e _ _ w.at_, fun z hz => e _ _ (w.own z hz)⟩
theorem zs_at {zs : List Wk} {i : Nat} {x : V} (h : (zs.map fun z => V.ref z.1)[i]? = some x) : ∃ z, zs[i]? = some z ∧ x = .ref z.1 := by
  rw [List.getElem?_map] at h
  cases hq : zs[i]? with
  | none => rw [hq] at h; cases h
  | some z => rw [hq] at h; exact ⟨z, rfl, (Option.some.inj h).symm⟩
theorem map_at2 {α : Type} {l : List α} {f : α → V} {i : Nat} {x : V} (h : (l.map f)[i]? = some x) : ∃ z, l[i]? = some z ∧ x = f z := by
  rw [List.getElem?_map] at h
  cases hq : l[i]? with
  | none => rw [hq] at h; cases h
  | some z => rw [hq] at h; exact ⟨z, rfl, (Option.some.inj h).symm⟩
theorem take_snocM {α β : Type} {l : List α} {i : Nat} {x : α} (f : α → β) (h : l[i]? = some x) : (l.take (i + 1)).map f = (l.take i).map f ++ [f x] := by
  rw [List.take_add_one, h, List.map_append]; rfl
section
variable {P : Program} {w : World} {K : PySem.W.Frag} {mg : Str → Option Value} {base : Heap} {CW CT CB CM : Addr}
def okT (zs : List Wk) : Prop := 1 ≤ zs.length ∧ zs.length ≤ 4 ∧ ∀ z ∈ zs, 1 ≤ z.2.1 ∧ z.2.1 ≤ z.2.2 ∧ z.2.2 ≤ 60
abbrev s_check_tasks : Stmt := top 21
theorem sc_check_tasks : FnScope ["tasks", "least", "most"] ["tasks"] (C8.fnScope s_check_tasks) := C8.fnScope_by (by decide +kernel)
def sp_check_tasks (CB : Addr) : Sp := fun vs H Q E => ∃ (L : Addr) (zs : List Wk), vs = [.ref L] ∧ WkL H L zs ∧ (okT zs → Q .non H) ∧ (¬ okT zs → E (.ref CB) none H)
theorem ok_check_tasks (T : Txt K mg CW CT CB CM) {f : Addr} {fd : FuncData} (D : C8.Def K mg "check_tasks" s_check_tasks f fd) (b : Binds K fd ["tasks"] []) (g_is_range : C8.Cal P w K mg base 2 "is_range" sp_is_range []) : CalX P w K mg base 3 "check_tasks" (sp_check_tasks CB) := by
  refine calX D b sc_check_tasks (fun vs H Q E h => ?_) fun cdv A outer s H vs Q E hr h => ?_
  · obtain ⟨L, zs, rfl, _⟩ := h; rfl
  · obtain ⟨L, zs, rfl, wk, q1, q2⟩ := h
    have nd := sc_check_tasks.nd
    obtain ⟨t1, c_MOST_TASKS⟩ := T.c_MOST_TASKS
    obtain ⟨t2, c_LONGEST_TASK⟩ := T.c_LONGEST_TASK
    refine ⟨_, (pss_cons (ps_if (pt_not (pt_chain op_le op_le pe_int (pe_callB (r := Wd.rLen K) call_len1 (by rfl) T.n_len PySem.boot_len (pa_cons (pv 0) pa_nil)) (pe_glob (v := .int 4) rfl c_MOST_TASKS ⟨_, rfl⟩))) (pss_one (ps_raise rfl (takes_of rfl rfl rfl rfl) (pmk_own PySem.F.excBase_ValueError T.x_BadTasks T.g_BadTasks T.k_BadTasks (raises_own T.b_BadTasks T.t_BadTasks) (by rfl)))) pss_nil)
      (pss_one (ps_for (passes_of rfl) rfl (pi_list (pv 0)) (pg_tup rfl (pgs_cons (pg_name (i := 1) nd rfl (Or.inl rfl)) (pgs_cons (pg_name (i := 2) nd rfl (Or.inl rfl)) pgs_nil))) (pss_one (ps_if (PW.pt (pw_or (pt_not (pt_val (C8.pe_c g_is_range hr (by first | decide | exact Nat.le_refl _ | omega) (by rfl) (pa_cons (pv 1) (pa_cons (pv 2) (pa_cons (pe_glob (v := .int 60) rfl c_LONGEST_TASK ⟨_, rfl⟩) pa_nil)))))) (pw_or1 (pt_cmpR op_eq (pv 1) pe_int (nomark _))))) (pss_one (ps_raise rfl (takes_of rfl rfl rfl rfl) (pmk_own PySem.F.excBase_ValueError T.x_BadTasks T.g_BadTasks T.k_BadTasks (raises_own T.b_BadTasks T.t_BadTasks) (by rfl)))) pss_nil))))), ?_⟩
    walk_at "go"
    refine g_len (.inl (SqL.of wk.at_)) ?_
    walk_at "go"
    rw [List.length_map]
    refine g_ite (fun h1 => ?_) (fun h1 => ?_)
    · walk_at "go"
      by_cases h2 : (zs.length : Int) ≤ 4
      · rw [decide_eq_true h2]
        refine L2.iteF ?_
        have hl : 1 ≤ zs.length ∧ zs.length ≤ 4 := ⟨by omega, by omega⟩
        walk_at "go"
        refine w_list (xs := zs.map fun z => V.ref z.1) (fun i σ H' => H' = H ∧ (∃ (v1 v2 : Option V), σ = [some (.ref L), v1, v2]) ∧ ∀ j z, j < i → zs[j]? = some z → 1 ≤ z.2.1 ∧ z.2.1 ≤ z.2.2 ∧ z.2.2 ≤ 60) ?_ ?_ ?_ ?_
        · exact ⟨rfl, ⟨_, _, rfl⟩, fun j z hj => by omega⟩
        · rintro i σ H' _ ⟨rfl, _⟩; exact SqL.of wk.at_
        · rintro i x σ H' hx ⟨rfl, ⟨v1, v2, rfl⟩, ok⟩
          obtain ⟨z, hz, rfl⟩ := zs_at hx
          have zm := List.mem_of_getElem? hz
          walk_at "go"
          refine g_gtup (SqT.of (wk.own z zm)) rfl ?_
          walk_at "go"
          refine ⟨z.2.1, z.2.2, 60, rfl, ?_⟩
          walk_at "go"
          refine g_iteN (fun h2 => ?_) (fun h2 => ?_)
          · exact q2 (fun q => h2 ⟨by have := (q.2.2 z zm).1; omega, (q.2.2 z zm).2⟩)
          · walk_at "go"
            refine g_ite (fun h3 => ?_) (fun h3 => ?_)
            · exact q2 (fun q => by have := (q.2.2 z zm).1; omega)
            · walk_at "go"
              refine ⟨rfl, ⟨_, _, rfl⟩, fun j y hj hy => ?_⟩
              by_cases c : j < i
              · exact ok j y c hy
              · have : j = i := by omega
                subst this
                cases hz.symm.trans hy
                exact ⟨by omega, h2.2⟩
        · rintro σ H' ⟨rfl, ⟨v1, v2, rfl⟩, ok⟩
          rw [List.length_map] at ok
          walk_at "go"
          refine q1 ⟨hl.1, hl.2, fun z hz => ?_⟩
          obtain ⟨j, hj, rfl⟩ := List.mem_iff_getElem.mp hz
          exact ok j _ hj (List.getElem?_eq_getElem hj)
      · rw [decide_eq_false h2]
        refine L2.iteT ?_
        exact q2 (fun z => h2 (by have := z.2.1; omega))
    · walk_at "go"
      exact q2 (fun z => h1 (by have := z.1; omega))

def okM (hi b : Int) (zs : List Wk) : Prop := zs.length ≤ 2 ∧ (∀ z ∈ zs, z.2.2 ≤ 8) ∧ b ≤ 6 ∧ hi ≤ 24
abbrev s_check_searched : Stmt := top 22
theorem sc_check_searched : FnScope ["window", "beat", "tasks", "longest", "least", "most"] ["window", "beat", "tasks"] (C8.fnScope s_check_searched) := C8.fnScope_by (by decide +kernel)
def sp_check_searched (K : PySem.W.Frag) (CM : Addr) : Sp := fun vs H Q E => ∃ (W L : Addr) (lo hi b : Int) (zs : List Wk), vs = [.ref W, .int b, .ref L] ∧ SqT K H W [.int lo, .int hi] ∧ WkL H L zs ∧ 1 ≤ zs.length ∧ zs.length ≤ 4 ∧ (okM hi b zs → ∀ H', Same H H' → Q .non H') ∧ (¬ okM hi b zs → ∀ H', Same H H' → E (.ref CM) none H')
theorem ok_check_searched (T : Txt K mg CW CT CB CM) {f : Addr} {fd : FuncData} (D : C8.Def K mg "check_searched" s_check_searched f fd) (b : Binds K fd ["window", "beat", "tasks"] []) : CalX P w K mg base 1 "check_searched" (sp_check_searched K CM) := by
  refine calX D b sc_check_searched (fun vs H Q E h => ?_) fun cdv A outer s H vs Q E hr h => ?_
  · obtain ⟨W, L, lo, hi, b, zs, rfl, _⟩ := h; rfl
  · obtain ⟨W, L, lo, hi, b, zs, rfl, hW, wk, l1, l4, q1, q2⟩ := h
    have nd := sc_check_searched.nd
    obtain ⟨t1, c_MOST_SEARCHED_TASKS⟩ := T.c_MOST_SEARCHED_TASKS
    obtain ⟨t2, c_LONGEST_SEARCHED_TASK⟩ := T.c_LONGEST_SEARCHED_TASK
    obtain ⟨t3, c_GREATEST_SEARCHED_BEAT⟩ := T.c_GREATEST_SEARCHED_BEAT
    obtain ⟨t4, c_GREATEST_SEARCHED_HIGH⟩ := T.c_GREATEST_SEARCHED_HIGH
    refine ⟨_, (pss_cons (ps_set (i := 3) nd rfl (Or.inl rfl) (pe_callB (r := rMax K) (cr_max rfl) (by rfl) T.n_max (by decide +kernel) (pa_cons (pe_lc (own := [("least", 4), ("most", 5)]) (g := (gTup K 2 (gCons (gName 4) (gCons (gName 5) gNil)))) (tt := tYes) rfl nd (pi_list (pv 2)) (blkOk_by (N := ["window", "beat", "tasks", "longest", "least", "most"]) (sc := C8.fnScope s_check_searched) (by decide +kernel)) (fun _ _ _ _ _ => (pg_tup rfl (pgs_cons (pg_name (i := 4) nd rfl (Or.inl rfl)) (pgs_cons (pg_name (i := 5) nd rfl (Or.inl rfl)) pgs_nil)))) (fun _ _ _ _ _ => pts_nil) (fun _ _ _ _ _ => (pv 5))) pa_nil)))
      (pss_cons (ps_if (PW.pt (pw_or (pt_cmpR op_gt (pe_callB (r := Wd.rLen K) call_len1 (by rfl) T.n_len PySem.boot_len (pa_cons (pv 2) pa_nil)) (pe_glob (v := .int 2) rfl c_MOST_SEARCHED_TASKS ⟨_, rfl⟩) (nomark _)) (pw_or1 (pt_cmpR op_gt (pv 3) (pe_glob (v := .int 8) rfl c_LONGEST_SEARCHED_TASK ⟨_, rfl⟩) (nomark _))))) (pss_one (ps_raise rfl (takes_of rfl rfl rfl rfl) (pmk_own PySem.F.excBase_ValueError T.x_TooMuch T.g_TooMuch T.k_TooMuch (raises_own T.b_TooMuch T.t_TooMuch) (by rfl)))) pss_nil)
      (pss_one (ps_if (PW.pt (pw_or (pt_cmpR op_gt (pv 1) (pe_glob (v := .int 6) rfl c_GREATEST_SEARCHED_BEAT ⟨_, rfl⟩) (nomark _)) (pw_or1 (pt_cmpR op_gt (pe_ix (r := rIxT K) ix_tup (pv 0) pe_int (fun _ _ => rfl)) (pe_glob (v := .int 24) rfl c_GREATEST_SEARCHED_HIGH ⟨_, rfl⟩) (nomark _))))) (pss_one (ps_raise rfl (takes_of rfl rfl rfl rfl) (pmk_own PySem.F.excBase_ValueError T.x_TooMuch T.g_TooMuch T.k_TooMuch (raises_own T.b_TooMuch T.t_TooMuch) (by rfl)))) pss_nil)))), ?_⟩
    walk_at "go"
    refine w_lcList (SqL.of wk.at_) (fun D i H' => Same H H' ∧ H' D = some (.lst (((zs.take i).map fun z => z.2.2).map V.int))) (fun D hD => ⟨same_new hD, upd_same⟩) (fun D i H' hD _ h => SqL.of (h.1 _ _ wk.at_)) (fun D i y H' hD hy h => ?_) (fun D1 H1 hD1 h => ?_)
    · obtain ⟨z, hz, rfl⟩ := zs_at hy
      walk_at "go"
      refine g_gtup (SqT.of (h.1 _ _ (wk.own z (List.mem_of_getElem? hz)))) rfl ?_
      walk_at "go"
      refine ⟨rfl, ?_⟩
      walk_at "go"
      exact ⟨_, h.2, by rw [sizeLine_eq, List.length_map, List.length_map]; have := List.length_take_le i zs; have := (List.getElem?_eq_some_iff.mp hz).1; omega, Wd.Same.mut h.1 hD, by rw [upd_same, take_snocM _ hz, List.map_append]; rfl⟩
    obtain ⟨s1, e1⟩ := h
    rw [List.length_map, List.take_length] at e1
    walk_at "go"
    refine ⟨D1, _, rfl, SqL.of e1, by rw [List.length_map]; omega, fun mx hmx hle => ?_⟩
    have m8 : mx ≤ 8 ↔ ∀ z ∈ zs, z.2.2 ≤ 8 := ⟨fun h z hz => by have := hle z.2.2 (List.mem_map.mpr ⟨z, hz, rfl⟩); omega, fun h => by
      obtain ⟨z, hz, rfl⟩ := List.mem_map.mp hmx
      exact h z hz⟩
    walk_at "go"
    refine g_len (.inl (SqL.of (s1 _ _ wk.at_))) ?_
    walk_at "go"
    rw [List.length_map]
    refine g_ite (fun h2 => ?_) (fun h2 => ?_)
    · exact q2 (fun z => by have := z.1; omega) _ s1
    walk_at "go"
    refine g_ite (fun h3 => ?_) (fun h3 => ?_)
    · exact q2 (fun z => by have := m8.mpr z.2.1; omega) _ s1
    walk_at "go"
    refine g_ite (fun h4 => ?_) (fun h4 => ?_)
    · exact q2 (fun z => by have := z.2.2.1; omega) _ s1
    walk_at "go"
    refine g_ixT (tup_same s1 hW) rfl ?_
    walk_at "go"
    refine g_ite (fun h5 => ?_) (fun h5 => ?_)
    · exact q2 (fun z => by have := z.2.2.2; omega) _ s1
    walk_at "go"
    exact q1 ⟨by omega, m8.mp (by omega), by omega, by omega⟩ _ s1

abbrev s_waits_behind : Stmt := top 23
theorem sc_waits_behind : FnScope ["task", "wait", "least", "most"] ["task", "wait"] (C8.fnScope s_waits_behind) := C8.fnScope_by (by decide +kernel)
def sp_waits_behind (K : PySem.W.Frag) : Sp := fun vs H Q _ => ∃ (t : Addr) (a c x : Int), vs = [.ref t, .int x] ∧ SqT K H t [.int a, .int c] ∧ ∀ H' D, Same H H' → H D = none → H' D = some (.lst ((wbh (a, c) x).map V.int)) → Q (.ref D) H'
theorem ok_waits_behind (T : Txt K mg CW CT CB CM) {f : Addr} {fd : FuncData} (D : C8.Def K mg "waits_behind" s_waits_behind f fd) (b : Binds K fd ["task", "wait"] []) : C8.Cal P w K mg base 1 "waits_behind" (sp_waits_behind K) [] := by
  refine C8.cal0 D b .nil sc_waits_behind (fun vs H Q E h => ?_) fun cdv A outer s H vs Q E hr h => ?_
  · obtain ⟨t, a, c, x, rfl, _⟩ := h; rfl
  · obtain ⟨t, a, c, x, rfl, ht, q⟩ := h
    have nd := sc_waits_behind.nd
    refine ⟨_, (pss_cons (ps_asg (pv 0) (pg_tup rfl (pgs_cons (pg_name (i := 2) nd rfl (Or.inl rfl)) (pgs_cons (pg_name (i := 3) nd rfl (Or.inl rfl)) pgs_nil))))
      (pss_cons (ps_if (pt_cmpR op_lt (pe_op op_add (pv 1) pe_int) (pv 2) (nomark _)) (pss_one (ps_ret (pe_lst (pa_cons (pe_op op_add (pv 1) pe_int) pa_nil)))) pss_nil)
      (pss_cons (ps_if (pt_cmpR op_eq (pe_op op_add (pv 1) pe_int) (pv 3) (nomark _)) (pss_one (ps_ret (pe_lst (pa_cons pe_int pa_nil)))) pss_nil)
      (pss_one (ps_ret (pe_lst (pa_cons (pe_op op_add (pv 1) pe_int) (pa_cons pe_int pa_nil)))))))), ?_⟩
    walk_at "go"
    refine g_gtup ht rfl ?_
    walk_at "go"
    refine g_ite (fun h1 => ?_) (fun h1 => ?_)
    · have e : wbh (a, c) x = [x + 1] := if_pos h1
      rw [e] at q
      walk_at "go"
      intro D hD
      exact q _ D (same_new hD) hD upd_same
    walk_at "go"
    refine g_ite (fun h2 => ?_) (fun h2 => ?_)
    · have e : wbh (a, c) x = [0] := (if_neg h1).trans (if_pos h2)
      rw [e] at q
      walk_at "go"
      intro D hD
      exact q _ D (same_new hD) hD upd_same
    · have e : wbh (a, c) x = [x + 1, 0] := (if_neg h1).trans (if_neg h2)
      rw [e] at q
      walk_at "go"
      intro D hD
      exact q _ D (same_new hD) hD upd_same

/-- tuples of numbers in a list -/
structure RowsT (H : Hp) (D : Addr) (rs : List (Addr × List Int)) : Prop where
  at_ : H D = some (.lst (rs.map fun r => V.ref r.1))
  own : ∀ r ∈ rs, H r.1 = some (.tup (r.2.map V.int))
theorem RowsT.same {H H' : Hp} {D : Addr} {rs : List (Addr × List Int)} (t : RowsT H D rs) (e : Same H H') : RowsT H' D rs := ⟨e _ _ t.at_, fun r hr => e _ _ (t.own r hr)⟩
theorem RowsT.put {H : Hp} {D M : Addr} {rs : List (Addr × List Int)} {r : List Int} (t : RowsT H D rs) (h : H M = some (.tup (r.map V.int))) : RowsT (upd H D (.lst ((rs.map fun r => V.ref r.1) ++ [.ref M]))) D (rs ++ [(M, r)]) := by
  refine ⟨by rw [upd_same, List.map_append]; rfl, fun z hz => ?_⟩
  rw [List.mem_append, List.mem_singleton] at hz
  rcases hz with hz | rfl
  · rw [upd_ne (ne_of (t.own z hz) t.at_ (fun z => nomatch z))]; exact t.own z hz
  · rw [upd_ne (ne_of h t.at_ (fun z => nomatch z))]; exact h
theorem int_at {ns : List Int} {i : Nat} {x : V} (h : (ns.map V.int)[i]? = some x) : ∃ n, ns[i]? = some n ∧ x = .int n := map_at h
abbrev s_all_waits_behind : Stmt := top 24
theorem sc_all_waits_behind : FnScope ["tasks", "waits", "rows", "task", "wait", "row", "later"] ["tasks", "waits"] (C8.fnScope s_all_waits_behind) := C8.fnScope_by (by decide +kernel)
def sp_all_waits (K : PySem.W.Frag) : Sp := fun vs H Q _ => ∃ (L Wt : Addr) (zs : List Wk) (xs : List Int), vs = [.ref L, .ref Wt] ∧ WkL H L zs ∧ H Wt = some (.tup (xs.map V.int)) ∧ zs.length = xs.length ∧ zs.length ≤ 4 ∧ ∀ H' D rs, Same H H' → H D = none → RowsT H' D rs → rs.map (·.2) = awb (zs.map (·.2)) xs → Q (.ref D) H'
theorem ok_all_waits (T : Txt K mg CW CT CB CM) {f : Addr} {fd : FuncData} (D : C8.Def K mg "all_waits_behind" s_all_waits_behind f fd) (b : Binds K fd ["tasks", "waits"] []) (g_waits_behind : C8.Cal P w K mg base 1 "waits_behind" (sp_waits_behind K) []) : C8.Cal P w K mg base 2 "all_waits_behind" (sp_all_waits K) [] := by
  refine C8.cal0 D b .nil sc_all_waits_behind (fun vs H Q E h => ?_) fun cdv A outer s H vs Q E hr h => ?_
  · obtain ⟨L, Wt, zs, xs, rfl, _⟩ := h; rfl
  · obtain ⟨L, Wt, zs, xs, rfl, wk, hWt, hl, l4, q⟩ := h
    have nd := sc_all_waits_behind.nd
    refine ⟨_, (pss_cons (ps_set (i := 2) nd rfl (Or.inl rfl) (pe_lst (pa_cons (pe_tup pa_nil) pa_nil)))
      (pss_cons (ps_for PassesOwn.never rfl (pi_zipM (by rfl) T.n_zip (pa_cons (pv 0) (pa_cons (pv 1) pa_nil))) (pg_tup rfl (pgs_cons (pg_name (i := 3) nd rfl (Or.inr rfl)) (pgs_cons (pg_name (i := 4) nd rfl (Or.inr rfl)) pgs_nil))) (pss_one (ps_setLc2 (i := 2) (own := [("row", 5), ("later", 6)]) (g := gName 5) (tt := tYes) (wi1 := iList K _) (g1 := gName 6) (tt1 := tYes) (vs1 := [6]) rfl nd rfl rfl (sw_true rfl rfl rfl (by decide +kernel)) (pi_list (pv 2)) (blkOk_by (N := ["tasks", "waits", "rows", "task", "wait", "row", "later"]) (sc := C8.fnScope s_all_waits_behind) (by decide +kernel)) (by decide) (fun _ _ _ _ _ => pg_name (i := 5) nd rfl (Or.inl rfl)) (fun _ _ _ _ _ => pts_nil) (fun _ _ _ _ _ => (pi_list (C8.pe_c g_waits_behind hr (by first | decide | exact Nat.le_refl _ | omega) (by rfl) (pa_cons (pv 3) (pa_cons (pv 4) pa_nil))))) (fun _ _ _ _ _ => pg_name (i := 6) nd rfl (Or.inl rfl)) (fun _ _ _ _ _ => pts_nil) (fun _ _ _ _ _ => (pe_op (r := rCatA K) op_catA (pv 5) (pe_tup (pa_cons (pv 6) pa_nil)))))))
      (pss_one (ps_ret (pv 2))))), ?_⟩
    walk_at "go"
    intro t0 ht0
    have s0 := same_new (o := .tup []) ht0
    have e0 := upd_same (H := H) (a := t0) (o := .tup [])
    generalize upd H t0 (.tup []) = H0 at s0 e0
    walk_at "go"
    intro D0 hD0
    have s1 := same_new (o := .lst [.ref t0]) hD0
    have r1 : RowsT (upd H0 D0 (.lst [.ref t0])) D0 [(t0, [])] := ⟨upd_same, fun r hr => by
      rw [List.mem_singleton] at hr; subst hr; exact s1 _ _ e0⟩
    have n1 := Wd.Same.back s0 hD0
    have s01 := s0.trans s1
    generalize upd H0 D0 (.lst [.ref t0]) = H1 at s1 r1 s01
    clear s0 s1 e0 ht0 hD0
    walk_at "go"
    refine g_zipM ?_
    walk_at "go"
    refine w_zipM (p := L) (r := Wt) (xs := zs.map fun z => V.ref z.1) (ys := xs.map V.int) (by rw [List.length_map, List.length_map]; exact hl) (fun i σ H' => ∃ (DD : Addr) (rs : List (Addr × List Int)) (v3 v4 v5 v6 : Option V), σ = [some (.ref L), some (.ref Wt), some (.ref DD), v3, v4, v5, v6] ∧ Same H H' ∧ H DD = none ∧ RowsT H' DD rs ∧ (∀ r ∈ rs, r.2.length ≤ i) ∧ rs.map (·.2) = allW [[]] (((zs.map (·.2)).zip xs).take i)) ?_ ?_ ?_ ?_
    · exact ⟨D0, _, _, _, _, _, rfl, s01, n1, r1, fun r hr => (by rw [List.mem_singleton] at hr; subst hr; exact Nat.le_refl 0), rfl⟩
    · rintro i σ H' ⟨DD, rs, v3, v4, v5, v6, rfl, sm, _⟩
      exact ⟨SqL.of (sm _ _ wk.at_), SqT.of (sm _ _ hWt)⟩
    · rintro i x y TT σ H2 hx hy ⟨DD, rs, v3, v4, v5, v6, rfl, sm, nD, rl, rz, er⟩ hTT
      obtain ⟨z, hz, rfl⟩ := zs_at hx
      obtain ⟨n, hn, rfl⟩ := int_at hy
      have zm := List.mem_of_getElem? hz
      have il := (List.getElem?_eq_some_iff.mp hz).1
      have sT := same_new (o := .tup [V.ref z.1, V.int n]) hTT
      have sm2 := sm.trans sT
      have rl2 := rl.same sT
      have eT := upd_same (H := H2) (a := TT) (o := .tup [V.ref z.1, V.int n])
      generalize upd H2 TT (.tup [V.ref z.1, V.int n]) = H3 at sT sm2 rl2 eT
      clear rl sm sT hTT
      have snoc : allW [[]] (((zs.map (·.2)).zip xs).take (i + 1)) = stepW (rs.map (·.2)) z.2 n := by
        have hzz : ((zs.map (·.2)).zip xs)[i]? = some (z.2, n) := by
          rw [List.getElem?_zip_eq_some]
          exact ⟨by rw [List.getElem?_map, hz]; rfl, hn⟩
        rw [List.take_add_one, hzz]
        show allW [[]] (_ ++ [_]) = _
        rw [allW_snoc, ← er]
      have rlen : rs.length ≤ 16 := by
        have h1 := allW_len (((zs.map (·.2)).zip xs).take i) [[]]
        have h2 := congrArg List.length er
        rw [List.length_map] at h2
        have h3 : (((zs.map (·.2)).zip xs).take i).length ≤ 4 := by rw [List.length_take, List.length_zip, List.length_map]; omega
        have h4 : 2 ^ (((zs.map (·.2)).zip xs).take i).length ≤ 2 ^ 4 := Nat.pow_le_pow_right (by decide) h3
        rw [List.length_singleton, Nat.one_mul] at h1
        omega
      walk_at "go"
      refine g_gtup (SqT.of eT) rfl ?_
      walk_at "go"
      refine g_lc2 ?_
      walk_at "go"
      refine w_lc2 (SqL.of rl2.at_) (fun D i H' => Same H3 H' ∧ ∃ ys, RowsT H' D ys ∧ ys.map (·.2) = stepW ((rs.map (·.2)).take i) z.2 n) (fun D hD => ⟨same_new hD, [], ⟨upd_same, fun r hr => nomatch hr⟩, rfl⟩) (fun D i H' hD _ h => SqL.of (h.1 _ _ rl2.at_)) (fun D j x H6 hD hx h => ?_) (fun RR H6 hRR h => ?_)
      · obtain ⟨r, hr', rfl⟩ := map_at2 hx
        obtain ⟨s6, ys, ry, ey⟩ := h
        have rm := List.mem_of_getElem? hr'
        have ro := s6 _ _ (rl2.own r rm)
        have jl := (List.getElem?_eq_some_iff.mp hr').1
        have s06 := sm2.trans s6
        walk_at "go"
        refine ⟨rfl, ?_⟩
        walk_at "go"
        refine ⟨z.1, z.2.1, z.2.2, n, rfl, SqT.of (s06 _ _ (wk.own z zm)), fun H7 Nx s7 hNx eNx => ?_⟩
        refine ⟨Nx, rfl, ⟨_, SqL.of eNx⟩, ?_⟩
        have wl := wbh_len z.2 n
        have ylen : ys.length ≤ 32 := by
          have h1 := congrArg List.length ey
          have h2 := stepW_len (acc := (rs.map (·.2)).take j) (t := z.2) (x := n)
          rw [List.length_map] at h1
          rw [List.length_take, List.length_map] at h2
          omega
        refine inE_list (ys := (wbh z.2 n).map V.int) (fun k H' => Same H3 H' ∧ H' Nx = some (.lst ((wbh z.2 n).map V.int)) ∧ ∃ us, RowsT H' D us ∧ us.map (·.2) = stepW ((rs.map (·.2)).take j) z.2 n ++ ((wbh z.2 n).take k).map (fun y => r.2 ++ [y])) ⟨s6.trans s7, eNx, ys, ry.same s7, by rw [List.take_zero, List.map_nil, List.append_nil]; exact ey⟩ (fun k H' _ h => SqL.of h.2.1) (fun k y H8 hy h => ?_) (fun H8 h => ?_)
        · obtain ⟨p, hp, rfl⟩ := int_at hy
          obtain ⟨s8, nx8, us, ru, eu⟩ := h
          have kl := (List.getElem?_eq_some_iff.mp hp).1
          have lu : us.length ≤ 100 := by
            have h1 := congrArg List.length eu
            have h2 := congrArg List.length ey
            rw [List.length_map, List.length_append, List.length_map, ← h2, List.length_map] at h1
            have := List.length_take_le k (wbh z.2 n)
            omega
          have nND : Nx ≠ D := fun z => by rw [z, ry.at_] at hNx; cases hNx
          have fin : ∀ (H9 : Hp) (M : Addr), Same H8 H9 → H9 M = some (.tup ((r.2 ++ [p]).map V.int)) → ∃ acc, H9 D = some (.lst acc) ∧ acc.length < sizeLine ∧ Same H3 (upd H9 D (.lst (acc ++ [V.ref M]))) ∧ upd H9 D (.lst (acc ++ [V.ref M])) Nx = some (.lst ((wbh z.2 n).map V.int)) ∧ ∃ us, RowsT (upd H9 D (.lst (acc ++ [V.ref M]))) D us ∧ us.map (·.2) = stepW ((rs.map (·.2)).take j) z.2 n ++ ((wbh z.2 n).take (k + 1)).map (fun y => r.2 ++ [y]) := fun H9 M s9 e9 => by
            have ru9 := ru.same s9
            refine ⟨_, ru9.at_, by rw [sizeLine_eq, List.length_map]; omega, Wd.Same.mut (s8.trans s9) hD, by rw [upd_ne nND]; exact s9 _ _ nx8, us ++ [(M, r.2 ++ [p])], ru9.put e9, ?_⟩
            rw [List.map_append, eu, List.append_assoc, take_snocM _ hp]; rfl
          walk_at "go"
          refine ⟨rfl, ?_⟩
          walk_at "go"
          intro M1 hM1
          have sM1 := same_new (o := .tup [V.int p]) hM1
          have eM1 := upd_same (H := H8) (a := M1) (o := .tup [V.int p])
          generalize upd H8 M1 (.tup [V.int p]) = H9 at sM1 eM1
          refine ⟨r.1, M1, _, _, rfl, rfl, SqT.of (sM1 _ _ (s8 _ _ (rl2.own r rm))), SqT.of eM1, ?_, fun e => ?_, fun _ e => (nomatch e), fun _ _ M hM => ?_⟩
          · have := rz r rm
            rw [sizeLine_eq, List.length_map, List.length_singleton]; omega
          · have e' : r.2 = [] := List.map_eq_nil_iff.mp e
            exact fin H9 M1 sM1 (by rw [eM1, e']; rfl)
          · have sM := same_new (o := .tup (r.2.map V.int ++ [V.int p])) hM
            exact fin _ M (sM1.trans sM) (by rw [upd_same, List.map_append]; rfl)
        · obtain ⟨s8, nx8, us, ru, eu⟩ := h
          refine ⟨s8, us, ru, ?_⟩
          rw [eu, List.length_map, List.take_length]
          have hj : (rs.map (·.2))[j]? = some r.2 := by rw [List.getElem?_map, hr']; rfl
          unfold stepW
          rw [List.take_add_one, hj, List.flatMap_append]
          simp
      · obtain ⟨s6, ys, ry, ey⟩ := h
        have e2 : (rs.map (·.2)).take (rs.map fun r => V.ref r.1).length = rs.map (·.2) := List.take_of_length_le (by rw [List.length_map, List.length_map]; exact Nat.le_refl _)
        rw [e2] at ey
        walk_at "go"
        refine ⟨RR, ys, _, _, _, _, rfl, sm2.trans s6, Wd.Same.back sm2 hRR, ry, fun r hr => ?_, by rw [ey, snoc]⟩
        have hm : r.2 ∈ stepW (rs.map (·.2)) z.2 n := by rw [← ey]; exact List.mem_map.mpr ⟨r, hr, rfl⟩
        obtain ⟨a, ha, y, _, e⟩ := stepW_mem.mp hm
        obtain ⟨r0, hr0, rfl⟩ := List.mem_map.mp ha
        have := rz r0 hr0
        rw [e, List.length_append, List.length_singleton]
        omega
    · rintro σ H' ⟨DD, rs, v3, v4, v5, v6, rfl, sm, nD, rl, rz, er⟩
      walk_at "go"
      refine q H' DD rs sm nD rl ?_
      rw [er, List.take_of_length_le (by rw [List.length_zip, List.length_map, List.length_map]; exact Nat.min_le_left _ _)]; rfl

abbrev s_is_patted : Stmt := top 25
theorem sc_is_patted : FnScope ["beat", "gap", "waits"] ["beat", "gap", "waits"] (C8.fnScope s_is_patted) := C8.fnScope_by (by decide +kernel)
def sp_is_patted (K : PySem.W.Frag) : Sp := fun vs H Q _ => ∃ (Wt : Addr) (b gap : Int) (xs : List Int), vs = [.int b, .int gap, .ref Wt] ∧ H Wt = some (.tup (xs.map V.int)) ∧ 0 < xs.length ∧ 0 < b ∧ Q (.bl (patd b gap xs)) H
theorem ok_is_patted (T : Txt K mg CW CT CB CM) {f : Addr} {fd : FuncData} (D : C8.Def K mg "is_patted" s_is_patted f fd) (b : Binds K fd ["beat", "gap", "waits"] []) : C8.Cal P w K mg base 1 "is_patted" (sp_is_patted K) [] := by
  refine C8.cal0 D b .nil sc_is_patted (fun vs H Q E h => ?_) fun cdv A outer s H vs Q E hr h => ?_
  · obtain ⟨Wt, b, gap, xs, rfl, _⟩ := h; rfl
  · obtain ⟨Wt, b, gap, xs, rfl, hWt, lp, b0, q⟩ := h
    have nd := sc_is_patted.nd
    refine ⟨_, (pss_one (ps_ret (pe_and (pe_cmpR op_eq (pe_op op_mod (pv 1) (pv 0)) pe_int (nomark _)) (pe_one (pe_cmpR op_lt (pe_callB (r := rMaxT K) (cr_maxT rfl) (by rfl) T.n_max (by decide +kernel) (pa_cons (pv 2) pa_nil)) (pv 1) (nomark _)))))), ?_⟩
    walk_at "go"
    refine g_I b0 ?_
    walk_at "go"
    refine g_ite (fun h1 => ?_) (fun h1 => ?_)
    · walk_at "go"
      refine ⟨Wt, xs, rfl, SqT.of hWt, lp, fun m hm hle => ?_⟩
      walk_at "go"
      have e : patd b gap xs = decide (m < gap) := by
        unfold patd
        rw [decide_eq_true h1, Bool.true_and]
        by_cases c : m < gap
        · rw [decide_eq_true c, List.all_eq_true]
          intro x hx
          have := hle x hx
          exact decide_eq_true (by omega)
        · rw [decide_eq_false c]
          cases ha : xs.all fun x => decide (x < gap) with
          | false => rfl
          | true => exact absurd (of_decide_eq_true (List.all_eq_true.mp ha m hm)) c
      rw [← e]; exact q
    · walk_at "go"
      have e : patd b gap xs = false := by unfold patd; rw [decide_eq_false h1, Bool.false_and]
      rw [e] at q; exact q

abbrev s_bite_word : Stmt := top 26
theorem sc_bite_word : FnScope ["window", "beat", "gap", "waits", "low", "high"] ["window", "beat", "gap", "waits"] (C8.fnScope s_bite_word) := C8.fnScope_by (by decide +kernel)
def wordV (o : Option Str) : V := match o with
  | none => .non
  | some x => .str x
def sp_bite_word (K : PySem.W.Frag) : Sp := fun vs H Q _ => ∃ (W Wt : Addr) (lo hi b gap : Int) (xs : List Int), vs = [.ref W, .int b, .int gap, .ref Wt] ∧ SqT K H W [.int lo, .int hi] ∧ H Wt = some (.tup (xs.map V.int)) ∧ 0 < xs.length ∧ 0 < b ∧ Q (wordV (wordB lo hi b gap xs)) H
theorem ok_bite_word (T : Txt K mg CW CT CB CM) {f : Addr} {fd : FuncData} (D : C8.Def K mg "bite_word" s_bite_word f fd) (b : Binds K fd ["window", "beat", "gap", "waits"] []) (g_is_patted : C8.Cal P w K mg base 1 "is_patted" (sp_is_patted K) []) : C8.Cal P w K mg base 2 "bite_word" (sp_bite_word K) [] := by
  refine C8.cal0 D b .nil sc_bite_word (fun vs H Q E h => ?_) fun cdv A outer s H vs Q E hr h => ?_
  · obtain ⟨W, Wt, lo, hi, b, gap, xs, rfl, _⟩ := h; rfl
  · obtain ⟨W, Wt, lo, hi, b, gap, xs, rfl, hW, hWt, lp, b0, q⟩ := h
    have nd := sc_bite_word.nd
    refine ⟨_, (pss_cons (ps_asg (pv 0) (pg_tup rfl (pgs_cons (pg_name (i := 4) nd rfl (Or.inl rfl)) (pgs_cons (pg_name (i := 5) nd rfl (Or.inl rfl)) pgs_nil))))
      (pss_cons (ps_if (pt_cmpR op_gt (pv 2) (pv 5) (nomark _)) (pss_one (ps_ret pe_str)) pss_nil)
      (pss_cons (ps_if (PW.pt (pw_and (pt_cmpR op_lt (pv 2) (pv 4) (nomark _)) (pw_and1 (pt_val (C8.pe_c g_is_patted hr (by first | decide | exact Nat.le_refl _ | omega) (by rfl) (pa_cons (pv 1) (pa_cons (pv 2) (pa_cons (pv 3) pa_nil)))))))) (pss_one (ps_ret pe_str)) pss_nil)
      (pss_one (ps_ret pe_non))))), ?_⟩
    walk_at "go"
    refine g_gtup hW rfl ?_
    walk_at "go"
    refine g_ite (fun h1 => ?_) (fun h1 => ?_)
    · have e : wordB lo hi b gap xs = some "late" := if_pos h1
      rw [e] at q
      walk_at "go"
      exact q
    walk_at "go"
    refine g_ite (fun h2 => ?_) (fun h2 => ?_)
    · walk_at "go"
      refine ⟨Wt, b, gap, xs, rfl, hWt, lp, b0, ?_⟩
      walk_at "go"
      cases hp : patd b gap xs with
      | true =>
        have e : wordB lo hi b gap xs = some "early" := (if_neg h1).trans (if_pos ⟨h2, hp⟩)
        rw [e] at q
        walk_at "go"
        exact q
      | false =>
        have e : wordB lo hi b gap xs = none := (if_neg h1).trans (if_neg (fun z => by rw [hp] at z; cases z.2))
        rw [e] at q
        walk_at "go"
        exact q
    · have e : wordB lo hi b gap xs = none := (if_neg h1).trans (if_neg (fun z => h2 z.1))
      rw [e] at q
      walk_at "go"
      exact q
end
end K13
namespace K13
open PySem PySem.Spec PyProof.Rows L2 Wd
theorem g_nget {P : Program} {w : World} {td ty : TE} {σ : L2.St} {H : Hp} {Q : VK} (h : td σ H fun x H1 => ty σ H1 fun y H2 => ∃ (k : NestedKey) (a d : Addr) (xs : List NKV) (v : V), y = .ref a ∧ x = .ref d ∧ H2 d = some (DNO P w d xs) ∧ NKeys H2 xs ∧ NestV H2 k (.ref a) ∧ k.depth ≤ 8 ∧ valN xs k = some v ∧ Q v H2) : tNGet P w td ty σ H Q := h
theorem g_revL {K : PySem.W.Frag} {te : TE} {σ : L2.St} {H : Hp} {Q : VK} (h : te σ H fun x H1 => ∃ a xs, x = .ref a ∧ SqL K H1 a xs ∧ ∀ p, H1 p = none → Q (.ref p) (upd H1 p (.lst xs.reverse))) : tRevL K te σ H Q := h
theorem w_lcRange2 {σ : L2.St} {H : Hp} {Q : VK} {g : TG} {tt : TT} {te : TE} {vs : List Nat} {lo n : Int} (h1 : -(2 ^ 62) ≤ lo ∧ lo < 2 ^ 62 ∧ -(2 ^ 62) ≤ n ∧ n < 2 ^ 62) (Pv : Addr → Nat → Hp → Prop) (h0 : ∀ D, H D = none → Pv D 0 (upd H D (.lst [])))
    (hs : ∀ D i H', H D = none → i < (n - lo).toNat → Pv D i H' → g (.int (lo + i)) (wipe σ vs) H' fun σ2 H2 => wipe σ2 vs = wipe σ vs ∧ tt σ2 H2 fun b H3 =>
      if b = true then te σ2 H3 fun y H4 => ∃ acc, H4 D = some (.lst acc) ∧ acc.length < sizeLine ∧ Pv D (i + 1) (upd H4 D (.lst (acc ++ [y]))) else Pv D (i + 1) H3) (hd : ∀ D H', H D = none → Pv D (n - lo).toNat H' → Q (.ref D) H') :
    ∃ i j : Int, [V.int lo, .int n] = [.int i, .int j] ∧ (-(2 ^ 62) ≤ i ∧ i < 2 ^ 62 ∧ -(2 ^ 62) ≤ j ∧ j < 2 ^ 62) ∧ LcEnd g tt te vs σ Q (Itr i (j - i).toNat) H :=
  ⟨lo, n, rfl, h1, fun D hD => lc_range (Pv D) (h0 D hD) (fun i H' hi p => hs D i H' hD hi p) (fun H' p => hd D H' hD p)⟩
theorem filter_snoc {α : Type} (p : α → Bool) (l : List α) (x : α) : (l ++ [x]).filter p = l.filter p ++ (if p x = true then [x] else []) := by
  rw [List.filter_append]
  congr 1
  by_cases h : p x = true
  · rw [if_pos h, List.filter_cons_of_pos h, List.filter_nil]
  · rw [if_neg h, List.filter_cons_of_neg h, List.filter_nil]
/-- steps in a list -/
structure StL (H : Hp) (D : Addr) (ps : List (Sta × Addr)) : Prop where
  at_ : H D = some (.lst (ps.map fun p => V.ref p.2))
  own : ∀ p ∈ ps, StV H p.1 p.2
theorem StL.same {H H' : Hp} {D : Addr} {ps : List (Sta × Addr)} (t : StL H D ps) (e : Same H H') : StL H' D ps := ⟨e _ _ t.at_, fun p hp => (t.own p hp).keep (keepT_same e)⟩
/-- new lists of numbers in a list -/
structure RowsI (H0 H : Hp) (D : Addr) (rs : List (Addr × List Int)) : Prop where
  at_ : H D = some (.lst (rs.map fun r => V.ref r.1))
  own : ∀ r ∈ rs, H r.1 = some (.lst (r.2.map V.int)) ∧ H0 r.1 = none
theorem RowsI.same {H0 H H' : Hp} {D : Addr} {rs : List (Addr × List Int)} (t : RowsI H0 H D rs) (e : Same H H') : RowsI H0 H' D rs := ⟨e _ _ t.at_, fun r hr => ⟨e _ _ (t.own r hr).1, (t.own r hr).2⟩⟩
theorem RowsI.put {H0 H : Hp} {D M : Addr} {rs : List (Addr × List Int)} {r : List Int} (t : RowsI H0 H D rs) (h : H M = some (.lst (r.map V.int))) (n : H0 M = none) (n2 : M ≠ D) (ne : ∀ y ∈ rs, y.1 ≠ D) : RowsI H0 (upd H D (.lst ((rs.map fun r => V.ref r.1) ++ [.ref M]))) D (rs ++ [(M, r)]) := by
  refine ⟨by rw [upd_same, List.map_append]; rfl, fun z hz => ?_⟩
  rw [List.mem_append, List.mem_singleton] at hz
  rcases hz with hz | rfl
  · exact ⟨by rw [upd_ne (ne z hz)]; exact (t.own z hz).1, (t.own z hz).2⟩
  · exact ⟨by rw [upd_ne n2]; exact h, n⟩
section
variable {P : Program} {w : World} {K : PySem.W.Frag} {mg : Str → Option Value} {base : Heap} {CW CT CB CM : Addr}
abbrev s_path_to : Stmt := top 27
theorem sc_path_to : FnScope ["ahead", "step", "path"] ["ahead", "step"] (C8.fnScope s_path_to) := C8.fnScope_by (by decide +kernel)
def sp_path_to (P : Program) (w : World) : Sp := fun vs H Q _ => ∃ (d a : Addr) (es : List AhE) (s : Sta) (p : List Sta), vs = [.ref d, .ref a] ∧ H d = some (DNO P w d (toN es)) ∧ AhOk H es ∧ (es.map (·.1)).Nodup ∧ StV H s a ∧ Anc es s p ∧ p.length ≤ 10000 ∧
  ∀ H' D ps, Same H H' → H D = none → StL H' D ps → ps.map (·.1) = p → Q (.ref D) H'
theorem ok_path_to (T : Txt K mg CW CT CB CM) {f : Addr} {fd : FuncData} (D : C8.Def K mg "path_to" s_path_to f fd) (b : Binds K fd ["ahead", "step"] []) : C8.Cal P w K mg base 1 "path_to" (sp_path_to P w) [] := by
  refine C8.cal0 D b .nil sc_path_to (fun vs H Q E h => ?_) fun cdv A outer s H vs Q E hr h => ?_
  · obtain ⟨d, a, es, s, p, rfl, _⟩ := h; rfl
  · obtain ⟨d, a, es, s0, p, rfl, hd, ah, nde, hs0, anc, pl, q⟩ := h
    have nd := sc_path_to.nd
    refine ⟨_, (pss_cons (ps_set (i := 2) nd rfl (Or.inl rfl) (pe_lst pa_nil))
      (pss_cons (ps_while PassesOwn.never (pt_cmpR op_notN1 (pv 1) pe_non (nomark _)) (pss_cons (ps_expr (pe_bmK (K := K) rfl PySem.F.plainAttrs_list PySem.F.slot_list_append PySem.F.type_list_append mt_append (pv 2) (pa_cons (pv 1) pa_nil)))
      (pss_one (ps_set (i := 1) nd rfl (Or.inl rfl) (pe_nget hr.units (pv 0) (pv 1) (fun _ _ => rfl))))))
      (pss_one (ps_ret (pe_revL (pv 2)))))), ?_⟩
    walk_at "go"
    intro PL hPL
    have s1 := same_new (o := .lst []) hPL
    have e1 := upd_same (H := H) (a := PL) (o := .lst [])
    generalize upd H PL (.lst []) = H1 at s1 e1
    walk_at "go"
    refine w_loop (fun n σ H' => ∃ (qs : List (Sta × Addr)) (v : V), σ = [some (.ref d), some v, some (.ref PL)] ∧ Same H H' ∧ StL H' PL qs ∧ qs.length ≤ 10000 ∧ ((v = .non ∧ qs.reverse.map (·.1) = p) ∨ ∃ s1 a1 p1, v = .ref a1 ∧ StV H s1 a1 ∧ Anc es s1 p1 ∧ p1 ++ qs.reverse.map (·.1) = p ∧ p1.length = n)) p.length ?_ ?_
    · exact ⟨[], _, rfl, s1, ⟨e1, fun x hx => nomatch hx⟩, Nat.zero_le _, .inr ⟨s0, a, p, rfl, hs0, anc, List.append_nil _, rfl⟩⟩
    · rintro n σ H2 ⟨qs, v, rfl, s2, st, ql, hv⟩
      walk_at "go"
      rcases hv with ⟨rfl, ep⟩ | ⟨s3, a3, p3, rfl, sv3, an3, ep, pn⟩
      · rw [decide_eq_true rfl]
        refine L2.iteF ?_
        walk_at "go"
        refine g_revL ?_
        walk_at "go"
        refine ⟨PL, _, rfl, SqL.of st.at_, fun D hD => ?_⟩
        have sD := same_new (o := .lst (qs.map fun p => V.ref p.2).reverse) hD
        refine q _ D qs.reverse (s2.trans sD) (Wd.Same.back s2 hD) ⟨by rw [upd_same, List.map_reverse], fun x hx => ((st.same sD).own x (List.mem_reverse.mp hx))⟩ ep
      · have nn : decide (V.ref a3 = V.non) = false := decide_eq_false (fun z => nomatch z)
        rw [nn]
        have p3l : 0 < p3.length := by cases an3 with
          | root => exact Nat.zero_lt_one
          | step => rw [List.length_append]; exact Nat.lt_add_left _ Nat.zero_lt_one
        have tot := congrArg List.length ep
        rw [List.length_append, List.length_map, List.length_reverse] at tot
        refine L2.iteT ⟨fun σ' H' => ∃ (qs : List (Sta × Addr)) (v : V), σ' = [some (.ref d), some v, some (.ref PL)] ∧ Same H H' ∧ StL H' PL qs ∧ qs.length ≤ 10000 ∧ ((v = .non ∧ qs.reverse.map (·.1) = p) ∨ ∃ s1 a1 p1, v = .ref a1 ∧ StV H s1 a1 ∧ Anc es s1 p1 ∧ p1 ++ qs.reverse.map (·.1) = p ∧ p1.length = n - 1), fun σ' H' h => ⟨n - 1, by omega, h⟩, ?_⟩
        walk_at "go"
        refine g_tyL st.at_ ?_
        walk_at "go"
        refine g_append st.at_ (by rw [List.length_map]; omega) ?_
        have s4 : Same H (upd H2 PL (.lst ((qs.map fun p => V.ref p.2) ++ [.ref a3]))) := Wd.Same.mut s2 hPL
        have st4 : StL (upd H2 PL (.lst ((qs.map fun p => V.ref p.2) ++ [.ref a3]))) PL (qs ++ [(s3, a3)]) := ⟨by rw [upd_same, List.map_append]; rfl, fun x hx => by
          rw [List.mem_append, List.mem_singleton] at hx
          rcases hx with hx | rfl
          · exact (st.own x hx).keep (keepT_lst st.at_)
          · exact sv3.keep (keepT_same s4)⟩
        generalize upd H2 PL (.lst ((qs.map fun p => V.ref p.2) ++ [.ref a3])) = H4 at s4 st4
        have rv : (qs ++ [(s3, a3)]).reverse.map (·.1) = s3 :: qs.reverse.map (·.1) := by rw [List.reverse_append]; rfl
        walk_at "go"
        refine g_nget ?_
        walk_at "go"
        have kt4 := keepT_same s4
        cases an3 with
        | @root _ a' hm =>
          refine ⟨stKey s3, a3, d, toN es, _, rfl, rfl, s4 _ _ hd, (ah.keep kt4).keys, (sv3.keep kt4).nest, stKey_depth _, toN_val nde hm, ?_⟩
          walk_at "go"
          exact ⟨_, _, rfl, s4, st4, by rw [List.length_append, List.length_singleton]; omega, .inl ⟨rfl, by rw [rv]; exact ep⟩⟩
        | @step _ a' s' a'' p' hm an' =>
          refine ⟨stKey s3, a3, d, toN es, _, rfl, rfl, s4 _ _ hd, (ah.keep kt4).keys, (sv3.keep kt4).nest, stKey_depth _, toN_val nde hm, ?_⟩
          walk_at "go"
          refine ⟨_, _, rfl, s4, st4, by rw [List.length_append, List.length_singleton]; omega, .inr ⟨s', a'', p', rfl, (ah _ hm).2 _ rfl, an', by rw [rv, ← ep, List.append_assoc]; rfl, ?_⟩⟩
          rw [List.length_append, List.length_singleton] at pn
          omega

abbrev s_reports_along : Stmt := top 28
theorem sc_reports_along : FnScope ["tasks", "path", "reports", "at", "moment"] ["tasks", "path"] (C8.fnScope s_reports_along) := C8.fnScope_by (by decide +kernel)
def sp_reports (K : PySem.W.Frag) : Sp := fun vs H Q _ => ∃ (L PP : Addr) (zs : List Wk) (ps : List (Sta × Addr)), vs = [.ref L, .ref PP] ∧ WkL H L zs ∧ zs.length ≤ 4 ∧ StL H PP ps ∧ (∀ p ∈ ps, p.1.2.length = zs.length) ∧ 1 ≤ ps.length ∧ ps.length ≤ 10000 ∧
  ∀ H' D rs, Same H H' → H D = none → RowsI H H' D rs → rs.map (·.2) = repsOf (ps.map (·.1)) zs.length → Q (.ref D) H'
theorem ok_reports (T : Txt K mg CW CT CB CM) {f : Addr} {fd : FuncData} (D : C8.Def K mg "reports_along" s_reports_along f fd) (b : Binds K fd ["tasks", "path"] []) : C8.Cal P w K mg base 1 "reports_along" (sp_reports K) [] := by
  refine C8.cal0 D b .nil sc_reports_along (fun vs H Q E h => ?_) fun cdv A outer s H vs Q E hr h => ?_
  · obtain ⟨L, PP, zs, ps, rfl, _⟩ := h; rfl
  · obtain ⟨L, PP, zs, ps, rfl, wk, l4, st, len, pl1, pl, q⟩ := h
    have nd := sc_reports_along.nd
    refine ⟨_, (pss_cons (ps_set (i := 2) nd rfl (Or.inl rfl) (pe_lst pa_nil))
      (pss_cons (ps_for PassesOwn.never rfl (pi_range1 rfl T.n_range (pa_cons (pe_callB (r := Wd.rLen K) call_len1 (by rfl) T.n_len PySem.boot_len (pa_cons (pv 0) pa_nil)) pa_nil)) (pg_name (i := 3) nd rfl (Or.inr rfl)) (pss_one (ps_expr (pe_bmK (K := K) rfl PySem.F.plainAttrs_list PySem.F.slot_list_append PySem.F.type_list_append mt_append (pv 2) (pa_cons (pe_lc (own := [("moment", 4)]) (g := gName 4) rfl nd (pi_range2 rfl T.n_range (pa_cons pe_int (pa_cons (pe_callB (r := Wd.rLen K) call_len1 (by rfl) T.n_len PySem.boot_len (pa_cons (pv 1) pa_nil)) pa_nil))) (blkOk_by (N := ["tasks", "path", "reports", "at", "moment"]) (sc := C8.fnScope s_reports_along) (by decide +kernel)) (fun _ _ _ _ _ => pg_name (i := 4) nd rfl (Or.inl rfl)) (fun _ _ _ _ _ => pts_one (pt_cmpR op_eq (pe_ix (r := rIxT K) ix_tup (pe_ix (r := rIxT K) ix_tup (pe_ix (r := rIxL K) ix_list (pv 1) (pv 4) (fun _ _ => rfl)) pe_int (fun _ _ => rfl)) (pv 3) (fun _ _ => rfl)) pe_int (nomark _))) (fun _ _ _ _ _ => (pv 4))) pa_nil)))))
      (pss_one (ps_ret (pv 2))))), ?_⟩
    walk_at "go"
    intro RL hRL
    have s1 := same_new (o := .lst []) hRL
    have r1 : RowsI H (upd H RL (.lst [])) RL [] := ⟨upd_same, fun x hx => nomatch hx⟩
    generalize upd H RL (.lst []) = H1 at s1 r1
    walk_at "go"
    refine g_len (.inl (SqL.of (s1 _ _ wk.at_))) ?_
    walk_at "go"
    rw [List.length_map]
    refine w_range (by omega) (by omega) (fun i σ H' => ∃ (rs : List (Addr × List Int)) (v3 v4 : Option V), σ = [some (.ref L), some (.ref PP), some (.ref RL), v3, v4] ∧ Same H H' ∧ RowsI H H' RL rs ∧ (∀ y ∈ rs, y.1 ≠ RL) ∧ rs.map (·.2) = (List.range i).map fun j => repAt (ps.map (·.1)) j (ps.length - 1)) ?_ ?_ ?_
    · exact ⟨[], _, _, rfl, s1, r1, fun y hy => (nomatch hy), rfl⟩
    · rintro i σ H2 hi ⟨rs, v3, v4, rfl, s2, rl, nr, er⟩
      have il : i < zs.length := by omega
      have rlen : rs.length ≤ 4 := by
        have := congrArg List.length er
        rw [List.length_map, List.length_map, List.length_range] at this
        omega
      walk_at "go"
      refine g_tyL rl.at_ ?_
      walk_at "go"
      refine g_len (.inl (SqL.of (s2 _ _ st.at_))) ?_
      walk_at "go"
      rw [List.length_map]
      refine w_lcRange2 (by omega) (fun D j H' => Same H2 H' ∧ H' D = some (.lst ((repAt (ps.map (·.1)) i j).map V.int))) (fun D hD => ⟨same_new hD, upd_same⟩) (fun D j H3 hD hj h => ?_) (fun D H3 hD h => ?_)
      · have jl : 1 + j < ps.length := by omega
        have hp : ps[1 + j]? = some ps[1 + j] := List.getElem?_eq_getElem jl
        generalize ps[1 + j] = pa at hp
        obtain ⟨s5, a5⟩ := pa
        have pm := List.mem_of_getElem? hp
        have s23 := s2.trans h.1
        obtain ⟨c, g1, g2⟩ := (st.own _ pm).keep (keepT_same s23)
        have ll : s5.2.length = zs.length := len _ pm
        have hx : s5.2[i]? = some s5.2[i] := List.getElem?_eq_getElem (by omega)
        have hst : staAt (ps.map (·.1)) (j + 1) = s5 := by
          unfold staAt
          have : (ps.map (·.1))[j + 1]? = some s5 := by rw [Nat.add_comm j 1, List.getElem?_map, hp]; rfl
          rw [this]; rfl
        have ex : repAt (ps.map (·.1)) i (j + 1) = repAt (ps.map (·.1)) i j ++ if s5.2[i] = 0 then [((j + 1 : Nat) : Int)] else [] := by
          unfold repAt
          rw [List.range_succ, filter_snoc, List.map_append, hst, hx]
          congr 1
          by_cases c : s5.2[i] = 0
          · rw [if_pos c, if_pos (decide_eq_true (by rw [c]))]; rfl
          · rw [if_neg c, if_neg (by rw [decide_eq_true_iff]; exact fun z => c (Option.some.inj z))]; rfl
        have rl0 : (repAt (ps.map (·.1)) i j).length ≤ j := by
          unfold repAt
          rw [List.length_map]
          have := List.length_filter_le (fun k => decide ((staAt (ps.map (·.1)) (k + 1)).2[i]? = some 0)) (List.range j)
          rw [List.length_range] at this
          exact this
        have e2 : (1 : Int) + (j : Int) = ((j + 1 : Nat) : Int) := by omega
        have e3 : ((j + 1 : Nat) : Int) = ((1 + j : Nat) : Int) := by omega
        rw [e2]
        walk_at "go"
        refine ⟨rfl, ?_⟩
        walk_at "go"
        refine g_ixL (v := V.ref a5) (SqL.of (s23 _ _ st.at_)) (at_of (j := 1 + j) e3 (by rw [List.getElem?_map, hp]; rfl)) ?_
        walk_at "go"
        refine g_ixT (v := V.ref c) (SqT.of g1) rfl ?_
        walk_at "go"
        refine g_ixT (v := V.int s5.2[i]) (SqT.of g2) (at_of (j := i) rfl (by rw [List.getElem?_map, hx]; rfl)) ?_
        walk_at "go"
        by_cases c0 : s5.2[i] = 0
        · rw [if_pos c0] at ex
          rw [decide_eq_true c0]
          walk_at "go"
          exact ⟨_, h.2, by rw [sizeLine_eq, List.length_map]; omega, Wd.Same.mut h.1 hD, by rw [upd_same, ex, List.map_append]; rfl⟩
        · rw [if_neg c0, List.append_nil] at ex
          rw [decide_eq_false c0]
          walk_at "go"
          exact ⟨h.1, by rw [ex]; exact h.2⟩
      · have en : (((ps.length : Nat) : Int) - 1).toNat = ps.length - 1 := by omega
        rw [en] at h
        obtain ⟨s3, e3⟩ := h
        have nD := Wd.Same.back s2 hD
        have nDR : D ≠ RL := (ne_of_none rl.at_ hD).symm
        have rl3 := rl.same s3
        walk_at "go"
        refine g_append rl3.at_ (by rw [List.length_map]; omega) ?_
        walk_at "go"
        refine ⟨rs ++ [(D, repAt (ps.map (·.1)) i (ps.length - 1))], _, _, rfl, Wd.Same.mut (s2.trans s3) hRL, rl3.put e3 nD nDR nr, fun y hy => ?_, ?_⟩
        · rw [List.mem_append, List.mem_singleton] at hy
          rcases hy with hy | rfl
          · exact nr y hy
          · exact nDR
        · rw [List.map_append, er, List.range_succ, List.map_append]; rfl
    · rintro σ H2 ⟨rs, v3, v4, rfl, s2, rl, nr, er⟩
      have en : ((zs.length : Nat) : Int).toNat = zs.length := by omega
      rw [en] at er
      walk_at "go"
      refine q H2 RL rs s2 hRL rl ?_
      rw [er]
      unfold repsOf
      rw [List.length_map]
end
end K13
namespace K13
open PySem PySem.Spec PyProof.Rows L2 Wd
local macro_rules | `(tactic| walk_at "gs") => `(tactic| repeat (first
  | with_reducible refine Wd.g_seq ?_
  | ((with_reducible show Ends.nx _ _ _); (with_reducible refine Wd.g_nx ?_))
  | with_reducible refine Wd.g_asg ?_
  | ((with_reducible refine' Wd.g_var ?h1 ?_); (case h1 => exact rfl))
  | with_reducible refine Wd.g_c ?_
  | with_reducible refine Wd.g_op ?_
  | with_reducible refine Wd.g_un ?_
  | with_reducible refine Wd.g_I0 ?_
  | with_reducible refine Wd.g_U ?_
  | with_reducible refine Wd.g_eqI ?_
  | with_reducible refine Wd.g_neI ?_
  | with_reducible refine Wd.g_eqS ?_
  | with_reducible refine Wd.g_neS ?_
  | with_reducible refine Wd.g_eqB ?_
  | with_reducible refine Wd.g_neB ?_
  | with_reducible refine Wd.g_isN ?_
  | with_reducible refine Wd.g_notN ?_
  | with_reducible refine Wd.g_lc ?_
  | with_reducible refine Wd.g_yes ?_
  | with_reducible refine Wd.g_test ?_
  | with_reducible refine Wd.g_tB ?_
  | with_reducible refine Wd.g_bl ?_
  | with_reducible refine Wd.g_blI ?_
  | with_reducible refine Wd.g_and ?_
  | with_reducible refine Wd.g_or ?_
  | with_reducible refine Wd.g_not ?_
  | with_reducible refine Wd.g_andV ?_
  | with_reducible refine Wd.g_orV ?_
  | with_reducible refine Wd.g_notV ?_
  | with_reducible refine Wd.g_if ?_
  | with_reducible refine Wd.g_chain ?_
  | with_reducible refine Wd.g_chain3 ?_
  | with_reducible refine Wd.g_nil ?_
  | with_reducible refine Wd.g_cons ?_
  | with_reducible refine Wd.g_tup ?_
  | with_reducible refine Wd.g_lst ?_
  | with_reducible refine Wd.g_CB ?_
  | with_reducible refine Wd.g_call ?_
  | with_reducible refine Wd.g_callS ?_
  | with_reducible refine Wd.g_bm ?_
  | with_reducible refine Wd.g_bm0 ?_
  | with_reducible refine Wd.g_sl ?_
  | with_reducible refine Wd.g_part ?_
  | with_reducible refine Wd.g_part1 ?_
  | with_reducible refine Wd.g_noPart ?_
  | with_reducible refine Wd.g_next ?_
  | with_reducible refine Wd.g_name ?_
  | with_reducible refine Wd.g_sub ?_
  | with_reducible refine Wd.g_gnil ?_
  | with_reducible refine Wd.g_gcons ?_
  | with_reducible refine Wd.g_drop ?_
  | with_reducible refine Wd.g_ret ?_
  | with_reducible refine Wd.g_retN ?_
  | with_reducible refine Wd.g_brk ?_
  | with_reducible refine Wd.g_cont ?_
  | ((with_reducible show Ends.bk _ _ _); (with_reducible refine Wd.g_bk ?_))
  | ((with_reducible show Ends.ct _ _ _); (with_reducible refine Wd.g_ct ?_))
  | ((with_reducible show Ends.rt _ _ _); (with_reducible refine Wd.g_rt ?_))
  | with_reducible refine Wd.g_for ?_
  | with_reducible refine Wd.g_rng1 ?_
  | with_reducible refine Wd.g_rng2 ?_
  | with_reducible refine Wd.g_iList ?_
  | with_reducible refine Wd.g_iTup ?_
  | ((with_reducible refine Wd.g_fit ?h1 ?_); (case h1 => exact rfl))
  | with_reducible refine Wd.g_max2 ?_
  | with_reducible refine Wd.g_min2 ?_
  | with_reducible refine Wd.g_int1B ?_
  | with_reducible refine L2.iteT ?_
  | with_reducible refine L2.iteF ?_
  | ((with_reducible refine Wd.g_itT ?h1 ?_); (case h1 => exact rfl))
  | ((with_reducible refine Wd.g_itF ?h1 ?_); (case h1 => exact rfl))))
theorem g_join {t : TT} {a b : TS} {σ : L2.St} {H : Hp} {N : L2.St → Hp → Prop} {rt : VK} {bk ct : L2.St → Hp → Prop} (P : L2.St → Hp → Prop) (key : ∀ σ H, P σ H → N σ H) (h : ∀ N' : L2.St → Hp → Prop, (∀ σ H, P σ H → N' σ H) → tIfS t a b ⟨N', rt, bk, ct⟩ σ H) : tIfS t a b ⟨N, rt, bk, ct⟩ σ H := h N key
theorem g_ndisp {P : Program} {w : World} {tk tv : TE} {σ : L2.St} {H : Hp} {Q : VK} (h : ∀ d, H d = none → tk σ (upd H d (DNO P w d [])) fun x H1 => tv σ H1 fun v H2 => ∃ (k : NestedKey) (a : Addr), x = .ref a ∧ H2 d = some (DNO P w d []) ∧ NestV H2 k (.ref a) ∧ k.depth ≤ 8 ∧ Q (.ref d) (upd H2 d (DNO P w d [(k, a, v)]))) : tNDisp P w tk tv σ H Q := h
theorem g_nput {P : Program} {w : World} {td ty tv : TE} {σ : L2.St} {H : Hp} {a : L2.St → Hp → Prop} {b : VK} {c d : L2.St → Hp → Prop} (h : tv σ H fun v H1 => td σ H1 fun x H2 => ty σ H2 fun y H3 => ∃ (k : NestedKey) (q p : Addr) (xs : List NKV), y = .ref q ∧ x = .ref p ∧ H3 p = some (DNO P w p xs) ∧ NKeys H3 xs ∧ NestV H3 k (.ref q) ∧ k.depth ≤ 8 ∧ hasN xs k = false ∧ xs.length < sizeLine ∧
  a σ (upd H3 p (DNO P w p (xs ++ [(k, q, v)])))) : sNPut P w td ty tv ⟨a, b, c, d⟩ σ H := h
theorem dno_lst {P : Program} {w : World} {d : Addr} {xs : List NKV} {ys : List V} (z : DNO P w d xs = .lst ys) : False := by unfold DNO at z; cases z
theorem dno_tup {P : Program} {w : World} {d : Addr} {xs : List NKV} {ys : List V} (z : DNO P w d xs = .tup ys) : False := by unfold DNO at z; cases z
theorem keepT_dno {P : Program} {w : World} {H : Hp} {d : Addr} {xs : List NKV} {o : HO} (h : H d = some (DNO P w d xs)) : KeepT H (upd H d o) := fun b ys e => by
  rw [upd_ne (fun z => by rw [z, h] at e; exact dno_tup (Option.some.inj e))]; exact e
theorem g_repZ {K : PySem.W.Frag} {l : Addr} {k : Nat} {H : Hp} {Q : VK} (h : H l = some (.tup [.int 0])) (h1 : 1 ≤ k) (h2 : k ≤ 1000) (q : ∀ H' c, Same H H' → H' c = some (.tup ((List.replicate k (0 : Int)).map V.int)) → Q (.ref c) H') : rRepU K (.ref l) (.int (k : Int)) H Q := by
  refine ⟨l, k, [.int 0], rfl, rfl, SqT.of h, List.cons_ne_nil _ _, by omega, by omega, by show 1 ≤ 1000; decide, fun e => ?_, fun _ p hp => ?_⟩
  · have : k = 1 := by omega
    subst this
    exact q H l (fun _ _ z => z) h
  · refine q _ p (same_new hp) ?_
    rw [upd_same, List.map_replicate]
    have : ((k : Nat) : Int).toNat = k := by omega
    rw [this]
    have fl : ∀ n : Nat, (List.replicate n [V.int 0]).flatten = List.replicate n (V.int 0) := fun n => by
      induction n with
      | zero => rfl
      | succ n ih => rw [List.replicate_succ, List.flatten_cons, ih]; rfl
    rw [fl]
theorem pth_wid {lo hi b : Int} {ts : List Tp} {p : List Sta} {s : Sta} (h : Pth lo hi b ts p s) : ∀ x ∈ p, x.2.length = ts.length := by
  induction h with
  | zero =>
    intro x hx
    rw [List.mem_singleton] at hx
    subst hx
    exact List.length_replicate ..
  | @succ p s ws _ hf _ ih =>
    intro x hx
    rw [List.mem_append, List.mem_singleton] at hx
    rcases hx with hx | rfl
    · exact ih x hx
    · rw [foll_two]; exact fol_len hf
section
variable {P : Program} {w : World} {K : PySem.W.Frag} {mg : Str → Option Value} {base : Heap} {CW CT CB CM : Addr}
abbrev s_steady : Stmt := top 29
theorem sc_steady : FnScope ["window", "beat", "tasks", "start", "ahead", "steps", "later", "step", "gap", "waits", "word", "path", "following"] ["window", "beat", "tasks"] (C8.fnScope s_steady) := C8.fnScope_by (by decide +kernel)
def Least (lo hi b : Int) (ts : List Tp) (n : Nat) : Prop := ∀ m s ws, Reach lo hi b ts m s → m + 1 < n → Fol ts s.2 ws → wordB lo hi b (s.1 + 1) ws = none
def sp_steady (K : PySem.W.Frag) (CW CT CB CM : Addr) : Sp := fun vs H Q E => ∃ (W L : Addr) (lo hi b : Int) (zs : List Wk), vs = [.ref W, .int b, .ref L] ∧ SqT K H W [.int lo, .int hi] ∧ WkL H L zs ∧
  (¬ okW lo hi → E (.ref CW) none H) ∧ (okW lo hi → ¬ okB b → E (.ref CT) none H) ∧ (okW lo hi → okB b → ¬ okT zs → E (.ref CB) none H) ∧ (okW lo hi → okB b → okT zs → ¬ okM hi b zs → ∀ H', Same H H' → E (.ref CM) none H') ∧
  (okW lo hi → okB b → okT zs → okM hi b zs →
    (Steady lo hi b (zs.map (·.2)) → ∀ H' t, Same H H' → H t = none → H' t = some (.tup [.str "steady"]) → Q (.ref t) H') ∧
    ∀ p s ws wd, Pth lo hi b (zs.map (·.2)) p s → Fol (zs.map (·.2)) s.2 ws → wordB lo hi b (s.1 + 1) ws = some wd → Least lo hi b (zs.map (·.2)) p.length → p.length ≤ 9999 → ∀ H' t R B rs, Same H H' → H t = none → H' t = some (.tup [.str "bitten", .ref R, .ref B]) → RowsI H H' R rs → H R = none → rs.map (·.2) = repsOf (p ++ [(s.1 + 1, ws)]) zs.length → H' B = some (.tup [.int p.length, .str wd]) → Q (.ref t) H')
theorem ok_steady (T : Txt K mg CW CT CB CM) {f : Addr} {fd : FuncData} (D : C8.Def K mg "steady" s_steady f fd) (b : Binds K fd ["window", "beat", "tasks"] []) (g_check_window : CalX P w K mg base 3 "check_window" (sp_check_window K CW)) (g_check_beat : CalX P w K mg base 2 "check_beat" (sp_check_beat CT)) (g_check_tasks : CalX P w K mg base 3 "check_tasks" (sp_check_tasks CB))
    (g_check_searched : CalX P w K mg base 1 "check_searched" (sp_check_searched K CM)) (g_all_waits_behind : C8.Cal P w K mg base 2 "all_waits_behind" (sp_all_waits K) []) (g_bite_word : C8.Cal P w K mg base 2 "bite_word" (sp_bite_word K) []) (g_is_patted : C8.Cal P w K mg base 1 "is_patted" (sp_is_patted K) [])
    (g_path_to : C8.Cal P w K mg base 1 "path_to" (sp_path_to P w) []) (g_reports_along : C8.Cal P w K mg base 1 "reports_along" (sp_reports K) []) : CalX P w K mg base 4 "steady" (sp_steady K CW CT CB CM) := by
  refine calX D b sc_steady (fun vs H Q E h => ?_) fun cdv A outer s H vs Q E hr h => ?_
  · obtain ⟨W, L, lo, hi, b, zs, rfl, _⟩ := h; rfl
  · obtain ⟨W, L, lo, hi, b, zs, rfl, hW, wk, e1, e2, e3, e4, q⟩ := h
    have nd := sc_steady.nd
    refine ⟨_, (pss_cons (ps_expr (pe_cX g_check_window hr (by first | decide | exact Nat.le_refl _ | omega) (by rfl) (fun σ => passAt (takes_of rfl rfl rfl rfl) σ) (pa_cons (pv 0) pa_nil)))
      (pss_cons (ps_expr (pe_cX g_check_beat hr (by first | decide | exact Nat.le_refl _ | omega) (by rfl) (fun σ => passAt (takes_of rfl rfl rfl rfl) σ) (pa_cons (pv 1) pa_nil)))
      (pss_cons (ps_expr (pe_cX g_check_tasks hr (by first | decide | exact Nat.le_refl _ | omega) (by rfl) (fun σ => passAt (takes_of rfl rfl rfl rfl) σ) (pa_cons (pv 2) pa_nil)))
      (pss_cons (ps_expr (pe_cX g_check_searched hr (by first | decide | exact Nat.le_refl _ | omega) (by rfl) (fun σ => passAt (takes_of rfl rfl rfl rfl) σ) (pa_cons (pv 0) (pa_cons (pv 1) (pa_cons (pv 2) pa_nil)))))
      (pss_cons (ps_set (i := 3) nd rfl (Or.inl rfl) (pe_tup (pa_cons pe_int (pa_cons (pe_op (r := rRepU K) op_repU (pe_tup (pa_cons pe_int pa_nil)) (pe_callB (r := Wd.rLen K) call_len1 (by rfl) T.n_len PySem.boot_len (pa_cons (pv 2) pa_nil))) pa_nil))))
      (pss_cons (ps_set (i := 4) nd rfl (Or.inl rfl) (pe_ndisp hr.units (pv 3) pe_non))
      (pss_cons (ps_set (i := 5) nd rfl (Or.inl rfl) (pe_lst (pa_cons (pv 3) pa_nil)))
      (pss_cons (ps_while (passes_of rfl) (pt_truth (pv 5) (by intro _; rfl)) (pss_cons (ps_set (i := 6) nd rfl (Or.inl rfl) (pe_lst pa_nil))
      (pss_cons (ps_for (passes_of rfl) rfl (pi_list (pv 5)) (pg_name (i := 7) nd rfl (Or.inl rfl)) (pss_cons (ps_set (i := 8) nd rfl (Or.inl rfl) (pe_op op_add (pe_ix (r := rIxT K) ix_tup (pv 7) pe_int (fun _ _ => rfl)) pe_int))
      (pss_one (ps_for (passes_of rfl) rfl (pi_list (C8.pe_c g_all_waits_behind hr (by first | decide | exact Nat.le_refl _ | omega) (by rfl) (pa_cons (pv 2) (pa_cons (pe_ix (r := rIxT K) ix_tup (pv 7) pe_int (fun _ _ => rfl)) pa_nil)))) (pg_name (i := 9) nd rfl (Or.inl rfl)) (pss_cons (ps_set (i := 10) nd rfl (Or.inl rfl) (C8.pe_c g_bite_word hr (by first | decide | exact Nat.le_refl _ | omega) (by rfl) (pa_cons (pv 0) (pa_cons (pv 1) (pa_cons (pv 8) (pa_cons (pv 9) pa_nil))))))
      (pss_cons (ps_if (pt_cmpR op_notN1 (pv 10) pe_non (nomark _)) (pss_cons (ps_set (i := 11) nd rfl (Or.inl rfl) (pe_op op_cat (C8.pe_c g_path_to hr (by first | decide | exact Nat.le_refl _ | omega) (by rfl) (pa_cons (pv 4) (pa_cons (pv 7) pa_nil))) (pe_lst (pa_cons (pe_tup (pa_cons (pv 8) (pa_cons (pv 9) pa_nil))) pa_nil))))
      (pss_one (ps_ret (pe_tup (pa_cons pe_str (pa_cons (C8.pe_c g_reports_along hr (by first | decide | exact Nat.le_refl _ | omega) (by rfl) (pa_cons (pv 2) (pa_cons (pv 11) pa_nil))) (pa_cons (pe_tup (pa_cons (pe_op op_sub (pe_callB (r := Wd.rLen K) call_len1 (by rfl) T.n_len PySem.boot_len (pa_cons (pv 11) pa_nil)) pe_int) (pa_cons (pv 10) pa_nil))) pa_nil))))))) pss_nil)
      (pss_cons (ps_set (i := 12) nd rfl (Or.inl rfl) (pe_tup (pa_cons (pv 8) (pa_cons (pv 9) pa_nil))))
      (pss_cons (ps_if (pt_val (C8.pe_c g_is_patted hr (by first | decide | exact Nat.le_refl _ | omega) (by rfl) (pa_cons (pv 1) (pa_cons (pv 8) (pa_cons (pv 9) pa_nil))))) (pss_one (ps_set (i := 12) nd rfl (Or.inl rfl) (pe_tup (pa_cons pe_int (pa_cons (pv 9) pa_nil))))) pss_nil)
      (pss_one (ps_if (pt_cmpR (r := rNIn P w true) (op_nnotin hr.units) (pv 12) (pv 4) (by with_unfolding_all rfl)) (pss_cons (ps_nput hr.units (pv 4) (pv 12) (pv 7) rfl)
      (pss_one (ps_expr (pe_bmK (K := K) rfl PySem.F.plainAttrs_list PySem.F.slot_list_append PySem.F.type_list_append mt_append (pv 6) (pa_cons (pv 12) pa_nil))))) pss_nil))))))))))
      (pss_one (ps_set (i := 5) nd rfl (Or.inl rfl) (pv 6))))))
      (pss_one (ps_ret (pe_tup (pa_cons pe_str pa_nil)))))))))))), ?_⟩
    walk_at "go"
    refine ⟨W, lo, hi, rfl, hW, fun okw => ?_, fun bad => e1 bad⟩
    walk_at "go"
    refine ⟨b, rfl, fun okb => ?_, fun bad => e2 okw bad⟩
    walk_at "go"
    refine ⟨L, zs, rfl, wk, fun okt => ?_, fun bad => e3 okw okb bad⟩
    walk_at "go"
    refine ⟨W, L, lo, hi, b, zs, rfl, hW, wk, okt.1, okt.2.1, fun okm H1 s1 => ?_, fun bad H1 s1 => e4 okw okb okt bad H1 s1⟩
    obtain ⟨q1, q2⟩ := q okw okb okt okm
    clear q e1 e2 e3 e4
    generalize hts : zs.map (·.2) = ts at q1 q2
    have tl : ts.length = zs.length := by rw [← hts, List.length_map]
    have wft : WfT ts := fun t ht => by
      rw [← hts] at ht
      obtain ⟨z, hz, rfl⟩ := List.mem_map.mp ht
      exact ⟨(okt.2.2 z hz).1, (okt.2.2 z hz).2.1, okm.2.1 z hz⟩
    have k2 := okm.1
    have k1 := okt.1
    have b0 : 0 < b := by have := okb.1; omega
    have h0 : 0 ≤ hi := by have := okw.1; have := okw.2.1; omega
    have h24 := okm.2.2.2
    walk_at "go"
    intro t0 ht0
    have s2 := s1.trans (same_new (o := .tup [.int 0]) ht0)
    have e0 := upd_same (H := H1) (a := t0) (o := .tup [.int 0])
    generalize upd H1 t0 (.tup [.int 0]) = H2 at s2 e0
    walk_at "go"
    refine g_len (.inl (SqL.of (s2 _ _ wk.at_))) ?_
    rw [List.length_map]
    refine g_repZ e0 k1 (by omega) fun H3 c s23 e3 => ?_
    have s3 := s2.trans s23
    walk_at "go"
    intro t4 ht4
    have s4 := s3.trans (same_new (o := .tup [.int 0, .ref c]) ht4)
    have st4 : StV (upd H3 t4 (.tup [.int 0, .ref c])) (start0 ts) t4 := ⟨c, upd_same, by rw [upd_ne (ne_of_none e3 ht4)]; unfold start0; rw [tl]; exact e3⟩
    generalize upd H3 t4 (.tup [.int 0, .ref c]) = H4 at s4 st4
    clear e0 s2 s23 s3 e3 ht4 ht0 s1 H1 H2 H3
    walk_at "go"
    refine g_ndisp (P := P) (w := w) fun d hd => ?_
    have nd0 := Wd.Same.back s4 hd
    have s5 := s4.trans (same_new (o := DNO P w d []) hd)
    have st5 := st4.keep (keepT_new (o := DNO P w d []) hd)
    have ed5 := upd_same (H := H4) (a := d) (o := DNO P w d [])
    generalize upd H4 d (DNO P w d []) = H5 at s5 st5 ed5
    walk_at "go"
    refine ⟨stKey (start0 ts), t4, rfl, ed5, st5.nest, stKey_depth _, ?_⟩
    have s6 : Same H (upd H5 d (DNO P w d [(stKey (start0 ts), t4, V.non)])) := Wd.Same.mut s5 nd0
    have st6 := st5.keep (keepT_dno (o := DNO P w d [(stKey (start0 ts), t4, V.non)]) ed5)
    have ed6 : upd H5 d (DNO P w d [(stKey (start0 ts), t4, V.non)]) d = some (DNO P w d (toN [(start0 ts, t4, none)])) := upd_same
    generalize upd H5 d (DNO P w d [(stKey (start0 ts), t4, V.non)]) = H6 at s6 st6 ed6
    clear s5 st5 ed5 s4 st4 hd H4 H5
    walk_at "go"
    intro SL hSL
    have s7 := same_new (o := .lst [V.ref t4]) hSL
    have ed7 := s7 _ _ ed6
    have st7 := st6.keep (keepT_same s7)
    have sl7 : StL (upd H6 SL (.lst [V.ref t4])) SL [(start0 ts, t4)] := ⟨upd_same, fun p hp => by
      rw [List.mem_singleton] at hp; subst hp; exact st7⟩
    have nSL := Wd.Same.back s6 hSL
    have s07 := s6.trans s7
    generalize upd H6 SL (.lst [V.ref t4]) = H7 at s7 ed7 st7 sl7 s07
    clear s6 s7 st6 ed6 hSL H6
    walk_at "go"
    refine w_loop (fun m σ H' => ∃ (n : Nat) (es : List AhE) (Sa : List (Sta × Addr)) (SL : Addr) (v6 v7 v8 v9 v10 v11 v12 : Option V), σ = [some (.ref W), some (.int b), some (.ref L), some (.ref t4), some (.ref d), some (.ref SL), v6, v7, v8, v9, v10, v11, v12] ∧ Same H H' ∧ H' d = some (DNO P w d (toN es)) ∧ AhOk H' es ∧ StL H' SL Sa ∧ Bfs lo hi b ts n es (Sa.map (·.1)) ∧ H SL = none ∧ (Sa ≠ [] → n + 1 ≤ es.length) ∧ m = 2 * (1600 - es.length) + if Sa = [] then 0 else 1) (2 * (1600 - 1) + 1) ?_ ?_
    · exact ⟨0, [(start0 ts, t4, none)], [(start0 ts, t4)], SL, _, _, _, _, _, _, _, rfl, s07, ed7, fun e he => (by
        rw [List.mem_singleton] at he; subst he
        exact ⟨st7, fun p z => nomatch z⟩), sl7, bfs_start, nSL, fun _ => Nat.le_refl 1, rfl⟩
    clear s07 ed7 st7 sl7 nSL SL H7
    rintro m σ H1 ⟨n, es, Sa, SL, v6, v7, v8, v9, v10, v11, v12, rfl, s1, ed1, ah1, sl1, B, nSL, nes, hm⟩
    have es16 := known_len h0 h24 wft (by omega) B.nd B.anc
    walk_at "go"
    by_cases hSa : Sa = []
    · subst hSa
      refine ⟨false, .inl ⟨[], SqL.of sl1.at_, rfl⟩, ?_⟩
      walk_at "go"
      intro t ht
      exact q1 (bfs_steady B) _ t (s1.trans (same_new ht)) (Wd.Same.back s1 ht) upd_same
    have em : (Sa.map fun p => V.ref p.2) ≠ [] := fun z => hSa (List.map_eq_nil_iff.mp z)
    have n1 := nes hSa
    refine ⟨true, .inl ⟨_, SqL.of sl1.at_, by cases Sa with
      | nil => exact absurd rfl hSa
      | cons _ _ => rfl⟩, ?_⟩
    refine L2.iteT ⟨fun σ' H' => ∃ (es' : List AhE) (Sa' : List (Sta × Addr)) (SL : Addr) (v6 v7 v8 v9 v10 v11 v12 : Option V), σ' = [some (.ref W), some (.int b), some (.ref L), some (.ref t4), some (.ref d), some (.ref SL), v6, v7, v8, v9, v10, v11, v12] ∧ Same H H' ∧ H' d = some (DNO P w d (toN es')) ∧ AhOk H' es' ∧ StL H' SL Sa' ∧ Bfs lo hi b ts (n + 1) es' (Sa'.map (·.1)) ∧ H SL = none ∧ es'.length = es.length + Sa'.length, ?_, ?_⟩
    · rintro σ' H' ⟨es', Sa', SL', w6, w7, w8, w9, w10, w11, w12, r1, r2, r3, r4, r5, r6, r7, r8⟩
      have le := known_len h0 h24 wft (by omega) r6.nd r6.anc
      refine ⟨2 * (1600 - es'.length) + if Sa' = [] then 0 else 1, ?_, n + 1, es', Sa', SL', w6, w7, w8, w9, w10, w11, w12, r1, r2, r3, r4, r5, r6, r7, fun hn => ?_, rfl⟩
      · rw [if_neg hSa] at hm
        by_cases c : Sa' = []
        · rw [if_pos c]
          rw [c] at r8
          have : es'.length = es.length := r8
          omega
        · rw [if_neg c]
          have := List.length_pos_iff.mpr c
          omega
      · have := List.length_pos_iff.mpr hn
        omega
    walk_at "go"
    intro LL hLL
    have s2 := same_new (o := .lst []) hLL
    have nLS : SL ≠ LL := ne_of_none sl1.at_ hLL
    have nLL := Wd.Same.back s1 hLL
    have ll2 : StL (upd H1 LL (.lst [])) LL [] := ⟨upd_same, fun p hp => nomatch hp⟩
    have s02 := s1.trans s2
    have ed2 := s2 _ _ ed1
    have ah2 := ah1.keep (keepT_same s2)
    have sl2 := sl1.same s2
    generalize upd H1 LL (.lst []) = H2 at s2 ll2 s02 ed2 ah2 sl2
    clear s1 ed1 ah1 sl1 s2 hLL H1
    walk_at "go"
    refine w_list (xs := Sa.map fun p => V.ref p.2) (fun i σ H' => ∃ (es' : List AhE) (La : List (Sta × Addr)) (v7 v8 v9 v10 v11 v12 : Option V), σ = [some (.ref W), some (.int b), some (.ref L), some (.ref t4), some (.ref d), some (.ref SL), some (.ref LL), v7, v8, v9, v10, v11, v12] ∧ Same H H' ∧ H' d = some (DNO P w d (toN es')) ∧ AhOk H' es' ∧ StL H' SL Sa ∧ StL H' LL La ∧ Mid lo hi b ts n es es' (Sa.map (·.1)) i (La.map (·.1))) ?_ ?_ ?_ ?_
    · exact ⟨es, [], _, _, _, _, _, _, rfl, s02, ed2, ah2, sl2, ll2, mid_start B⟩
    · rintro i σ H' _ ⟨es', La, v7, v8, v9, v10, v11, v12, rfl, _, _, _, sl, _⟩
      exact SqL.of sl.at_
    · clear s02 ed2 ah2 sl2 ll2 H2
      rintro i x σ H1 hx ⟨es', La, v7, v8, v9, v10, v11, v12, rfl, s1, ed1, ah1, sl1, ll1, M⟩
      obtain ⟨sa, hsa, rfl⟩ := map_at2 hx
      obtain ⟨s, a⟩ := sa
      have sm := List.mem_of_getElem? hsa
      have hsS : (Sa.map (·.1))[i]? = some s := by rw [List.getElem?_map, hsa]; rfl
      have sS : s ∈ Sa.map (·.1) := List.mem_of_getElem? hsS
      obtain ⟨p, anp, ptp, pln⟩ := B.fr s sS
      obtain ⟨g0, g1, wfs⟩ := reach_wf h0 wft (pth_reach ptp)
      have sv1 : StV H1 s a := sl1.own _ sm
      obtain ⟨c, hca, hcc⟩ := sv1
      have slen : zs.length = s.2.length := by rw [← tl]; exact wfs.len
      walk_at "go"
      refine g_ixT (SqT.of hca) rfl ?_
      walk_at "go"
      refine g_ixT (SqT.of hca) rfl ?_
      walk_at "go"
      refine ⟨L, c, zs, s.2, rfl, wk.same s1, hcc, slen, by omega, fun H2 DD rs s2 hDD rl er => ?_⟩
      rw [hts] at er
      have alen : rs.length ≤ 4 := by
        have h1 := allW_len (ts.zip s.2) [[]]
        have h2 := congrArg List.length er
        rw [List.length_map] at h2
        have h3 : (ts.zip s.2).length ≤ 2 := by rw [List.length_zip]; omega
        have h4 : 2 ^ (ts.zip s.2).length ≤ 2 ^ 2 := Nat.pow_le_pow_right (by decide) h3
        rw [List.length_singleton, Nat.one_mul] at h1
        unfold awb at h2
        omega
      have nDL : DD ≠ LL := (ne_of_none ll1.at_ hDD).symm
      have sv2 : StV H2 s a := StV.keep (keepT_same s2) ⟨c, hca, hcc⟩
      have s02 := s1.trans s2
      have ed2 := s2 _ _ ed1
      have ah2 := ah1.keep (keepT_same s2)
      have sl2 := sl1.same s2
      have ll2 := ll1.same s2
      clear s1 ed1 ah1 sl1 ll1 hca hcc hDD s2 H1
      refine w_list (xs := rs.map fun r => V.ref r.1) (fun j σ H' => ∃ (es' : List AhE) (La : List (Sta × Addr)) (v9 v10 v11 v12 : Option V), σ = [some (.ref W), some (.int b), some (.ref L), some (.ref t4), some (.ref d), some (.ref SL), some (.ref LL), some (.ref a), some (.int (s.1 + 1)), v9, v10, v11, v12] ∧ Same H H' ∧ H' d = some (DNO P w d (toN es')) ∧ AhOk H' es' ∧ StL H' SL Sa ∧ StL H' LL La ∧ StV H' s a ∧ RowsT H' DD rs ∧ Mid lo hi b ts n es es' (Sa.map (·.1)) i (La.map (·.1)) ∧ ∀ k ws, k < j → (awb ts s.2)[k]? = some ws → wordB lo hi b (s.1 + 1) ws = none ∧ foll b (s.1 + 1, ws) ∈ es'.map (·.1)) ?_ ?_ ?_ ?_
      · exact ⟨es', La, _, _, _, _, rfl, s02, ed2, ah2, sl2, ll2, sv2, rl, M, fun k ws hk => by omega⟩
      · rintro j σ H' _ ⟨es', La, v9, v10, v11, v12, rfl, _, _, _, _, _, _, rl, _⟩
        exact SqL.of rl.at_
      · clear s02 ed2 ah2 sl2 ll2 sv2 rl M es' La H2
        rintro j x σ H1 hx ⟨es', La, v9, v10, v11, v12, rfl, s1, ed1, ah1, sl1, ll1, sv1, rl, M, seen⟩
        obtain ⟨r, hr', rfl⟩ := map_at2 hx
        obtain ⟨ra, ws⟩ := r
        have eW : H1 ra = some (.tup (ws.map V.int)) := rl.own _ (List.mem_of_getElem? hr')
        have haw : (awb ts s.2)[j]? = some ws := by rw [← er, List.getElem?_map, hr']; rfl
        have fol : Fol ts s.2 ws := (awb_mem (by rw [tl]; exact slen)).mp (List.mem_of_getElem? haw)
        have wlen : ws.length = zs.length := by rw [fol_len fol, tl]
        have es16' := known_len h0 h24 wft (by omega) M.nd M.anc
        walk_at "gs"
        refine ⟨W, ra, lo, hi, b, s.1 + 1, ws, rfl, tup_same s1 hW, eW, by omega, b0, ?_⟩
        walk_at "gs"
        cases hwd : wordB lo hi b (s.1 + 1) ws with
        | some wd =>
          have e : wordV (some wd) = .str wd := rfl
          rw [e]
          refine g_join (fun _ _ => False) (fun _ _ h => h.elim) fun N' _ => ?_
          walk_at "go"
          refine ⟨d, a, es', s, p, rfl, ed1, ah1, M.nd, sv1, anp.mono M.old, by omega, fun H2 D2 ps s2 hD2 st2 ep => ?_⟩
          have pl2 : ps.length = n + 1 := by rw [← pln, ← ep, List.length_map]
          walk_at "go"
          intro t2 ht2
          have s3 := same_new (o := .tup [.int (s.1 + 1), .ref ra]) ht2
          have sv3 : StV (upd H2 t2 (.tup [.int (s.1 + 1), .ref ra])) (s.1 + 1, ws) t2 := ⟨ra, upd_same, s3 _ _ (s2 _ _ eW)⟩
          generalize upd H2 t2 (.tup [.int (s.1 + 1), .ref ra]) = H3 at s3 sv3
          walk_at "go"
          intro l3 hl3
          have s4 := same_new (o := .lst [V.ref t2]) hl3
          have e4 := upd_same (H := H3) (a := l3) (o := .lst [V.ref t2])
          generalize upd H3 l3 (.lst [V.ref t2]) = H4 at s4 e4
          have st4 := (st2.same s3).same s4
          have sv4 := sv3.keep (keepT_same s4)
          refine ⟨D2, l3, _, _, rfl, rfl, st4.at_, e4, by rw [sizeLine_eq, List.length_map]; show ps.length + 1 ≤ _; omega, fun PP hPP => ?_⟩
          have s5 := same_new (o := .lst ((ps.map fun p => V.ref p.2) ++ [V.ref t2])) hPP
          have st5 : StL (upd H4 PP (.lst ((ps.map fun p => V.ref p.2) ++ [V.ref t2]))) PP (ps ++ [((s.1 + 1, ws), t2)]) := ⟨by rw [upd_same, List.map_append]; rfl, fun y hy => by
            rw [List.mem_append, List.mem_singleton] at hy
            rcases hy with hy | rfl
            · exact (st4.own y hy).keep (keepT_same s5)
            · exact sv4.keep (keepT_same s5)⟩
          have s05 := (((s1.trans s2).trans s3).trans s4).trans s5
          generalize upd H4 PP (.lst ((ps.map fun p => V.ref p.2) ++ [V.ref t2])) = H5 at s5 st5 s05
          walk_at "go"
          refine ⟨L, PP, zs, ps ++ [((s.1 + 1, ws), t2)], rfl, wk.same s05, by omega, st5, fun y hy => ?_, by rw [List.length_append]; exact Nat.le_add_left 1 _, by rw [List.length_append, List.length_singleton]; omega, fun H6 RL rs6 s6 hRL ri er6 => ?_⟩
          · rw [List.mem_append, List.mem_singleton] at hy
            rcases hy with hy | rfl
            · have := pth_wid ptp y.1 (by rw [← ep]; exact List.mem_map.mpr ⟨y, hy, rfl⟩)
              rw [this, tl]
            · exact wlen
          have s06 := s05.trans s6
          walk_at "go"
          refine g_len (.inl (SqL.of (s6 _ _ st5.at_))) ?_
          rw [List.length_map, List.length_append, List.length_singleton]
          walk_at "go"
          have epl : (((ps.length + 1 : Nat) : Int) - 1) = ((p.length : Nat) : Int) := by omega
          rw [epl]
          intro BT hBT
          have s7 := same_new (o := .tup [.int (p.length : Nat), .str wd]) hBT
          have e7 := upd_same (H := H6) (a := BT) (o := .tup [.int (p.length : Nat), .str wd])
          generalize upd H6 BT (.tup [.int (p.length : Nat), .str wd]) = H7 at s7 e7
          walk_at "go"
          intro TT hTT
          have s8 := same_new (o := .tup [.str "bitten", .ref RL, .ref BT]) hTT
          refine q2 p s ws wd ptp fol hwd (fun m s' ws' hre hm' hf' => ?_) (by rw [← ep, List.length_map]; omega) _ TT RL BT rs6 ((s06.trans s7).trans s8) (Wd.Same.back (s06.trans s7) hTT) upd_same ⟨s8 _ _ (s7 _ _ ri.at_), fun y hy => ⟨s8 _ _ (s7 _ _ (ri.own y hy).1), Wd.Same.back s05 (ri.own y hy).2⟩⟩ (Wd.Same.back s05 hRL) ?_ (s8 _ _ e7)
          · rw [pln] at hm'
            exact (B.lt m s' (by omega) hre ws' hf').1
          · rw [er6, List.map_append, ep]; rfl
        | none =>
          have e : wordV none = .non := rfl
          rw [e]
          refine g_join (fun σ H' => σ = [some (.ref W), some (.int b), some (.ref L), some (.ref t4), some (.ref d), some (.ref SL), some (.ref LL), some (.ref a), some (.int (s.1 + 1)), some (.ref ra), some .non, v11, v12] ∧ H' = H1) ?_ ?_
          case refine_2 =>
            intro N' hk
            walk_at "go"
            exact hk _ _ ⟨rfl, rfl⟩
          rintro σ H2 ⟨rfl, rfl⟩
          walk_at "gs"
          intro t2 ht2
          have s3 := same_new (o := .tup [.int (s.1 + 1), .ref ra]) ht2
          have sv3 : StV (upd H2 t2 (.tup [.int (s.1 + 1), .ref ra])) (s.1 + 1, ws) t2 := ⟨ra, upd_same, s3 _ _ eW⟩
          have s03 := s1.trans s3
          have ed3 := s3 _ _ ed1
          have ah3 := ah1.keep (keepT_same s3)
          have sl3 := sl1.same s3
          have ll3 := ll1.same s3
          have svs3 := sv1.keep (keepT_same s3)
          have rl3 := rl.same s3
          have eW3 := s3 _ _ eW
          generalize upd H2 t2 (.tup [.int (s.1 + 1), .ref ra]) = H3 at s3 sv3 s03 ed3 ah3 sl3 ll3 svs3 rl3 eW3
          clear s1 ed1 ah1 sl1 ll1 sv1 rl eW s3 ht2 H2
          walk_at "gs"
          refine g_join (fun σ H' => ∃ tf : Addr, σ = [some (.ref W), some (.int b), some (.ref L), some (.ref t4), some (.ref d), some (.ref SL), some (.ref LL), some (.ref a), some (.int (s.1 + 1)), some (.ref ra), some .non, v11, some (.ref tf)] ∧ Same H3 H' ∧ StV H' (foll b (s.1 + 1, ws)) tf) ?_ ?_
          case refine_2 =>
            intro N' hk
            walk_at "go"
            refine ⟨ra, b, s.1 + 1, ws, rfl, eW3, by omega, b0, ?_⟩
            walk_at "go"
            cases hp : patd b (s.1 + 1) ws with
            | true =>
              have ef : foll b (s.1 + 1, ws) = (0, ws) := if_pos hp
              walk_at "go"
              intro t5 ht5
              walk_at "go"
              have s5 := same_new (o := .tup [.int 0, .ref ra]) ht5
              exact hk _ _ ⟨t5, rfl, s5, by rw [ef]; exact ⟨ra, upd_same, s5 _ _ eW3⟩⟩
            | false =>
              have ef : foll b (s.1 + 1, ws) = (s.1 + 1, ws) := if_neg (by rw [hp]; exact fun z => nomatch z)
              walk_at "go"
              exact hk _ _ ⟨t2, rfl, fun _ _ z => z, by rw [ef]; exact sv3⟩
          rintro σ H4 ⟨tf, rfl, s34, svf⟩
          have s04 := s03.trans s34
          have ed4 := s34 _ _ ed3
          have ah4 := ah3.keep (keepT_same s34)
          have sl4 := sl3.same s34
          have ll4 := ll3.same s34
          have svs4 := svs3.keep (keepT_same s34)
          have rl4 := rl3.same s34
          clear s03 ed3 ah3 sl3 ll3 svs3 rl3 eW3 s34 sv3 H3
          generalize hf : foll b (s.1 + 1, ws) = f at svf
          walk_at "go"
          refine ⟨stKey f, tf, d, toN es', rfl, rfl, ed4, ah4.keys, svf.nest, stKey_depth _, ?_⟩
          rw [toN_has]
          walk_at "go"
          by_cases hin : f ∈ es'.map (·.1)
          · rw [decide_eq_true hin]
            walk_at "go"
            refine ⟨es', La, _, _, _, _, rfl, s04, ed4, ah4, sl4, ll4, svs4, rl4, M, fun k ws' hk hw' => ?_⟩
            by_cases c : k < j
            · exact seen k ws' c hw'
            · have : k = j := by omega
              subst this
              cases haw.symm.trans hw'
              exact ⟨hwd, by rw [hf]; exact hin⟩
          · rw [decide_eq_false hin]
            walk_at "go"
            refine g_nput (P := P) (w := w) ?_
            walk_at "go"
            refine ⟨stKey f, tf, d, toN es', rfl, rfl, ed4, ah4.keys, svf.nest, stKey_depth _, by rw [toN_has]; exact decide_eq_false hin, by rw [sizeLine_eq]; unfold toN; rw [List.length_map]; omega, ?_⟩
            have eN : toN es' ++ [(stKey f, tf, V.ref a)] = toN (es' ++ [(f, tf, some (s, a))]) := by unfold toN; rw [List.map_append]; rfl
            rw [eN]
            have kt := keepT_dno (o := DNO P w d (toN (es' ++ [(f, tf, some (s, a))]))) ed4
            have nds : ∀ {D : Addr} {xs : List V}, H4 D = some (.lst xs) → D ≠ d := fun h z => by rw [z, ed4] at h; exact dno_lst (Option.some.inj h)
            have s05 : Same H (upd H4 d (DNO P w d (toN (es' ++ [(f, tf, some (s, a))])))) := Wd.Same.mut s04 nd0
            have ed5 := upd_same (H := H4) (a := d) (o := DNO P w d (toN (es' ++ [(f, tf, some (s, a))])))
            have ah5 : AhOk (upd H4 d (DNO P w d (toN (es' ++ [(f, tf, some (s, a))])))) (es' ++ [(f, tf, some (s, a))]) := fun e he => by
              rw [List.mem_append, List.mem_singleton] at he
              rcases he with he | rfl
              · exact (ah4.keep kt) e he
              · exact ⟨svf.keep kt, fun p z => by cases z; exact svs4.keep kt⟩
            have sl5 : StL (upd H4 d (DNO P w d (toN (es' ++ [(f, tf, some (s, a))])))) SL Sa := ⟨by rw [upd_ne (nds sl4.at_)]; exact sl4.at_, fun y hy => (sl4.own y hy).keep kt⟩
            have ll5 : StL (upd H4 d (DNO P w d (toN (es' ++ [(f, tf, some (s, a))])))) LL La := ⟨by rw [upd_ne (nds ll4.at_)]; exact ll4.at_, fun y hy => (ll4.own y hy).keep kt⟩
            have rl5 : RowsT (upd H4 d (DNO P w d (toN (es' ++ [(f, tf, some (s, a))])))) DD rs := ⟨by rw [upd_ne (nds rl4.at_)]; exact rl4.at_, fun y hy => kt _ _ (rl4.own y hy)⟩
            have svs5 := svs4.keep kt
            have svf5 := svf.keep kt
            generalize upd H4 d (DNO P w d (toN (es' ++ [(f, tf, some (s, a))]))) = H5 at kt s05 ed5 ah5 sl5 ll5 rl5 svs5 svf5
            clear s04 ed4 ah4 sl4 ll4 svs4 rl4 svf kt nds H4
            have M5 := mid_add (a := a) (a' := tf) B M sS fol hwd (by rw [hf]; exact hin)
            rw [hf] at M5
            have les : (La.map (·.1)).length ≤ 1600 := by
              have h1 := congrArg List.length M.ext
              rw [List.length_append, List.length_map] at h1
              omega
            rw [List.length_map] at les
            walk_at "go"
            refine g_tyL ll5.at_ ?_
            walk_at "go"
            refine g_append ll5.at_ (by rw [List.length_map]; omega) ?_
            have kt := keepT_lst (o := .lst ((La.map fun p => V.ref p.2) ++ [V.ref tf])) ll5.at_
            have nLLe : ∀ {D : Addr} {o : HO}, D ≠ LL → H5 D = some o → upd H5 LL (.lst ((La.map fun p => V.ref p.2) ++ [V.ref tf])) D = some o := fun n h => by rw [upd_ne n]; exact h
            walk_at "go"
            refine ⟨es' ++ [(f, tf, some (s, a))], La ++ [(f, tf)], _, _, _, _, rfl, Wd.Same.mut s05 nLL, nLLe (fun z => by rw [z, ll5.at_] at ed5; exact dno_lst (Option.some.inj ed5).symm) ed5, ah5.keep kt, ⟨nLLe nLS sl5.at_, fun y hy => (sl5.own y hy).keep kt⟩, ⟨by rw [upd_same, List.map_append]; rfl, fun y hy => ?_⟩, svs5.keep kt, ⟨nLLe nDL rl5.at_, fun y hy => kt _ _ (rl5.own y hy)⟩, by rw [List.map_append]; exact M5, fun k ws' hk hw' => ?_⟩
            · rw [List.mem_append, List.mem_singleton] at hy
              rcases hy with hy | rfl
              · exact (ll5.own y hy).keep kt
              · exact svf5.keep kt
            · have up : ∀ y, y ∈ es'.map (·.1) → y ∈ (es' ++ [(f, tf, some (s, a))]).map (·.1) := fun y hy => by rw [List.map_append]; exact List.mem_append_left _ hy
              by_cases c : k < j
              · exact ⟨(seen k ws' c hw').1, up _ (seen k ws' c hw').2⟩
              · have : k = j := by omega
                subst this
                cases haw.symm.trans hw'
                refine ⟨hwd, ?_⟩
                rw [hf, List.map_append]
                exact List.mem_append_right _ (List.mem_singleton.mpr rfl)
      · clear s02 ed2 ah2 sl2 ll2 sv2 rl M es' La H2
        rintro σ H1 ⟨es', La, v9, v10, v11, v12, rfl, s1, ed1, ah1, sl1, ll1, sv1, rl, M, seen⟩
        rw [List.length_map] at seen
        walk_at "go"
        refine ⟨es', La, _, _, _, _, _, _, rfl, s1, ed1, ah1, sl1, ll1, mid_next M hsS fun ws hf => ?_⟩
        obtain ⟨k, hk, e⟩ := List.mem_iff_getElem.mp ((awb_mem (by rw [tl]; exact slen)).mpr hf)
        refine seen k ws ?_ (by rw [List.getElem?_eq_getElem hk, e])
        have := congrArg List.length er
        rw [List.length_map] at this
        omega
    · rintro σ H1 ⟨es', La, v7, v8, v9, v10, v11, v12, rfl, s1, ed1, ah1, sl1, ll1, M⟩
      rw [List.length_map] at M
      walk_at "go"
      refine ⟨es', La, LL, _, _, _, _, _, _, _, rfl, s1, ed1, ah1, ll1, mid_end B (by rw [List.length_map]; exact M), nLL, ?_⟩
      have h1 := congrArg List.length M.ext
      rw [List.length_append, List.length_map, List.length_map, List.length_map] at h1
      exact h1
end
end K13
namespace K13
open PySem PySem.Spec PyProof.Rows L2 Wd
/-! ### the first bite -/
def fb (lo hi : Int) : Int → List Int → Int × Str
  | last, [] => (last + hi + 1, ("late" : Str))
  | last, p :: ps => if p > last + hi then (last + hi + 1, ("late" : Str)) else if p < last + lo then (p, ("early" : Str)) else fb lo hi p ps
theorem fb_nil (lo hi last : Int) : fb lo hi last [] = (last + hi + 1, ("late" : Str)) := rfl
theorem fb_late {lo hi last p : Int} {ps : List Int} (h : p > last + hi) : fb lo hi last (p :: ps) = (last + hi + 1, ("late" : Str)) := if_pos h
theorem fb_early {lo hi last p : Int} {ps : List Int} (h : ¬ p > last + hi) (h2 : p < last + lo) : fb lo hi last (p :: ps) = (p, ("early" : Str)) := (if_neg h).trans (if_pos h2)
theorem fb_next {lo hi last p : Int} {ps : List Int} (h : ¬ p > last + hi) (h2 : ¬ p < last + lo) : fb lo hi last (p :: ps) = fb lo hi p ps := (if_neg h).trans (if_neg h2)

def bite (lo hi e : Int) (ps : List Int) : Option (Int × Str) := if (fb lo hi 0 ps).1 > e then none else some (fb lo hi 0 ps)
/-! ### the keeper: the mirror -/
/-- the place of the first moment behind l -/
def ix : List Int → Int → Nat
  | [], _ => 0
  | x :: xs, l => if l < x then 0 else ix xs l + 1
theorem ix_le : ∀ (ms : List Int) (l : Int), ix ms l ≤ ms.length
  | [], _ => Nat.le_refl _
  | x :: xs, l => by
    unfold ix
    split
    · exact Nat.zero_le _
    · exact Nat.succ_le_succ (ix_le xs l)
theorem ix_at : ∀ {ms : List Int} {l x : Int}, ms[ix ms l]? = some x → l < x
  | [], _, _, h => by cases h
  | y :: ys, l, x, h => by
    unfold ix at h
    split at h
    · rename_i c; cases h; exact c
    · exact ix_at (ms := ys) h
theorem ix_lt : ∀ {ms : List Int} {l x : Int} {j : Nat}, ms[j]? = some x → j < ix ms l → x ≤ l
  | [], _, _, _, h, _ => by cases h
  | y :: ys, l, x, j, h, hj => by
    unfold ix at hj
    split at hj
    · omega
    · rename_i c
      match j, h with
      | 0, h => cases h; omega
      | j + 1, h => exact ix_lt (ms := ys) (j := j) h (by omega)
theorem ix_mono : ∀ (ms : List Int) {l l' : Int}, l ≤ l' → ix ms l ≤ ix ms l'
  | [], _, _, _ => Nat.le_refl _
  | x :: xs, l, l', h => by
    unfold ix
    split
    · exact Nat.zero_le _
    · rename_i c
      rw [if_neg (by omega)]
      exact Nat.succ_le_succ (ix_mono xs h)
theorem ix_stop {ms : List Int} {l x : Int} {j : Nat} (h : ms[j]? = some x) (hj : j ≤ ix ms l) (hx : l < x) : j = ix ms l := by
  by_cases e : j = ix ms l
  · exact e
  · have := ix_lt h (Nat.lt_of_le_of_ne hj e); omega
theorem ix_go {ms : List Int} {l x : Int} {j : Nat} (h : ms[j]? = some x) (hj : j ≤ ix ms l) (hx : x ≤ l) : j + 1 ≤ ix ms l := by
  by_cases e : j = ix ms l
  · subst e; have := ix_at h; omega
  · omega
/-- by when all tasks have reported behind l -/
def due (l : Int) : List (List Int) → Int → Option Int
  | [], d => some d
  | m :: ms, d => match m[ix m l]? with
    | none => none
    | some x => due l ms (if x > d then x else d)
theorem due_no {l : Int} {m : List Int} {ms : List (List Int)} {d : Int} (h : m[ix m l]? = none) : due l (m :: ms) d = none := by unfold due; rw [h]
theorem due_yes {l : Int} {m : List Int} {ms : List (List Int)} {d x : Int} (h : m[ix m l]? = some x) : due l (m :: ms) d = due l ms (if x > d then x else d) := by conv => lhs; unfold due; rw [h]
theorem due_ge {l : Int} : ∀ {ms : List (List Int)} {d r : Int}, due l ms d = some r → d ≤ r
  | [], d, r, h => by unfold due at h; cases h; exact Int.le_refl _
  | m :: ms, d, r, h => by
    cases e : m[ix m l]? with
    | none => rw [due_no e] at h; cases h
    | some x =>
      rw [due_yes e] at h
      have := due_ge h
      split at this <;> omega
/-- the pat behind the one at l -/
def nx (b : Int) (ms : List (List Int)) (l : Int) : Option Int := (due l ms (l + 1)).map fun d => (d + b - 1) / b * b
theorem up_beat {d b : Int} (h : 1 ≤ b) : d ≤ (d + b - 1) / b * b ∧ (d + b - 1) / b * b < d + b := by
  have h1 := Int.mul_ediv_add_emod (d + b - 1) b
  have h2 := Int.emod_nonneg (d + b - 1) (show b ≠ 0 by omega)
  have h3 := Int.emod_lt_of_pos (d + b - 1) (show 0 < b by omega)
  rw [Int.mul_comm] at h1
  omega
theorem nx_gt {b : Int} (h : 1 ≤ b) {ms : List (List Int)} {l q : Int} (e : nx b ms l = some q) : l < q := by
  unfold nx at e
  cases hd : due l ms (l + 1) with
  | none => rw [hd] at e; cases e
  | some d =>
    rw [hd] at e
    have e' : (d + b - 1) / b * b = q := Option.some.inj e
    have := due_ge hd
    have := (up_beat (d := d) h).1
    omega
/-- pats up to e, from that at l on -/
def up (f : Int → Option Int) (e : Int) : Nat → Int → List Int
  | 0, _ => []
  | n + 1, l => match f l with
    | none => []
    | some q => if q > e then [] else q :: up f e n q
theorem up_none {f : Int → Option Int} {e l : Int} {n : Nat} (h : f l = none) : up f e (n + 1) l = [] := by unfold up; rw [h]
theorem up_far {f : Int → Option Int} {e l q : Int} {n : Nat} (h : f l = some q) (c : q > e) : up f e (n + 1) l = [] := by unfold up; rw [h]; exact if_pos c
theorem up_pat {f : Int → Option Int} {e l q : Int} {n : Nat} (h : f l = some q) (c : ¬ q > e) : up f e (n + 1) l = q :: up f e n q := by
  conv => lhs; unfold up; rw [h]
  exact if_neg c
def kp (b : Int) (ms : List (List Int)) (e : Int) : List Int := up (nx b ms) e (e.toNat + 1) 0
/-- lists of numbers in a list -/
structure Rep (K : PySem.W.Frag) (H : Hp) (R : Addr) (as : List Addr) (ms : List (List Int)) : Prop where
  at_ : SqL K H R (as.map V.ref)
  len : as.length = ms.length
  own : ∀ (i : Nat) (a : Addr) (m : List Int), as[i]? = some a → ms[i]? = some m → SqL K H a (m.map V.int)
theorem Rep.same {K : PySem.W.Frag} {H H' : Hp} {R : Addr} {as : List Addr} {ms : List (List Int)} (r : Rep K H R as ms) (e : Same H H') : Rep K H' R as ms := ⟨list_same e r.at_, r.len, fun i a m h1 h2 => list_same e (r.own i a m h1 h2)⟩
theorem Rep.get {K : PySem.W.Frag} {H : Hp} {R : Addr} {as : List Addr} {ms : List (List Int)} (r : Rep K H R as ms) {i : Nat} {x : V} (h : (as.map V.ref)[i]? = some x) : ∃ a m, x = .ref a ∧ as[i]? = some a ∧ ms[i]? = some m ∧ SqL K H a (m.map V.int) := by
  rw [List.getElem?_map] at h
  cases ha : as[i]? with
  | none => rw [ha] at h; cases h
  | some a =>
    rw [ha] at h
    have hi : i < ms.length := by rw [← r.len]; exact (List.getElem?_eq_some_iff.mp ha).1
    have hm : ms[i]? = some ms[i] := List.getElem?_eq_getElem hi
    exact ⟨a, ms[i], (Option.some.inj h).symm, rfl, hm, r.own i a _ ha hm⟩
end K13
namespace K13
open PySem PySem.Spec PyProof.Rows L2 Wd
/-! ### reports, and the steps that they make -/
/-- the last moment up to n -/
def lr : Int → List Int → Int → Int
  | l, [], _ => l
  | l, x :: xs, n => if x ≤ n then lr x xs n else l
def Inc : Int → List Int → Prop
  | _, [] => True
  | l, x :: xs => l < x ∧ Inc x xs
/-- in time from l on, up to e -/
def InT (t : Tp) (e : Int) : Int → List Int → Prop
  | l, [] => l ≤ e ∧ e - l < t.2
  | l, x :: xs => t.1 ≤ x - l ∧ x - l ≤ t.2 ∧ x ≤ e ∧ InT t e x xs
theorem InT.inc {t : Tp} {e : Int} (h1 : 1 ≤ t.1) : ∀ {l : Int} {xs : List Int}, InT t e l xs → Inc l xs
  | _, [], _ => trivial
  | _, x :: xs, h => ⟨by have := h.1; omega, InT.inc h1 h.2.2.2⟩
theorem lr_nil (l n : Int) : lr l [] n = l := rfl
theorem lr_yes {l x n : Int} {xs : List Int} (h : x ≤ n) : lr l (x :: xs) n = lr x xs n := if_pos h
theorem lr_no {l x n : Int} {xs : List Int} (h : ¬ x ≤ n) : lr l (x :: xs) n = l := if_neg h
theorem lr_ge : ∀ {l : Int} {xs : List Int} (n : Int), Inc l xs → l ≤ lr l xs n
  | l, [], _, _ => Int.le_refl l
  | l, x :: xs, n, h => by
    by_cases c : x ≤ n
    · rw [lr_yes c]; have := lr_ge n h.2; have := h.1; omega
    · rw [lr_no c]; exact Int.le_refl _
theorem lr_le : ∀ {l : Int} {xs : List Int} {n : Int}, l ≤ n → lr l xs n ≤ n
  | l, [], _, h => h
  | l, x :: xs, n, h => by
    by_cases c : x ≤ n
    · rw [lr_yes c]; exact lr_le c
    · rw [lr_no c]; exact h
theorem lr_self : ∀ {x : Int} {xs : List Int}, Inc x xs → lr x xs x = x
  | _, [], _ => rfl
  | x, y :: ys, h => lr_no (by have := h.1; omega)
theorem wbh_up {t : Tp} {x : Int} (h : x + 1 < t.2) : x + 1 ∈ wbh t x := by
  unfold wbh
  by_cases c : x + 1 < t.1
  · rw [if_pos c]; exact List.mem_cons_self
  · rw [if_neg c, if_neg (by omega)]; exact List.mem_cons_self
theorem wbh_zero {t : Tp} {x : Int} (h : t.1 ≤ x + 1) : (0 : Int) ∈ wbh t x := by
  unfold wbh
  rw [if_neg (by omega)]
  by_cases c : x + 1 = t.2
  · rw [if_pos c]; exact List.mem_cons_self
  · rw [if_neg c]; exact List.mem_cons_of_mem _ List.mem_cons_self
theorem wbh_of {t : Tp} {x y : Int} (h1 : t.1 ≤ t.2) (hx : x < t.2) (h : y ∈ wbh t x) : (y = 0 ∧ t.1 ≤ x + 1 ∧ x + 1 ≤ t.2) ∨ (y = x + 1 ∧ x + 1 < t.2) := by
  unfold wbh at h
  split at h
  · rw [List.mem_singleton] at h; exact .inr ⟨h, by omega⟩
  · split at h
    · rw [List.mem_singleton] at h; exact .inl ⟨h, by omega, by omega⟩
    · rw [List.mem_cons, List.mem_singleton] at h
      rcases h with h | h
      · exact .inr ⟨h, by omega⟩
      · exact .inl ⟨h, by omega, by omega⟩
theorem wait_step {t : Tp} {e n : Int} (h1 : 1 ≤ t.1) (hn : n < e) : ∀ {l : Int} {xs : List Int}, InT t e l xs → l ≤ n → n + 1 - lr l xs (n + 1) ∈ wbh t (n - lr l xs n)
  | l, [], h, hl => by
    rw [lr_nil, lr_nil]
    have := h.2
    have e1 : n + 1 - l = n - l + 1 := by omega
    rw [e1]
    exact wbh_up (by omega)
  | l, x :: xs, h, hl => by
    obtain ⟨a1, a2, a3, a4⟩ := h
    by_cases c : x ≤ n
    · rw [lr_yes c, lr_yes (by omega)]; exact wait_step h1 hn a4 c
    · rw [lr_no c]
      by_cases c2 : x ≤ n + 1
      · have ex : x = n + 1 := by omega
        subst ex
        rw [lr_yes c2, lr_self (a4.inc h1), Int.sub_self]
        exact wbh_zero (by omega)
      · rw [lr_no c2]
        have e1 : n + 1 - l = n - l + 1 := by omega
        rw [e1]
        exact wbh_up (by omega)
/-- a report behind q, up to n -/
theorem lr_ix {q n : Int} (hq : q ≤ n) : ∀ {l : Int} {m : List Int}, Inc l m → l ≤ q → (q < lr l m n ↔ ∃ x, m[ix m q]? = some x ∧ x ≤ n)
  | l, [], _, hl => by
    rw [lr_nil]
    constructor
    · intro h; omega
    · rintro ⟨x, h, _⟩; cases h
  | l, x :: xs, h, hl => by
    by_cases c : q < x
    · have e : ix (x :: xs) q = 0 := if_pos c
      rw [e]
      by_cases c2 : x ≤ n
      · rw [lr_yes c2]
        have := lr_ge n h.2
        exact ⟨fun _ => ⟨x, rfl, c2⟩, fun _ => by omega⟩
      · rw [lr_no c2]
        constructor
        · intro z; omega
        · rintro ⟨y, hy, z⟩
          cases hy
          omega
    · have e : ix (x :: xs) q = ix xs q + 1 := if_neg c
      rw [e, lr_yes (by omega)]
      exact lr_ix hq (m := xs) h.2 (by omega)
theorem due_iff {q n : Int} : ∀ {ms : List (List Int)} {d0 : Int}, (∃ d, due q ms d0 = some d ∧ d ≤ n) ↔ d0 ≤ n ∧ ∀ m ∈ ms, ∃ x, m[ix m q]? = some x ∧ x ≤ n
  | [], d0 => by
    constructor
    · rintro ⟨d, h, hd⟩
      unfold due at h
      cases h
      exact ⟨hd, fun _ z => nomatch z⟩
    · rintro ⟨h, _⟩; exact ⟨d0, rfl, h⟩
  | m :: ms, d0 => by
    cases e : m[ix m q]? with
    | none =>
      rw [due_no e]
      constructor
      · rintro ⟨d, h, _⟩; cases h
      · rintro ⟨_, h⟩
        obtain ⟨x, hx, _⟩ := h m List.mem_cons_self
        cases e.symm.trans hx
    | some x =>
      rw [due_yes e, due_iff (ms := ms)]
      constructor
      · rintro ⟨h1, h2⟩
        refine ⟨by split at h1 <;> omega, fun m' hm' => ?_⟩
        rcases List.mem_cons.mp hm' with rfl | hm'
        · exact ⟨x, e, by split at h1 <;> omega⟩
        · exact h2 m' hm'
      · rintro ⟨h1, h2⟩
        refine ⟨?_, fun m' hm' => h2 m' (List.mem_cons_of_mem _ hm')⟩
        obtain ⟨y, hy, hyn⟩ := h2 m List.mem_cons_self
        cases e.symm.trans hy
        split <;> omega
/-- the waits at n -/
def Wt (ms : List (List Int)) (n : Int) : List Int := ms.map fun m => n - lr 0 m n
def IncA (ms : List (List Int)) : Prop := ∀ m ∈ ms, Inc 0 m
theorem patd_iff {b q n : Int} {ms : List (List Int)} (hi : IncA ms) (q0 : 0 ≤ q) (hq : q < n) (hm : q % b = 0) : patd b (n - q) (Wt ms n) = true ↔ n % b = 0 ∧ ∃ d, due q ms (q + 1) = some d ∧ d ≤ n := by
  unfold patd Wt
  rw [Bool.and_eq_true, decide_eq_true_iff, List.all_map, List.all_eq_true, due_iff]
  have e : (n - q) % b = 0 ↔ n % b = 0 := by
    constructor
    · intro h
      have := Int.dvd_add (Int.dvd_of_emod_eq_zero h) (Int.dvd_of_emod_eq_zero hm)
      rw [Int.sub_add_cancel] at this
      exact Int.emod_eq_zero_of_dvd this
    · intro h
      exact Int.emod_eq_zero_of_dvd (Int.dvd_sub (Int.dvd_of_emod_eq_zero h) (Int.dvd_of_emod_eq_zero hm))
  rw [e]
  constructor
  · rintro ⟨h1, h2⟩
    refine ⟨h1, by omega, fun m hmm => (lr_ix (by omega) (hi m hmm) q0).mp ?_⟩
    have : n - lr 0 m n < n - q := of_decide_eq_true (h2 m hmm)
    omega
  · rintro ⟨h1, _, h2⟩
    refine ⟨h1, fun m hmm => decide_eq_true ?_⟩
    have := (lr_ix (by omega) (hi m hmm) q0).mpr (h2 m hmm)
    show n - lr 0 m n < n - q
    omega
/-- the next pat: nothing is patted before it -/
theorem nx_no {b q n : Int} {ms : List (List Int)} (hb : 1 ≤ b) (hi : IncA ms) (q0 : 0 ≤ q) (hq : q < n) (hm : q % b = 0) (h : ∀ z, nx b ms q = some z → n < z) : patd b (n - q) (Wt ms n) = false := by
  cases hp : patd b (n - q) (Wt ms n) with
  | false => rfl
  | true =>
    obtain ⟨h1, d, hd, dn⟩ := (patd_iff hi q0 hq hm).mp hp
    have := h ((d + b - 1) / b * b) (by unfold nx; rw [hd]; rfl)
    exfalso
    have ub := (up_beat (d := d) hb).2
    have en : n / b * b = n := Int.ediv_mul_cancel (Int.dvd_of_emod_eq_zero h1)
    have : (d + b - 1) / b ≤ n / b := by
      have : (d + b - 1) / b < n / b + 1 := by
        refine Int.lt_of_mul_lt_mul_right (a := b) ?_ (by omega)
        rw [Int.add_mul, en]
        omega
      omega
    have := Int.mul_le_mul_of_nonneg_right this (show 0 ≤ b by omega)
    omega
theorem nx_yes {b q z : Int} {ms : List (List Int)} (hb : 1 ≤ b) (hi : IncA ms) (q0 : 0 ≤ q) (hm : q % b = 0) (h : nx b ms q = some z) : q < z ∧ z % b = 0 ∧ patd b (z - q) (Wt ms z) = true := by
  have hq := nx_gt hb h
  have hz : z % b = 0 := by
    unfold nx at h
    cases hd : due q ms (q + 1) with
    | none => rw [hd] at h; cases h
    | some d =>
      rw [hd] at h
      have e : (d + b - 1) / b * b = z := Option.some.inj h
      rw [← e]
      exact Int.mul_emod_left ..
  refine ⟨hq, hz, (patd_iff hi q0 hq hm).mpr ⟨hz, ?_⟩⟩
  unfold nx at h
  cases hd : due q ms (q + 1) with
  | none => rw [hd] at h; cases h
  | some d =>
    rw [hd] at h
    have e : (d + b - 1) / b * b = z := Option.some.inj h
    exact ⟨d, rfl, by have := (up_beat (d := d) hb).1; omega⟩
/-- the steps that reports make -/
def Sq (b : Int) (ms : List (List Int)) : Nat → Sta
  | 0 => (0, Wt ms 0)
  | n + 1 => foll b ((Sq b ms n).1 + 1, Wt ms ((n + 1 : Nat) : Int))
theorem sq_succ {b : Int} {ms : List (List Int)} {n : Nat} : Sq b ms (n + 1) = foll b ((Sq b ms n).1 + 1, Wt ms ((n + 1 : Nat) : Int)) := rfl
theorem sq_two {b : Int} {ms : List (List Int)} : ∀ n : Nat, (Sq b ms n).2 = Wt ms n
  | 0 => rfl
  | n + 1 => by rw [sq_succ, foll_two]
section
variable {lo hi b : Int} {ms : List (List Int)}
theorem sq_gap (hb : 1 ≤ b) (hi : IncA ms) {q : Nat} (hm : (q : Int) % b = 0) (h0 : (Sq b ms q).1 = 0) : ∀ (k : Nat), (∀ z, nx b ms q = some z → ((q + k : Nat) : Int) < z) → (Sq b ms (q + k)).1 = k
  | 0, _ => h0
  | k + 1, h => by
    have ih := sq_gap hb hi hm h0 k fun z hz => by have := h z hz; omega
    rw [← Nat.add_assoc, sq_succ, ih]
    have e : ((k : Int) + 1) = ((q + k + 1 : Nat) : Int) - q := by omega
    have no := nx_no (n := ((q + k + 1 : Nat) : Int)) hb hi (by omega) (by omega) hm h
    unfold foll
    dsimp only
    rw [e, no]
    simp only [Bool.false_eq_true, if_false]
    omega
theorem sq_pat (hb : 1 ≤ b) (hi : IncA ms) {q k : Nat} (hm : (q : Int) % b = 0) (h0 : (Sq b ms q).1 = 0) (h : nx b ms q = some ((q + k + 1 : Nat) : Int)) : (Sq b ms (q + k)).1 = k ∧ patd b ((k : Int) + 1) (Wt ms ((q + k + 1 : Nat) : Int)) = true ∧ (Sq b ms (q + k + 1)).1 = 0 ∧ ((q + k + 1 : Nat) : Int) % b = 0 := by
  have hk := sq_gap hb hi hm h0 k fun z hz => by cases h.symm.trans hz; omega
  obtain ⟨h1, h2, h3⟩ := nx_yes hb hi (by omega) hm h
  have e : ((k : Int) + 1) = ((q + k + 1 : Nat) : Int) - q := by omega
  rw [← e] at h3
  refine ⟨hk, h3, ?_, h2⟩
  rw [sq_succ, hk]
  unfold foll
  dsimp only
  rw [h3]
  rfl
def Calm (lo hi b : Int) (ms : List (List Int)) (n : Nat) : Prop := wordB lo hi b ((Sq b ms n).1 + 1) (Wt ms ((n + 1 : Nat) : Int)) = none
theorem calm_gap {n : Nat} (h : Calm lo hi b ms n) : (Sq b ms n).1 + 1 ≤ hi := by
  unfold Calm wordB at h
  split at h
  · cases h
  · omega
theorem calm_pat {n : Nat} (h : Calm lo hi b ms n) (hp : patd b ((Sq b ms n).1 + 1) (Wt ms ((n + 1 : Nat) : Int)) = true) : lo ≤ (Sq b ms n).1 + 1 := by
  unfold Calm wordB at h
  split at h
  · cases h
  · split at h
    · cases h
    · rename_i c
      exact Int.not_lt.mp fun z => c ⟨z, hp⟩
/-- none is bitten up to e -/
theorem run_calm (hb : 1 ≤ b) (h0 : 0 ≤ hi) (hi' : IncA ms) {e : Nat} : ∀ (k q : Nat), e - q < k → q ≤ e → (q : Int) % b = 0 → (Sq b ms q).1 = 0 → (∀ n, q ≤ n → n < e → Calm lo hi b ms n) → (fb lo hi q (up (nx b ms) e k q)).1 > e
  | 0, q, hk, _, _, _, _ => by omega
  | k + 1, q, hk, hq, hm, hs, hc => by
    have stop : (∀ z, nx b ms q = some z → (e : Int) < z) → (fb lo hi q []).1 > e := fun h => by
      rw [fb_nil]
      show (q : Int) + hi + 1 > e
      by_cases c : q = e
      · omega
      · obtain ⟨j, rfl⟩ : ∃ j, e = q + (j + 1) := ⟨e - q - 1, by omega⟩
        have g := sq_gap hb hi' hm hs j fun z hz => by have := h z hz; omega
        have := calm_gap (hc (q + j) (by omega) (by omega))
        omega
    cases hz : nx b ms q with
    | none => rw [up_none hz]; exact stop fun z h => by rw [hz] at h; cases h
    | some z =>
      by_cases c : z > e
      · rw [up_far hz c]; exact stop fun z' h => by cases hz.symm.trans h; exact c
      · rw [up_pat hz c]
        have g := nx_gt hb hz
        obtain ⟨j, rfl⟩ : ∃ j : Nat, z = ((q + j + 1 : Nat) : Int) := ⟨(z - q - 1).toNat, by omega⟩
        obtain ⟨p1, p2, p3, p4⟩ := sq_pat hb hi' hm hs hz
        have cm := hc (q + j) (by omega) (by omega)
        have g1 := calm_gap cm
        have g2 := calm_pat cm (by rw [p1]; exact p2)
        rw [p1] at g1 g2
        rw [fb_next (by omega) (by omega)]
        exact run_calm hb h0 hi' k (q + j + 1) (by omega) (by omega) p4 p3 fun n h1 h2 => hc n (by omega) h2
/-- .. or bitten at once behind it -/
theorem run_bite (hb : 1 ≤ b) (h0 : 0 ≤ hi) (hi' : IncA ms) {e : Nat} {wd : Str} (hw : wordB lo hi b ((Sq b ms e).1 + 1) (Wt ms ((e + 1 : Nat) : Int)) = some wd) : ∀ (k q : Nat), e + 1 - q < k → q ≤ e → (q : Int) % b = 0 → (Sq b ms q).1 = 0 → (∀ n, q ≤ n → n < e → Calm lo hi b ms n) → fb lo hi q (up (nx b ms) ((e + 1 : Nat) : Int) k q) = (((e + 1 : Nat) : Int), wd)
  | 0, q, hk, _, _, _, _ => by omega
  | k + 1, q, hk, hq, hm, hs, hc => by
    obtain ⟨j, rfl⟩ : ∃ j, e = q + j := ⟨e - q, by omega⟩
    have near : (∀ z, nx b ms q = some z → ((q + j : Nat) : Int) < z) → (Sq b ms (q + j)).1 = j ∧ (j : Int) ≤ hi := fun h => by
      have g := sq_gap hb hi' hm hs j h
      refine ⟨g, ?_⟩
      match j, h, hc, g with
      | 0, _, _, _ => exact h0
      | j + 1, h, hc, _ =>
        have g := sq_gap hb hi' hm hs j fun z hz => by have := h z hz; omega
        have := calm_gap (hc (q + j) (by omega) (by omega))
        omega
    have stop : (∀ z, nx b ms q = some z → ((q + j + 1 : Nat) : Int) < z) → fb lo hi q [] = (((q + j + 1 : Nat) : Int), wd) := fun h => by
      obtain ⟨g1, g2⟩ := near fun z hz => by have := h z hz; omega
      have no := nx_no (n := ((q + j + 1 : Nat) : Int)) hb hi' (by omega) (by omega) hm h
      have e1 : ((q + j + 1 : Nat) : Int) - q = (j : Int) + 1 := by omega
      rw [e1] at no
      rw [g1] at hw
      unfold wordB at hw
      split at hw
      · rename_i c
        rw [fb_nil, ← Option.some.inj hw]
        congr 1
        omega
      · split at hw
        · rename_i c; rw [no] at c; exact absurd c.2 (by simp)
        · cases hw
    cases hz : nx b ms q with
    | none => rw [up_none hz]; exact stop fun z h => by rw [hz] at h; cases h
    | some z =>
      by_cases c : z > ((q + j + 1 : Nat) : Int)
      · rw [up_far hz c]; exact stop fun z' h => by cases hz.symm.trans h; exact c
      · rw [up_pat hz c]
        have g := nx_gt hb hz
        by_cases c2 : z = ((q + j + 1 : Nat) : Int)
        · subst c2
          obtain ⟨p1, p2, p3, p4⟩ := sq_pat hb hi' hm hs hz
          obtain ⟨g1, g2⟩ := near fun z hz' => by cases hz.symm.trans hz'; omega
          rw [g1] at hw
          unfold wordB at hw
          split at hw
          · rename_i c
            rw [fb_late (by omega), ← Option.some.inj hw]
            congr 1
            omega
          · split at hw
            · rename_i c3 c4
              rw [fb_early (by omega) (by omega), ← Option.some.inj hw]
            · cases hw
        · obtain ⟨i, rfl⟩ : ∃ i : Nat, z = ((q + i + 1 : Nat) : Int) := ⟨(z - q - 1).toNat, by omega⟩
          obtain ⟨p1, p2, p3, p4⟩ := sq_pat hb hi' hm hs hz
          have cm := hc (q + i) (by omega) (by omega)
          have g1 := calm_gap cm
          have g2 := calm_pat cm (by rw [p1]; exact p2)
          rw [p1] at g1 g2
          rw [fb_next (by omega) (by omega)]
          exact run_bite hb h0 hi' hw k (q + i + 1) (by omega) (by omega) p4 p3 fun n h1 h2 => hc n (by omega) h2
theorem kp_calm (hb : 1 ≤ b) (h0 : 0 ≤ hi) (hi' : IncA ms) {e : Nat} (hc : ∀ n, n < e → Calm lo hi b ms n) : bite lo hi e (kp b ms e) = none := by
  unfold bite kp
  refine if_pos (run_calm (q := 0) hb h0 hi' _ (by omega) (Nat.zero_le _) (Int.zero_emod b) rfl fun n _ h => hc n h)
theorem kp_bite (hb : 1 ≤ b) (h0 : 0 ≤ hi) (hi' : IncA ms) {e : Nat} {wd : Str} (hw : wordB lo hi b ((Sq b ms e).1 + 1) (Wt ms ((e + 1 : Nat) : Int)) = some wd) (hc : ∀ n, n < e → Calm lo hi b ms n) : bite lo hi ((e + 1 : Nat) : Int) (kp b ms ((e + 1 : Nat) : Int)) = some (((e + 1 : Nat) : Int), wd) := by
  unfold bite kp
  have := run_bite (q := 0) hb h0 hi' hw (((e + 1 : Nat) : Int).toNat + 1) (by omega) (Nat.zero_le _) (Int.zero_emod b) rfl fun n _ h => hc n h
  rw [show ((0 : Nat) : Int) = 0 from rfl] at this
  rw [this]
  exact if_neg (Int.lt_irrefl _)
end
end K13
namespace K13
open PySem PySem.Spec PyProof.Rows L2 Wd
structure AllT (e : Int) (ts : List Tp) (ms : List (List Int)) : Prop where
  len : ts.length = ms.length
  own : ∀ (i : Nat) (t : Tp) (m : List Int), ts[i]? = some t → ms[i]? = some m → InT t e 0 m
theorem fol_of : ∀ {ts : List Tp} {xs ys : List Int}, xs.length = ts.length → ys.length = ts.length → (∀ (i : Nat) t x y, ts[i]? = some t → xs[i]? = some x → ys[i]? = some y → y ∈ wbh t x) → Fol ts xs ys
  | [], [], [], _, _, _ => trivial
  | t :: ts, x :: xs, y :: ys, h1, h2, h => ⟨h 0 t x y rfl rfl rfl, fol_of (by simpa using h1) (by simpa using h2) fun i t' x' y' a1 a2 a3 => h (i + 1) t' x' y' a1 a2 a3⟩
  | [], _ :: _, _, h1, _, _ => by simp at h1
  | [], [], _ :: _, _, h2, _ => by simp at h2
  | _ :: _, [], _, h1, _, _ => by simp at h1
  | _ :: _, _ :: _, [], _, h2, _ => by simp at h2
theorem fol_at : ∀ {ts : List Tp} {xs ys : List Int} {j : Nat} {t : Tp}, Fol ts xs ys → ts[j]? = some t → ∃ u v, xs[j]? = some u ∧ ys[j]? = some v ∧ v ∈ wbh t u
  | t :: ts, x :: xs, y :: ys, 0, _, h, e => by cases e; exact ⟨x, y, rfl, rfl, h.1⟩
  | t :: ts, x :: xs, y :: ys, j + 1, _, h, e => fol_at (ts := ts) (xs := xs) (ys := ys) (j := j) h.2 e
  | [], _, _, _, _, _, e => by cases e
theorem wt_len {ms : List (List Int)} {n : Int} : (Wt ms n).length = ms.length := List.length_map ..
theorem wt_at {ms : List (List Int)} {n : Int} {i : Nat} {x : Int} (h : (Wt ms n)[i]? = some x) : ∃ m, ms[i]? = some m ∧ x = n - lr 0 m n := by
  unfold Wt at h
  rw [List.getElem?_map] at h
  cases hm : ms[i]? with
  | none => rw [hm] at h; cases h
  | some m => rw [hm] at h; exact ⟨m, rfl, (Option.some.inj h).symm⟩
theorem AllT.inc {e : Int} {ts : List Tp} {ms : List (List Int)} (h : AllT e ts ms) (ht : WfT ts) : IncA ms := fun m hm => by
  obtain ⟨i, hi, rfl⟩ := List.mem_iff_getElem.mp hm
  have hl : i < ts.length := by rw [h.len]; exact hi
  exact (h.own i ts[i] ms[i] (List.getElem?_eq_getElem hl) (List.getElem?_eq_getElem hi)).inc (ht _ (List.getElem_mem hl)).1
theorem wt_zero {ms : List (List Int)} (hi : IncA ms) : Wt ms 0 = List.replicate ms.length 0 := by
  refine List.eq_replicate_iff.mpr ⟨wt_len, fun x hx => ?_⟩
  obtain ⟨m, hm, rfl⟩ := List.mem_map.mp hx
  have h1 := lr_ge 0 (hi m hm)
  have h2 := lr_le (l := 0) (xs := m) (Int.le_refl 0)
  omega
theorem allT_fol {e : Nat} {ts : List Tp} {ms : List (List Int)} (h : AllT e ts ms) (ht : WfT ts) {n : Nat} (hn : n < e) : Fol ts (Wt ms n) (Wt ms ((n + 1 : Nat) : Int)) := by
  refine fol_of (by rw [wt_len, h.len]) (by rw [wt_len, h.len]) fun i t x y h1 h2 h3 => ?_
  obtain ⟨m, hm, rfl⟩ := wt_at h2
  obtain ⟨m', hm', rfl⟩ := wt_at h3
  cases hm.symm.trans hm'
  have := wait_step (n := n) (ht t (List.mem_of_getElem? h1)).1 (by omega) (h.own i t m h1 hm) (by omega)
  exact this
section
variable {lo hi b : Int} {ts : List Tp} {ms : List (List Int)}
theorem steady_reach {e : Nat} (S : Steady lo hi b ts) (ht : WfT ts) (h : AllT e ts ms) : ∀ n : Nat, n ≤ e → Reach lo hi b ts n (Sq b ms n)
  | 0, _ => by
    have e1 : Sq b ms 0 = start0 ts := by
      show ((0 : Int), Wt ms 0) = (0, List.replicate ts.length 0)
      rw [wt_zero (h.inc ht), h.len]
    rw [e1]
    exact .zero
  | n + 1, hn => by
    have ih := steady_reach S ht h n (by omega)
    have f : Fol ts (Sq b ms n).2 (Wt ms ((n + 1 : Nat) : Int)) := by rw [sq_two]; exact allT_fol h ht (by omega)
    exact .succ ih f (S _ _ _ ih f)
/-- reports in time, and tasks that are steady: none is bitten -/
theorem steady_none {e : Nat} (hb : 1 ≤ b) (h0 : 0 ≤ hi) (S : Steady lo hi b ts) (ht : WfT ts) (h : AllT e ts ms) : bite lo hi e (kp b ms e) = none :=
  kp_calm hb h0 (h.inc ht) fun n hn => S _ _ _ (steady_reach S ht h n (by omega)) (by rw [sq_two]; exact allT_fol h ht hn)
theorem wordB_wide {lo' hi' gap : Int} {ws : List Int} (h1 : lo' ≤ lo) (h2 : hi ≤ hi') (h : wordB lo hi b gap ws = none) : wordB lo' hi' b gap ws = none := by
  unfold wordB at h ⊢
  split at h
  · cases h
  · split at h
    · cases h
    · rename_i c1 c2
      rw [if_neg (by omega), if_neg (fun z => c2 ⟨by omega, z.2⟩)]
theorem steady_wide {lo' hi' : Int} (h1 : lo' ≤ lo) (h2 : hi ≤ hi') (S : Steady lo hi b ts) : Steady lo' hi' b ts := by
  have R : ∀ n s, Reach lo' hi' b ts n s → Reach lo hi b ts n s := fun n s hr => by
    induction hr with
    | zero => exact .zero
    | @succ n s ws _ hf _ ih => exact .succ ih hf (S _ _ _ ih hf)
  exact fun n s ws hr hf => wordB_wide h1 h2 (S n s ws (R n s hr) hf)
end
/-! ### the told reports of a path -/
theorem inT_wait {t : Tp} {e : Int} : ∀ {l : Int} {xs : List Int}, InT t e l xs → e + 1 - lr l xs e < t.2 → InT t (e + 1) l xs
  | l, [], h, c => ⟨by have := h.1; omega, by rw [lr_nil] at c; omega⟩
  | l, x :: xs, h, c => by
    rw [lr_yes h.2.2.1] at c
    exact ⟨h.1, h.2.1, by have := h.2.2.1; omega, inT_wait h.2.2.2 c⟩
theorem inT_rep {t : Tp} {e : Int} (h2 : 1 ≤ t.2) : ∀ {l : Int} {xs : List Int}, InT t e l xs → t.1 ≤ e + 1 - lr l xs e → e + 1 - lr l xs e ≤ t.2 → InT t (e + 1) l (xs ++ [e + 1])
  | l, [], h, c, d => ⟨c, d, Int.le_refl _, Int.le_refl _, by omega⟩
  | l, x :: xs, h, c, d => by
    rw [lr_yes h.2.2.1] at c d
    exact ⟨h.1, h.2.1, by have := h.2.2.1; omega, inT_rep h2 h.2.2.2 c d⟩
theorem lr_far {t : Tp} {e n : Int} (hn : e ≤ n) : ∀ {l : Int} {xs : List Int}, InT t e l xs → lr l xs n = lr l xs e
  | l, [], _ => rfl
  | l, x :: xs, h => by rw [lr_yes h.2.2.1, lr_yes (by have := h.2.2.1; omega)]; exact lr_far hn h.2.2.2
theorem lr_old {e n : Int} (hn : n < e) : ∀ {l : Int} {xs : List Int}, lr l (xs ++ [e]) n = lr l xs n
  | l, [] => by rw [List.nil_append, lr_no (by omega)]; rfl
  | l, x :: xs => by
    rw [List.cons_append]
    by_cases c : x ≤ n
    · rw [lr_yes c, lr_yes c]; exact lr_old hn
    · rw [lr_no c, lr_no c]
theorem lr_new {t : Tp} {e : Int} : ∀ {l : Int} {xs : List Int}, InT t e l xs → lr l (xs ++ [e + 1]) (e + 1) = e + 1
  | l, [], _ => by rw [List.nil_append, lr_yes (Int.le_refl _)]; rfl
  | l, x :: xs, h => by rw [List.cons_append, lr_yes (by have := h.2.2.1; omega)]; exact lr_new h.2.2.2
def mX (X : Nat → Int) (n : Nat) : List Int := ((List.range n).filter fun i => decide (X (i + 1) = 0)).map fun i => ((i + 1 : Nat) : Int)
theorem mX_succ {X : Nat → Int} {n : Nat} : mX X (n + 1) = mX X n ++ (if X (n + 1) = 0 then [((n + 1 : Nat) : Int)] else []) := by
  unfold mX
  rw [List.range_succ, List.filter_append, List.map_append]
  congr 1
  by_cases c : X (n + 1) = 0
  · simp [c]
  · simp [c]
theorem mX_in {t : Tp} (h1 : 1 ≤ t.1) (h2 : t.1 ≤ t.2) {X : Nat → Int} (x0 : X 0 = 0) : ∀ N : Nat, (∀ n, n < N → X (n + 1) ∈ wbh t (X n)) → InT t N 0 (mX X N) ∧ (∀ n : Nat, n ≤ N → lr 0 (mX X N) n = n - X n) ∧ 0 ≤ X N ∧ X N < t.2
  | 0, _ => by
    refine ⟨⟨Int.le_refl 0, by show (0 : Int) - 0 < t.2; omega⟩, fun n hn => ?_, by omega, by omega⟩
    have : n = 0 := by omega
    subst this
    rw [x0]; rfl
  | N + 1, h => by
    obtain ⟨a1, a2, a3, a4⟩ := mX_in h1 h2 x0 N fun n hn => h n (by omega)
    have e := a2 N (Nat.le_refl N)
    rw [mX_succ]
    rcases wbh_of h2 a4 (h N (by omega)) with ⟨c, c1, c2⟩ | ⟨c, c1⟩
    · rw [if_pos c]
      refine ⟨inT_rep (by omega) a1 (by omega) (by omega), fun n hn => ?_, by omega, by omega⟩
      by_cases d : n ≤ N
      · rw [lr_old (by omega)]; exact a2 n d
      · have : n = N + 1 := by omega
        subst this
        rw [c]
        have := lr_new a1
        show lr 0 (mX X N ++ [(N : Int) + 1]) ((N : Int) + 1) = (N : Int) + 1 - 0
        omega
    · rw [if_neg (by omega), List.append_nil]
      refine ⟨inT_wait a1 (by omega), fun n hn => ?_, by omega, by omega⟩
      by_cases d : n ≤ N
      · exact a2 n d
      · have : n = N + 1 := by omega
        subst this
        rw [lr_far (by omega) a1, e, c]
        omega
theorem staAt_get {p : List Sta} {n : Nat} {s : Sta} (h : p[n]? = some s) : staAt p n = s := by unfold staAt; rw [h]; rfl
theorem staAt_left {p q : List Sta} {n : Nat} (h : n < p.length) : staAt (p ++ q) n = staAt p n := by unfold staAt; rw [List.getElem?_append_left h]
theorem staAt_last {p : List Sta} {s : Sta} : staAt (p ++ [s]) p.length = s := by unfold staAt; rw [List.getElem?_append_right (Nat.le_refl _), Nat.sub_self]; rfl
section
variable {lo hi b : Int} {ts : List Tp}
theorem pth_at {p : List Sta} {s : Sta} (h : Pth lo hi b ts p s) : staAt p 0 = start0 ts ∧ staAt p (p.length - 1) = s ∧ ∀ n, n + 1 < p.length → ∃ ws, Fol ts (staAt p n).2 ws ∧ wordB lo hi b ((staAt p n).1 + 1) ws = none ∧ staAt p (n + 1) = foll b ((staAt p n).1 + 1, ws) := by
  induction h with
  | zero => exact ⟨rfl, rfl, fun n hn => by simp at hn⟩
  | @succ p s ws hp hf hw ih =>
    obtain ⟨i1, i2, i3⟩ := ih
    have l := pth_len hp
    refine ⟨by rw [staAt_left l]; exact i1, ?_, fun n hn => ?_⟩
    · have e : (p ++ [foll b (s.1 + 1, ws)]).length - 1 = p.length := by rw [List.length_append, List.length_singleton]; omega
      rw [e, staAt_last]
    · rw [List.length_append, List.length_singleton] at hn
      by_cases c : n + 1 < p.length
      · rw [staAt_left c, staAt_left (by omega)]; exact i3 n c
      · have e : n + 1 = p.length := by omega
        have e2 : n = p.length - 1 := by omega
        rw [e, staAt_last, staAt_left (by omega), e2, i2]
        exact ⟨ws, hf, hw, rfl⟩
theorem path_tells {p : List Sta} {s : Sta} {ws : List Int} (ht : WfT ts) (hp : Pth lo hi b ts p s) (hf : Fol ts s.2 ws) : AllT p.length ts (repsOf (p ++ [(s.1 + 1, ws)]) ts.length) ∧ ∀ n : Nat, n ≤ p.length → Wt (repsOf (p ++ [(s.1 + 1, ws)]) ts.length) n = (staAt (p ++ [(s.1 + 1, ws)]) n).2 := by
  obtain ⟨p1, p2, p3⟩ := pth_at hp
  have l := pth_len hp
  have st : ∀ n, n < p.length → Fol ts (staAt (p ++ [(s.1 + 1, ws)]) n).2 (staAt (p ++ [(s.1 + 1, ws)]) (n + 1)).2 := fun n hn => by
    rw [staAt_left hn]
    by_cases c : n + 1 < p.length
    · rw [staAt_left c]
      obtain ⟨w', q1, q2, q3⟩ := p3 n c
      rw [q3, foll_two]; exact q1
    · have e : n + 1 = p.length := by omega
      have e2 : n = p.length - 1 := by omega
      rw [e, staAt_last, e2, p2]; exact hf
  have s0 : (staAt (p ++ [(s.1 + 1, ws)]) 0).2 = List.replicate ts.length 0 := by rw [staAt_left l, p1]; rfl
  generalize hP : p ++ [(s.1 + 1, ws)] = path at st s0
  have pl : path.length - 1 = p.length := by rw [← hP, List.length_append, List.length_singleton]; omega
  have wl : ∀ n, n ≤ p.length → (staAt path n).2.length = ts.length := fun n hn => by
    match n, hn with
    | 0, _ => rw [s0]; exact List.length_replicate ..
    | n + 1, hn => exact fol_len (st n (by omega))
  have row : ∀ (j : Nat) (t : Tp), ts[j]? = some t → InT t p.length 0 (repAt path j p.length) ∧ ∀ n : Nat, n ≤ p.length → ∃ x, (staAt path n).2[j]? = some x ∧ lr 0 (repAt path j p.length) n = n - x := fun j t hj => by
    have jl := (List.getElem?_eq_some_iff.mp hj).1
    have X : ∀ n, n ≤ p.length → (staAt path n).2[j]? = some (((staAt path n).2[j]?).getD 1) := fun n hn => by
      have : j < (staAt path n).2.length := by rw [wl n hn]; exact jl
      rw [List.getElem?_eq_getElem this]; rfl
    have eq : repAt path j p.length = mX (fun n => ((staAt path n).2[j]?).getD 1) p.length := by
      unfold repAt mX
      congr 1
      refine List.filter_congr fun i hi => ?_
      have := X (i + 1) (by have := List.mem_range.mp hi; omega)
      rw [this]
      simp
    have tt := ht t (List.mem_of_getElem? hj)
    obtain ⟨a1, a2, _⟩ := mX_in tt.1 tt.2.1 (X := fun n => ((staAt path n).2[j]?).getD 1) (by
      show ((staAt path 0).2[j]?).getD 1 = 0
      rw [s0, List.getElem?_replicate, if_pos jl]; rfl) p.length fun n hn => by
      obtain ⟨u, v, h1, h2, h3⟩ := fol_at (st n hn) hj
      show ((staAt path (n + 1)).2[j]?).getD 1 ∈ wbh t (((staAt path n).2[j]?).getD 1)
      rw [h1, h2]; exact h3
    rw [eq]
    exact ⟨a1, fun n hn => ⟨_, X n hn, a2 n hn⟩⟩
  have rg : ∀ (i : Nat) (m : List Int), (repsOf path ts.length)[i]? = some m → i < ts.length ∧ m = repAt path i p.length := fun i m hm => by
    unfold repsOf at hm
    rw [List.getElem?_map, pl] at hm
    by_cases c : i < ts.length
    · rw [List.getElem?_range c] at hm
      exact ⟨c, (Option.some.inj hm).symm⟩
    · rw [List.getElem?_eq_none (by rw [List.length_range]; omega)] at hm; cases hm
  have rl : (repsOf path ts.length).length = ts.length := by unfold repsOf; rw [List.length_map, List.length_range]
  refine ⟨⟨rl.symm, fun i t m h1 h2 => ?_⟩, fun n hn => ?_⟩
  · obtain ⟨_, rfl⟩ := rg i m h2
    exact (row i t h1).1
  · refine List.ext_getElem? fun i => ?_
    by_cases c : i < ts.length
    · have h1 : (repsOf path ts.length)[i]? = some (repAt path i p.length) := by
        unfold repsOf
        rw [List.getElem?_map, pl, List.getElem?_range c]; rfl
      obtain ⟨x, q1, q2⟩ := (row i ts[i] (List.getElem?_eq_getElem c)).2 n hn
      rw [q1]
      unfold Wt
      rw [List.getElem?_map, h1]
      show some (_ - lr 0 _ _) = _
      rw [q2]
      congr 1
      omega
    · rw [List.getElem?_eq_none (by rw [wt_len, rl]; omega), List.getElem?_eq_none (by rw [wl n hn]; omega)]
/-- the told reports: bitten when told, and not ahead of it -/
theorem path_bites {p : List Sta} {s : Sta} {ws : List Int} {wd : Str} (hb : 1 ≤ b) (h0 : 0 ≤ hi) (ht : WfT ts) (hp : Pth lo hi b ts p s) (hf : Fol ts s.2 ws) (hw : wordB lo hi b (s.1 + 1) ws = some wd) :
    bite lo hi p.length (kp b (repsOf (p ++ [(s.1 + 1, ws)]) ts.length) p.length) = some ((p.length : Int), wd) ∧ bite lo hi ((p.length : Int) - 1) (kp b (repsOf (p ++ [(s.1 + 1, ws)]) ts.length) ((p.length : Int) - 1)) = none := by
  obtain ⟨p1, p2, p3⟩ := pth_at hp
  obtain ⟨A, W⟩ := path_tells ht hp hf
  have l := pth_len hp
  generalize hms : repsOf (p ++ [(s.1 + 1, ws)]) ts.length = ms at A W
  have inc := A.inc ht
  have S : ∀ n, n < p.length → Sq b ms n = staAt p n := fun n => by
    induction n with
    | zero =>
      intro _
      rw [p1]
      show ((0 : Int), Wt ms 0) = (0, List.replicate ts.length 0)
      rw [wt_zero inc, A.len]
    | succ n ih =>
      intro hn
      obtain ⟨w', q1, q2, q3⟩ := p3 n hn
      rw [sq_succ, ih (by omega), q3, W (n + 1) (by omega), staAt_left hn, q3, foll_two]
  have cm : ∀ n, n < p.length - 1 → Calm lo hi b ms n := fun n hn => by
    obtain ⟨w', q1, q2, q3⟩ := p3 n (by omega)
    unfold Calm
    rw [S n (by omega), W (n + 1) (by omega), staAt_left (by omega), q3, foll_two]
    exact q2
  have e : p.length = p.length - 1 + 1 := by omega
  have wN := W p.length (Nat.le_refl _)
  rw [staAt_last] at wN
  have k1 := kp_bite (e := p.length - 1) (wd := wd) hb h0 inc (by rw [S _ (by omega), p2, ← e, wN]; exact hw) cm
  have k2 := kp_calm (e := p.length - 1) hb h0 inc cm
  rw [← e] at k1
  have e2 : ((p.length - 1 : Nat) : Int) = (p.length : Int) - 1 := by omega
  rw [e2] at k2
  exact ⟨k1, k2⟩
end
end K13
namespace K13
open PySem PySem.Spec PyProof.Rows L2 Wd
theorem inT_wait2 {t : Tp} {e n : Int} (hn : e ≤ n) : ∀ {l : Int} {xs : List Int}, InT t e l xs → n - lr l xs e < t.2 → InT t n l xs
  | l, [], h, c => ⟨by have := h.1; omega, by rw [lr_nil] at c; omega⟩
  | l, x :: xs, h, c => by
    rw [lr_yes h.2.2.1] at c
    exact ⟨h.1, h.2.1, by have := h.2.2.1; omega, inT_wait2 hn h.2.2.2 c⟩
theorem inT_rep2 {t : Tp} {e n : Int} (h2 : 1 ≤ t.2) (hn : e ≤ n) : ∀ {l : Int} {xs : List Int}, InT t e l xs → t.1 ≤ n - lr l xs e → n - lr l xs e ≤ t.2 → InT t n l (xs ++ [n])
  | l, [], h, c, d => ⟨c, d, Int.le_refl _, Int.le_refl _, by omega⟩
  | l, x :: xs, h, c, d => by
    rw [lr_yes h.2.2.1] at c d
    exact ⟨h.1, h.2.1, by have := h.2.2.1; omega, inT_rep2 h2 hn h.2.2.2 c d⟩
theorem lr_new2 {t : Tp} {e n : Int} (hn : e ≤ n) : ∀ {l : Int} {xs : List Int}, InT t e l xs → lr l (xs ++ [n]) n = n
  | l, [], _ => by rw [List.nil_append, lr_yes (Int.le_refl _)]; rfl
  | l, x :: xs, h => by rw [List.cons_append, lr_yes (by have := h.2.2.1; omega)]; exact lr_new2 hn h.2.2.2
/-- tasks in a list, apart from the drawing's state -/
structure TskL (S : Addr) (H : Hp) (L : Addr) (zs : List Wk) (g : Int) : Prop where
  at_ : H L = some (.lst (zs.map fun z => V.ref z.1))
  nS : L ≠ S
  own : ∀ z ∈ zs, z.1 ≠ S ∧ H z.1 = some (.tup [.int z.2.1, .int z.2.2]) ∧ 1 ≤ z.2.1 ∧ z.2.1 ≤ z.2.2 ∧ z.2.2 ≤ g
theorem TskL.frm {S : Addr} {H H' : Hp} {L : Addr} {zs : List Wk} {g : Int} (t : TskL S H L zs g) (f : Frm S H H') : TskL S H' L zs g :=
  ⟨f _ _ t.nS t.at_, t.nS, fun a ha => by
    obtain ⟨n, h, r⟩ := t.own a ha
    exact ⟨n, f _ _ n h, r⟩⟩
/-- reports in a list: each list's address and its moments -/
structure RepL (S : Addr) (H : Hp) (R : Addr) (zs : List (Addr × List Int)) : Prop where
  at_ : H R = some (.lst (zs.map fun z => V.ref z.1))
  nS : R ≠ S
  own : ∀ z ∈ zs, H z.1 = some (.lst (z.2.map V.int)) ∧ z.1 ≠ S ∧ z.1 ≠ R
theorem RepL.frm {S : Addr} {H H' : Hp} {R : Addr} {zs : List (Addr × List Int)} (t : RepL S H R zs) (f : Frm S H H') : RepL S H' R zs :=
  ⟨f _ _ t.nS t.at_, t.nS, fun z hz => by
    obtain ⟨h, n, r⟩ := t.own z hz
    exact ⟨f _ _ n h, n, r⟩⟩
theorem RepL.rep {K : PySem.W.Frag} {S : Addr} {H : Hp} {R : Addr} {zs : List (Addr × List Int)} (t : RepL S H R zs) : Rep K H R (zs.map (·.1)) (zs.map (·.2)) := by
  refine ⟨SqL.of (by rw [List.map_map]; exact t.at_), by rw [List.length_map, List.length_map], fun i a m h1 h2 => ?_⟩
  rw [List.getElem?_map] at h1 h2
  cases hz : zs[i]? with
  | none => rw [hz] at h1; cases h1
  | some z =>
    rw [hz] at h1 h2
    cases h1
    cases h2
    exact SqL.of (t.own z (List.mem_of_getElem? hz)).1
/-- one more list of moments -/
theorem RepL.put {S : Addr} {H : Hp} {R M : Addr} {zs : List (Addr × List Int)} {m : List Int} (t : RepL S H R zs) (h : H M = some (.lst (m.map V.int))) (n : M ≠ S) (n2 : M ≠ R) : RepL S (upd H R (.lst ((zs.map fun z => V.ref z.1) ++ [.ref M]))) R (zs ++ [(M, m)]) := by
  refine ⟨by rw [upd_same, List.map_append]; rfl, t.nS, fun z hz => ?_⟩
  rw [List.mem_append, List.mem_singleton] at hz
  rcases hz with hz | rfl
  · obtain ⟨h1, h2, h3⟩ := t.own z hz
    exact ⟨by rw [upd_ne h3]; exact h1, h2, h3⟩
  · exact ⟨by rw [upd_ne n2]; exact h, n, n2⟩
section
variable {P : Program} {w : World} {K : PySem.W.Frag} {mg : Str → Option Value} {base : Heap} {CW CT CB CM : Addr}
abbrev s_law_tasks : Stmt := top 36
theorem sc_law_tasks : FnScope ["_law_state", "_law_most", "_law_gap", "_law_found", "_law_k", "_law_least"] ["_law_state", "_law_most", "_law_gap"] (C8.fnScope s_law_tasks) := C8.fnScope_by (by decide +kernel)
def sp_tasks (K : PySem.W.Frag) : Sp := fun vs H Q _ => ∃ (B : Hp) (S : Addr) (mo gap : Int), vs = [.ref S, .int mo, .int gap] ∧ Dst K B H S ∧ 1 ≤ mo ∧ mo ≤ 100 ∧ 1 ≤ gap ∧ gap ≤ 1000 ∧
  ∀ H' L zs, Frm S H H' → Dst K B H' S → TskL S H' L zs gap → (zs.length : Int) ≤ mo → 0 < zs.length → H L = none → Q (.ref L) H'
theorem ok_tasks (T : Txt K mg CW CT CB CM) {f : Addr} {fd : FuncData} (D : C8.Def K mg "_law_tasks" s_law_tasks f fd) (b : Binds K fd ["_law_state", "_law_most", "_law_gap"] []) (g_law_drawn : C8.Cal P w K mg base 1 "_law_drawn" (sp_drawn K) []) : C8.Cal P w K mg base 2 "_law_tasks" (sp_tasks K) [] := by
  refine C8.cal0 D b .nil sc_law_tasks (fun vs H Q E h => ?_) fun cdv A outer s H vs Q E hr h => ?_
  · obtain ⟨B, S, mo, gap, rfl, _⟩ := h; rfl
  · obtain ⟨B, S, mo, gap, rfl, d, m0, m1, g0, g1, q⟩ := h
    have nd := sc_law_tasks.nd
    refine ⟨_, (pss_cons (ps_set (i := 3) nd rfl (Or.inl rfl) (pe_lst pa_nil))
      (pss_cons (ps_for PassesOwn.never rfl (pi_range1 rfl T.n_range (pa_cons (pe_op op_add pe_int (C8.pe_c g_law_drawn hr (by first | decide | exact Nat.le_refl _ | omega) (by rfl) (pa_cons (pv 0) (pa_cons (pv 1) pa_nil)))) pa_nil)) (pg_name (i := 4) nd rfl (Or.inl rfl)) (pss_cons (ps_set (i := 5) nd rfl (Or.inl rfl) (pe_op op_add pe_int (C8.pe_c g_law_drawn hr (by first | decide | exact Nat.le_refl _ | omega) (by rfl) (pa_cons (pv 0) (pa_cons (pv 2) pa_nil)))))
      (pss_one (ps_expr (pe_bmK (K := K) rfl PySem.F.plainAttrs_list PySem.F.slot_list_append PySem.F.type_list_append mt_append (pv 3) (pa_cons (pe_tup (pa_cons (pv 5) (pa_cons (pe_op op_add (pv 5) (C8.pe_c g_law_drawn hr (by first | decide | exact Nat.le_refl _ | omega) (by rfl) (pa_cons (pv 0) (pa_cons (pe_op op_add (pe_op op_sub (pv 2) (pv 5)) pe_int) pa_nil)))) pa_nil))) pa_nil))))))
      (pss_one (ps_ret (pv 3))))), ?_⟩
    walk_at "go"
    intro L hL
    have d1 := d.same (same_new (o := .lst []) hL)
    have nL := d.ne hL
    have bL := d.fresh hL
    walk_at "go"
    refine use_drawn d1 (by omega) (by omega) fun H2 v f2 d2 v0 v1 => ?_
    walk_at "go"
    have eL : H2 L = some (.lst []) := f2 _ _ nL upd_same
    refine w_range (by omega) (by omega) (fun i σ H' => ∃ (v4 v5 : Option V) (as : List Wk), σ = [some (.ref S), some (.int mo), some (.int gap), some (.ref L), v4, v5] ∧ Frm S H H' ∧ Dst K B H' S ∧ TskL S H' L as gap ∧ as.length = i) ?_ ?_ ?_
    · exact ⟨_, _, [], rfl, (Frm.new hL).trans f2, d2, ⟨eL, nL, fun a ha => nomatch ha⟩, rfl⟩
    · rintro i σ H3 hi ⟨v4, v5, as, rfl, f3, d3, tk, la⟩
      walk_at "go"
      refine use_drawn d3 (by omega) (by omega) fun H4 x f4 d4 x0 x1 => ?_
      have tk4 := tk.frm f4
      walk_at "go"
      refine g_tyL tk4.at_ ?_
      walk_at "go"
      refine use_drawn d4 (by omega) (by omega) fun H5 y f5 d5 y0 y1 => ?_
      walk_at "go"
      intro t ht
      have st := same_new (o := .tup [.int (1 + x), .int (1 + x + y)]) ht
      have tk6 := (tk4.frm f5).frm (.of st)
      have nt := d5.ne ht
      walk_at "go"
      refine g_append tk6.at_ (by rw [List.length_map]; omega) ?_
      walk_at "go"
      have ntL : t ≠ L := (ne_of_none (tk4.frm f5).at_ ht).symm
      refine ⟨_, _, as ++ [(t, 1 + x, 1 + x + y)], rfl, Frm.mut (((f3.trans f4).trans f5).trans (.of st)) hL, (d5.same st).mut nL bL, ⟨by rw [upd_same, List.map_append]; rfl, nL, fun a ha => ?_⟩, by rw [List.length_append, la]; rfl⟩
      rw [List.mem_append, List.mem_singleton] at ha
      rcases ha with ha | rfl
      · obtain ⟨n, h, r⟩ := tk6.own a ha
        exact ⟨n, by rw [upd_ne (ne_of h tk6.at_ (fun z => nomatch z))]; exact h, r⟩
      · exact ⟨nt, by rw [upd_ne ntL]; exact upd_same, by show 1 ≤ 1 + x; omega, by show 1 + x ≤ 1 + x + y; omega, by show 1 + x + y ≤ gap; omega⟩
    · rintro σ H3 ⟨v4, v5, as, rfl, f3, d3, tk, la⟩
      walk_at "go"
      exact q _ L as f3 d3 tk (by omega) (by omega) hL

end
end K13
namespace K13
open PySem PySem.Spec PyProof.Rows L2 Wd
local macro_rules | `(tactic| walk_at "gs") => `(tactic| repeat (first
  | with_reducible refine Wd.g_seq ?_
  | ((with_reducible show Ends.nx _ _ _); (with_reducible refine Wd.g_nx ?_))
  | with_reducible refine Wd.g_asg ?_
  | ((with_reducible refine' Wd.g_var ?h1 ?_); (case h1 => exact rfl))
  | with_reducible refine Wd.g_c ?_
  | with_reducible refine Wd.g_op ?_
  | with_reducible refine Wd.g_un ?_
  | with_reducible refine Wd.g_I0 ?_
  | with_reducible refine Wd.g_U ?_
  | with_reducible refine Wd.g_eqI ?_
  | with_reducible refine Wd.g_neI ?_
  | with_reducible refine Wd.g_eqS ?_
  | with_reducible refine Wd.g_neS ?_
  | with_reducible refine Wd.g_eqB ?_
  | with_reducible refine Wd.g_neB ?_
  | with_reducible refine Wd.g_isN ?_
  | with_reducible refine Wd.g_notN ?_
  | with_reducible refine Wd.g_lc ?_
  | with_reducible refine Wd.g_yes ?_
  | with_reducible refine Wd.g_test ?_
  | with_reducible refine Wd.g_tB ?_
  | with_reducible refine Wd.g_bl ?_
  | with_reducible refine Wd.g_blI ?_
  | with_reducible refine Wd.g_and ?_
  | with_reducible refine Wd.g_or ?_
  | with_reducible refine Wd.g_not ?_
  | with_reducible refine Wd.g_andV ?_
  | with_reducible refine Wd.g_orV ?_
  | with_reducible refine Wd.g_notV ?_
  | with_reducible refine Wd.g_if ?_
  | with_reducible refine Wd.g_chain ?_
  | with_reducible refine Wd.g_chain3 ?_
  | with_reducible refine Wd.g_nil ?_
  | with_reducible refine Wd.g_cons ?_
  | with_reducible refine Wd.g_tup ?_
  | with_reducible refine Wd.g_lst ?_
  | with_reducible refine Wd.g_CB ?_
  | with_reducible refine Wd.g_call ?_
  | with_reducible refine Wd.g_callS ?_
  | with_reducible refine Wd.g_bm ?_
  | with_reducible refine Wd.g_bm0 ?_
  | with_reducible refine Wd.g_sl ?_
  | with_reducible refine Wd.g_part ?_
  | with_reducible refine Wd.g_part1 ?_
  | with_reducible refine Wd.g_noPart ?_
  | with_reducible refine Wd.g_next ?_
  | with_reducible refine Wd.g_name ?_
  | with_reducible refine Wd.g_sub ?_
  | with_reducible refine Wd.g_gnil ?_
  | with_reducible refine Wd.g_gcons ?_
  | with_reducible refine Wd.g_drop ?_
  | with_reducible refine Wd.g_ret ?_
  | with_reducible refine Wd.g_retN ?_
  | with_reducible refine Wd.g_brk ?_
  | with_reducible refine Wd.g_cont ?_
  | ((with_reducible show Ends.bk _ _ _); (with_reducible refine Wd.g_bk ?_))
  | ((with_reducible show Ends.ct _ _ _); (with_reducible refine Wd.g_ct ?_))
  | ((with_reducible show Ends.rt _ _ _); (with_reducible refine Wd.g_rt ?_))
  | with_reducible refine Wd.g_for ?_
  | with_reducible refine Wd.g_rng1 ?_
  | with_reducible refine Wd.g_rng2 ?_
  | with_reducible refine Wd.g_iList ?_
  | with_reducible refine Wd.g_iTup ?_
  | ((with_reducible refine Wd.g_fit ?h1 ?_); (case h1 => exact rfl))
  | with_reducible refine Wd.g_max2 ?_
  | with_reducible refine Wd.g_min2 ?_
  | with_reducible refine Wd.g_int1B ?_
  | with_reducible refine L2.iteT ?_
  | with_reducible refine L2.iteF ?_
  | ((with_reducible refine Wd.g_itT ?h1 ?_); (case h1 => exact rfl))
  | ((with_reducible refine Wd.g_itF ?h1 ?_); (case h1 => exact rfl))))
theorem atI_back {xs : List V} {v : V} (h : xs[xs.length - 1]? = some v) : atI xs (-1) = some v := by
  have hl := (List.getElem?_eq_some_iff.mp h).1
  unfold atI ixN
  rw [if_neg (by decide), if_pos (by omega)]
  have e : (-1 + (xs.length : Int)).toNat = xs.length - 1 := by omega
  rw [e]
  exact h
theorem inT_gap {t : Tp} {e : Int} : ∀ {l : Int} {xs : List Int} {k : Nat} {x y : Int}, InT t e l xs → (l :: xs)[k]? = some x → (l :: xs)[k + 1]? = some y → t.1 ≤ y - x ∧ y - x ≤ t.2
  | l, [], k, x, y, _, _, h => by cases h
  | l, z :: xs, 0, x, y, h, h1, h2 => by cases h1; cases h2; exact ⟨h.1, h.2.1⟩
  | l, z :: xs, k + 1, x, y, h, h1, h2 => inT_gap (l := z) (xs := xs) (k := k) h.2.2.2 h1 h2
theorem inT_end {t : Tp} {e : Int} : ∀ {l : Int} {xs : List Int} {x : Int}, InT t e l xs → (l :: xs)[xs.length]? = some x → x ≤ e ∧ e - x < t.2
  | l, [], x, h, h1 => by cases h1; exact h
  | l, z :: xs, x, h, h1 => inT_end (l := z) (xs := xs) h.2.2.2 h1
structure RwL (H : Hp) (D : Addr) (rs : List (Addr × List Int)) : Prop where
  at_ : H D = some (.lst (rs.map fun r => V.ref r.1))
  own : ∀ r ∈ rs, H r.1 = some (.lst (r.2.map V.int))
theorem RwL.rep {K : PySem.W.Frag} {H : Hp} {R : Addr} {zs : List (Addr × List Int)} (t : RwL H R zs) : Rep K H R (zs.map (·.1)) (zs.map (·.2)) := by
  refine ⟨SqL.of (by rw [List.map_map]; exact t.at_), by rw [List.length_map, List.length_map], fun i a m h1 h2 => ?_⟩
  rw [List.getElem?_map] at h1 h2
  cases hz : zs[i]? with
  | none => rw [hz] at h1; cases h1
  | some z =>
    rw [hz] at h1 h2
    cases h1
    cases h2
    exact SqL.of (t.own z (List.mem_of_getElem? hz))
theorem RowsI.rw_ {H0 H : Hp} {R : Addr} {rs : List (Addr × List Int)} (t : RowsI H0 H R rs) : RwL H R rs := ⟨t.at_, fun r hr => (t.own r hr).1⟩
section
variable {P : Program} {w : World} {K : PySem.W.Frag} {mg : Str → Option Value} {base : Heap} {CW CT CB CM : Addr}
abbrev s_law_in_time : Stmt := top 42
theorem sc_law_in_time : FnScope ["_law_tasks_here", "_law_reports_here", "_law_end", "_law_least", "_law_most", "_law_moments", "_law_one", "_law_every", "_law_k"] ["_law_tasks_here", "_law_reports_here", "_law_end"] (C8.fnScope s_law_in_time) := C8.fnScope_by (by decide +kernel)
def sp_in_time (K : PySem.W.Frag) : Sp := fun vs H Q _ => ∃ (L R : Addr) (e : Int) (zs : List Wk) (rs : List (Addr × List Int)), vs = [.ref L, .ref R, .int e] ∧ WkL H L zs ∧ RwL H R rs ∧ AllT e (zs.map (·.2)) (rs.map (·.2)) ∧ WfT (zs.map (·.2)) ∧ (∀ m ∈ rs.map (·.2), m.length ≤ 10000) ∧ 0 ≤ e ∧ e ≤ 10000 ∧ ∀ H', Same H H' → Q (.bl true) H'
theorem ok_in_time (T : Txt K mg CW CT CB CM) {f : Addr} {fd : FuncData} (D : C8.Def K mg "_law_in_time" s_law_in_time f fd) (b : Binds K fd ["_law_tasks_here", "_law_reports_here", "_law_end"] []) : C8.Cal P w K mg base 1 "_law_in_time" (sp_in_time K) [] := by
  refine C8.cal0 D b .nil sc_law_in_time (fun vs H Q E h => ?_) fun cdv A outer s H vs Q E hr h => ?_
  · obtain ⟨L, R, e, zs, rs, rfl, _⟩ := h; rfl
  · obtain ⟨L, R, e, zs, rs, rfl, wk, rw, al, wft, ml, e0, e1, q⟩ := h
    have rp : Rep K H R (rs.map (·.1)) (rs.map (·.2)) := rw.rep
    have raw : ∀ (i : Nat) (a : Addr) (m : List Int), (rs.map (·.1))[i]? = some a → (rs.map (·.2))[i]? = some m → H a = some (.lst (m.map V.int)) := fun i a m h1 h2 => by
      rw [List.getElem?_map] at h1 h2
      cases hz : rs[i]? with
      | none => rw [hz] at h1; cases h1
      | some z =>
        rw [hz] at h1 h2
        cases h1
        cases h2
        exact rw.own z (List.mem_of_getElem? hz)
    generalize rs.map (·.1) = as at rp raw
    generalize rs.map (·.2) = ms at rp raw al ml
    clear rw
    have nd := sc_law_in_time.nd
    refine ⟨_, (pss_cons (ps_if (PW.pt (pw_or (pt_not (pt_val (pe_callB (r := rIsi K) call_isi (by rfl) T.n_isinstance (by decide +kernel) (pa_cons (pv 1) (pa_cons (pe_bltn (v := .ty "list") (by rfl) T.n_list (by decide +kernel) rfl) pa_nil))))) (pw_or1 (pt_cmpR op_ne (pe_callB (r := Wd.rLen K) call_len1 (by rfl) T.n_len PySem.boot_len (pa_cons (pv 1) pa_nil)) (pe_callB (r := Wd.rLen K) call_len1 (by rfl) T.n_len PySem.boot_len (pa_cons (pv 0) pa_nil)) (nomark _))))) (pss_one (ps_ret pe_bl)) pss_nil)
      (pss_cons (ps_for PassesOwn.never rfl (pi_zip (by rfl) T.n_zip (pa_cons (pv 0) (pa_cons (pv 1) pa_nil))) (pg_tup rfl (pgs_cons (pg_tup rfl (pgs_cons (pg_name (i := 3) nd rfl (Or.inr rfl)) (pgs_cons (pg_name (i := 4) nd rfl (Or.inr rfl)) pgs_nil))) (pgs_cons (pg_name (i := 5) nd rfl (Or.inl rfl)) pgs_nil))) (pss_cons (ps_if (PW.pt (pw_or (pt_not (pt_val (pe_callB (r := rIsi K) call_isi (by rfl) T.n_isinstance (by decide +kernel) (pa_cons (pv 5) (pa_cons (pe_bltn (v := .ty "list") (by rfl) T.n_list (by decide +kernel) rfl) pa_nil))))) (pw_or1 (pt_cmpR (r := rNeD K) (op_neD hr.units) (pe_lc (own := [("_law_one", 6)]) (g := gName 6) rfl nd (pi_list (pv 5)) (blkOk_by (N := ["_law_tasks_here", "_law_reports_here", "_law_end", "_law_least", "_law_most", "_law_moments", "_law_one", "_law_every", "_law_k"]) (sc := C8.fnScope s_law_in_time) (by decide +kernel)) (fun _ _ _ _ _ => pg_name (i := 6) nd rfl (Or.inl rfl)) (fun _ _ _ _ _ => pts_one (pt_not (pt_val (pe_callB (r := rIsi K) call_isi (by rfl) T.n_isinstance (by decide +kernel) (pa_cons (pv 6) (pa_cons (pe_bltn (v := .ty "int") (by rfl) T.n_int (by decide +kernel) rfl) pa_nil)))))) (fun _ _ _ _ _ => (pv 6))) (pe_lst pa_nil) (nomark _))))) (pss_one (ps_ret pe_bl)) pss_nil)
      (pss_cons (ps_if (PW.pt (pw_and (pt_cmpR (r := rNeD K) (op_neD hr.units) (pv 5) (pe_lst pa_nil) (nomark _)) (pw_and1 (pt_cmpR op_gt (pe_ix (r := rIxL K) ix_list (pv 5) (pe_un un_neg pe_int) (fun _ _ => rfl)) (pv 2) (nomark _))))) (pss_one (ps_ret pe_bl)) pss_nil)
      (pss_cons (ps_set (i := 7) nd rfl (Or.inr rfl) (pe_op op_cat (pe_lst (pa_cons pe_int pa_nil)) (pv 5)))
      (pss_cons (ps_if (pt_cmpR (r := rNeD K) (op_neD hr.units) (pe_lc (own := [("_law_k", 8)]) (g := gName 8) rfl nd (pi_range2 rfl T.n_range (pa_cons pe_int (pa_cons (pe_callB (r := Wd.rLen K) call_len1 (by rfl) T.n_len PySem.boot_len (pa_cons (pv 7) pa_nil)) pa_nil))) (blkOk_by (N := ["_law_tasks_here", "_law_reports_here", "_law_end", "_law_least", "_law_most", "_law_moments", "_law_one", "_law_every", "_law_k"]) (sc := C8.fnScope s_law_in_time) (by decide +kernel)) (fun _ _ _ _ _ => pg_name (i := 8) nd rfl (Or.inl rfl)) (fun _ _ _ _ _ => pts_one (pt_not (pt_chain op_le op_le (pv 3) (pe_op op_sub (pe_ix (r := rIxL K) ix_list (pv 7) (pv 8) (fun _ _ => rfl)) (pe_ix (r := rIxL K) ix_list (pv 7) (pe_op op_sub (pv 8) pe_int) (fun _ _ => rfl))) (pv 4)))) (fun _ _ _ _ _ => (pv 8))) (pe_lst pa_nil) (nomark _)) (pss_one (ps_ret pe_bl)) pss_nil)
      (pss_one (ps_if (pt_cmpR op_ge (pe_op op_sub (pv 2) (pe_ix (r := rIxL K) ix_list (pv 7) (pe_un un_neg pe_int) (fun _ _ => rfl))) (pv 4) (nomark _)) (pss_one (ps_ret pe_bl)) pss_nil)))))))
      (pss_one (ps_ret pe_bl)))), ?_⟩
    walk_at "go"
    refine g_isi (b := true) (.ty "list") (ty_list rp.at_) (kit_ty (by decide +kernel)) ?_
    walk_at "go"
    refine g_len (.inl rp.at_) ?_
    walk_at "go"
    refine g_len (.inl (SqL.of wk.at_)) ?_
    have lzm : zs.length = ms.length := by have := al.len; rw [List.length_map] at this; exact this
    rw [List.length_map, List.length_map, rp.len, lzm]
    walk_at "go"
    refine g_iteN (fun h1 => (h1 rfl).elim) (fun _ => ?_)
    walk_at "go"
    refine g_zip ?_
    walk_at "go"
    have lps : (zs.map fun z => V.ref z.1).length = (as.map V.ref).length := by rw [List.length_map, List.length_map, rp.len, lzm]
    refine w_zip lps (fun i σ H' => ∃ (v3 v4 v5 v6 v7 v8 : Option V), σ = [some (.ref L), some (.ref R), some (.int e), v3, v4, v5, v6, v7, v8] ∧ Same H H') ?_ ?_ ?_ ?_
    · exact ⟨_, _, _, _, _, _, rfl, fun _ _ h => h⟩
    · rintro i σ H' ⟨v3, v4, v5, v6, v7, v8, _, sm⟩
      exact ⟨SqL.of (sm _ _ wk.at_), list_same sm rp.at_⟩
    · rintro i x y TT σ H1 hx hy ⟨v3, v4, v5, v6, v7, v8, rfl, sm⟩ hT
      obtain ⟨z, hz, rfl⟩ := zs_at hx
      obtain ⟨a, m, rfl, ha, hm, hA⟩ := rp.get hy
      have sT := sm.trans (same_new (o := .tup [.ref z.1, .ref a]) hT)
      have it := al.own i z.2 m (by rw [List.getElem?_map, hz]; rfl) hm
      have wz := wft z.2 (List.mem_map.mpr ⟨z, List.mem_of_getElem? hz, rfl⟩)
      have lm := ml m (List.mem_of_getElem? hm)
      have hZ := sT _ _ (wk.own z (List.mem_of_getElem? hz))
      have hA2 := list_same sT hA
      have hR2 := sT _ _ (raw i a m ha hm)
      walk_at "go"
      refine g_gtup (SqT.of upd_same) rfl ?_
      walk_at "go"
      generalize upd H1 TT (.tup [.ref z.1, .ref a]) = H2 at sT hZ hA2 hR2 ⊢
      obtain ⟨za, lo, hi⟩ := z
      dsimp only at hZ it wz
      refine g_gtup (SqT.of hZ) rfl ?_
      walk_at "gs"
      refine g_join (fun σ H' => σ = [some (.ref L), some (.ref R), some (.int e), some (.int lo), some (.int hi), some (.ref a), v6, v7, v8] ∧ Same H2 H') ?_ ?_
      case refine_2 =>
        intro N' hk
        walk_at "go"
        refine g_isi (b := true) (.ty "list") (ty_list hA2) (kit_ty (by decide +kernel)) ?_
        walk_at "go"
        refine w_lcList hA2 (fun D i H' => Same H2 H' ∧ H' D = some (.lst [])) (fun D hD => ⟨same_new hD, upd_same⟩) (fun D i H' hD _ h => list_same h.1 hA2) (fun D i y H' hD hy h => ?_) (fun DL H3 hDL h => ?_)
        · obtain ⟨x, hx', rfl⟩ := map_at2 hy
          walk_at "go"
          refine ⟨rfl, ?_⟩
          walk_at "go"
          refine g_isi (b := true) (.ty "int") (.base (.int x)) (kit_ty (by decide +kernel)) ?_
          walk_at "go"
          exact h
        obtain ⟨s3, e3⟩ := h
        walk_at "go"
        intro E1 hE1
        have s4 := same_new (o := .lst []) hE1
        refine g_neLI (ns := []) (ms := []) (SqL.of (s4 _ _ e3)) (SqL.of upd_same) ?_
        walk_at "go"
        exact hk _ _ ⟨rfl, s3.trans s4⟩
      rintro σ H3 ⟨rfl, s3⟩
      have hA3 := list_same s3 hA2
      walk_at "gs"
      refine g_join (fun σ H' => σ = [some (.ref L), some (.ref R), some (.int e), some (.int lo), some (.int hi), some (.ref a), v6, v7, v8] ∧ Same H2 H') ?_ ?_
      case refine_2 =>
        intro N' hk
        walk_at "go"
        intro E1 hE1
        have s4 := same_new (o := .lst []) hE1
        refine g_neLI (ns := m) (ms := []) (list_same s4 hA3) (SqL.of upd_same) ?_
        walk_at "go"
        refine g_iteN (fun hne => ?_) (fun _ => ?_)
        · walk_at "go"
          obtain ⟨x, hx'⟩ : ∃ x, m[m.length - 1]? = some x := ⟨_, List.getElem?_eq_getElem (by have := List.length_pos_iff.mpr hne; omega)⟩
          refine g_ixL (list_same s4 hA3) (atI_back (v := .int x) (by rw [List.length_map, List.getElem?_map, hx']; rfl)) ?_
          walk_at "go"
          refine g_ite (fun hgt => ?_) (fun _ => ?_)
          · have : (0 :: m)[m.length]? = some x := by
              obtain ⟨q, hq⟩ : ∃ q, m.length = q + 1 := ⟨m.length - 1, by have := List.length_pos_iff.mpr hne; omega⟩
              rw [hq] at hx' ⊢
              exact hx'
            have := (inT_end it this).1
            omega
          · walk_at "go"
            exact hk _ _ ⟨rfl, s3.trans s4⟩
        · walk_at "go"
          exact hk _ _ ⟨rfl, s3.trans s4⟩
      clear s3 hA3
      rintro σ H3 ⟨rfl, s3⟩
      have hA3 := list_same s3 hA2
      walk_at "go"
      intro Z hZ0
      have s4 := same_new (o := .lst [V.int 0]) hZ0
      have eZ := upd_same (H := H3) (a := Z) (o := .lst [V.int 0])
      generalize upd H3 Z (.lst [V.int 0]) = H4 at s4 eZ
      walk_at "go"
      refine ⟨Z, a, _, _, rfl, rfl, eZ, (s3.trans s4) _ _ hR2, by rw [sizeLine_eq, List.length_map]; show 1 + m.length ≤ _; omega, fun V1 hV1 => ?_⟩
      have s5 := (s3.trans s4).trans (same_new (o := .lst ([V.int 0] ++ m.map V.int)) hV1)
      have eV : upd H4 V1 (.lst ([V.int 0] ++ m.map V.int)) V1 = some (.lst ((0 :: m).map V.int)) := upd_same
      generalize upd H4 V1 (.lst ([V.int 0] ++ m.map V.int)) = H5 at s5 eV
      clear s4 eZ s3 hA3 hV1 hZ0 H3 H4
      have ixv : ∀ (k : Int) (j : Nat) (x : Int) (H' : Hp), Same H5 H' → k = j → (0 :: m)[j]? = some x → ∀ Q : VK, Q (.int x) H' → rIxL K (.ref V1) (.int k) H' Q := fun k j x H' se hk hx Q q => g_ixL (SqL.of (se _ _ eV)) (at_of (j := j) (v := .int x) hk (by rw [List.getElem?_map, hx]; rfl)) q
      walk_at "gs"
      refine g_join (fun σ H' => σ = [some (.ref L), some (.ref R), some (.int e), some (.int lo), some (.int hi), some (.ref a), v6, some (.ref V1), v8] ∧ Same H5 H') ?_ ?_
      case refine_2 =>
        intro N' hk
        walk_at "go"
        refine g_len (.inl (SqL.of eV)) ?_
        rw [List.length_map, List.length_cons]
        walk_at "go"
        refine w_lcRange2 ⟨by omega, by omega, by omega, by omega⟩ (fun D i H' => Same H5 H' ∧ H' D = some (.lst [])) (fun D hD => ⟨same_new hD, upd_same⟩) (fun D i H' hD hil h => ?_) (fun DL H6 hDL h => ?_)
        · have hi' : i < m.length := by omega
          obtain ⟨x, hx⟩ : ∃ x, (0 :: m)[i]? = some x := ⟨_, List.getElem?_eq_getElem (by rw [List.length_cons]; omega)⟩
          obtain ⟨y, hy⟩ : ∃ y, (0 :: m)[i + 1]? = some y := ⟨_, List.getElem?_eq_getElem (by rw [List.length_cons]; omega)⟩
          have gp := inT_gap it hx hy
          walk_at "go"
          refine ⟨rfl, ?_⟩
          walk_at "go"
          refine ixv _ (i + 1) y _ h.1 (by omega) hy _ ?_
          walk_at "go"
          refine ixv _ i x _ h.1 (by omega) hx _ ?_
          walk_at "go"
          refine g_ite (fun _ => ?_) (fun hn => ?_)
          · walk_at "go"
            refine g_iteN (fun hn => absurd gp.2 hn) (fun _ => ?_)
            walk_at "go"
            exact h
          · exact absurd gp.1 hn
        obtain ⟨s6, e6⟩ := h
        walk_at "go"
        intro E1 hE1
        have s7 := same_new (o := .lst []) hE1
        refine g_neLI (ns := []) (ms := []) (SqL.of (s7 _ _ e6)) (SqL.of upd_same) ?_
        walk_at "go"
        exact hk _ _ ⟨rfl, s6.trans s7⟩
      rintro σ H6 ⟨rfl, s6⟩
      walk_at "go"
      obtain ⟨x, hx⟩ : ∃ x, (0 :: m)[m.length]? = some x := ⟨_, List.getElem?_eq_getElem (by rw [List.length_cons]; omega)⟩
      have en := inT_end it hx
      refine g_ixL (SqL.of (s6 _ _ eV)) (atI_back (v := .int x) (by rw [List.length_map, List.getElem?_map, List.length_cons, Nat.add_sub_cancel, hx]; rfl)) ?_
      walk_at "go"
      refine g_ite (fun h => ?_) (fun _ => ?_)
      · have := en.2
        dsimp only at this
        omega
      · walk_at "go"
        exact ⟨_, _, _, _, _, _, rfl, (sT.trans s5).trans s6⟩
    · rintro σ H' ⟨v3, v4, v5, v6, v7, v8, rfl, sm⟩
      walk_at "go"
      exact q _ sm
end
end K13
namespace K13
open PySem PySem.Spec PyProof.Rows L2 Wd
section
variable {P : Program} {w : World} {K : PySem.W.Frag} {mg : Str → Option Value} {base : Heap} {CW CT CB CM : Addr}
/-- rising, from a on -/
def Asc : Int → List Int → Prop
  | _, [] => True
  | a, p :: ps => a ≤ p ∧ Asc p ps
theorem Asc.le {a b : Int} : ∀ {ps : List Int}, Asc a ps → b ≤ a → Asc b ps
  | [], _, _ => trivial
  | p :: ps, h, hb => ⟨by have := h.1; omega, h.2⟩
theorem fb_ge {lo hi : Int} (h0 : 0 ≤ hi) : ∀ {ls : List Int} {n last : Int}, Asc n ls → n ≤ last + hi + 1 → n ≤ (fb lo hi last ls).1
  | [], n, last, _, h => h
  | p :: ps, n, last, a, h => by
    by_cases c : p > last + hi
    · rw [fb_late c]; exact h
    · by_cases c2 : p < last + lo
      · rw [fb_early c c2]; exact a.1
      · rw [fb_next c c2]
        exact fb_ge h0 (a.2.le a.1) (by have := a.1; omega)
theorem fb_is_late {lo hi : Int} : ∀ {ls : List Int} {last : Int}, Asc (last + hi + 1) ls → fb lo hi last ls = (last + hi + 1, ("late" : Str))
  | [], last, _ => rfl
  | p :: ps, last, a => fb_late (by have := a.1; omega)

abbrev s_law_bite : Stmt := top 34
theorem sc_law_bite : FnScope ["_law_window", "_law_pats", "_law_end", "_law_last", "_law_left", "_law_now"] ["_law_window", "_law_pats", "_law_end"] (C8.fnScope s_law_bite) := C8.fnScope_by (by decide +kernel)
def sp_bite (K : PySem.W.Frag) : Sp := fun vs H Q _ => ∃ (W S : Addr) (lo hi e : Int) (ps : List Int), vs = [.ref W, .ref S, .int e] ∧ SqT K H W [.int lo, .int hi] ∧ SqL K H S (ps.map V.int) ∧ 0 ≤ lo ∧ lo ≤ hi ∧ -10 ≤ e ∧ e < 2 ^ 60 ∧ Asc 0 ps ∧
  (∀ H', Same H H' → bite lo hi e ps = none → Q .non H') ∧ ∀ m wd H' q, bite lo hi e ps = some (m, wd) → Same H H' → H' q = some (.tup [.int m, .str wd]) → Q (.ref q) H'
theorem ok_bite (T : Txt K mg CW CT CB CM) {f : Addr} {fd : FuncData} (D : C8.Def K mg "_law_bite" s_law_bite f fd) (b : Binds K fd ["_law_window", "_law_pats", "_law_end"] []) : C8.Cal P w K mg base 1 "_law_bite" (sp_bite K) [] := by
  refine C8.cal0 D b .nil sc_law_bite (fun vs H Q E h => ?_) fun cdv A outer s H vs Q E hr h => ?_
  · obtain ⟨W, S, lo, hi, e, ps, rfl, _⟩ := h; rfl
  · obtain ⟨W, S, lo, hi, e, ps, rfl, hW, hS, h0, h1, e0, e1, asc, k1, k2⟩ := h
    have nd := sc_law_bite.nd
    refine ⟨_, (pss_cons (ps_set (i := 3) nd rfl (Or.inl rfl) pe_int)
      (pss_cons (ps_set (i := 4) nd rfl (Or.inl rfl) (pe_callTy (r := rListOf K) call_list1 (by rfl) T.n_list (by decide +kernel) (pa_cons (pv 1) pa_nil)))
      (pss_cons (ps_for PassesOwn.never rfl (pi_range1 rfl T.n_range (pa_cons (pe_op op_add (pv 2) pe_int) pa_nil)) (pg_name (i := 5) nd rfl (Or.inl rfl)) (pss_cons (ps_if (pt_cmpR op_eq (pv 5) (pe_op op_add (pe_op op_add (pv 3) (pe_ix (r := rIxT K) ix_tup (pv 0) pe_int (fun _ _ => rfl))) pe_int) (nomark _)) (pss_one (ps_ret (pe_tup (pa_cons (pv 5) (pa_cons pe_str pa_nil))))) pss_nil)
      (pss_one (ps_while PassesOwn.never (PW.pt (pw_and (pt_cmpR (r := rNeD K) (op_neD hr.units) (pv 4) (pe_lst pa_nil) (nomark _)) (pw_and1 (pt_cmpR op_eq (pe_ix (r := rIxL K) ix_list (pv 4) pe_int (fun _ _ => rfl)) (pv 5) (nomark _))))) (pss_cons (ps_if (pt_cmpR op_lt (pv 5) (pe_op op_add (pv 3) (pe_ix (r := rIxT K) ix_tup (pv 0) pe_int (fun _ _ => rfl))) (nomark _)) (pss_one (ps_ret (pe_tup (pa_cons (pv 5) (pa_cons pe_str pa_nil))))) pss_nil)
      (pss_cons (ps_set (i := 3) nd rfl (Or.inl rfl) (pv 5))
      (pss_one (ps_set (i := 4) nd rfl (Or.inl rfl) (pe_slice (r := rSlL K) sl_list (pv 4) (po_some pe_int) po_none)))))))))
      (pss_one (ps_ret pe_non))))), ?_⟩
    walk_at "go"
    refine g_listOf hS ?_
    intro L hL
    walk_at "go"
    refine w_range (by omega) (by omega) (fun i σ H' => ∃ (last : Int) (ls : List Int) (L : Addr) (v : Option V), σ = [some (.ref W), some (.ref S), some (.int e), some (.int last), some (.ref L), v] ∧ Same H H' ∧ H' L = some (.lst (ls.map V.int)) ∧
      fb lo hi 0 ps = fb lo hi last ls ∧ Asc i ls ∧ last ≤ i ∧ (i : Int) ≤ last + hi + 1) ?_ ?_ ?_
    · exact ⟨0, ps, L, none, rfl, same_new hL, upd_same, rfl, asc, by omega, by omega⟩
    · rintro i σ H' hik ⟨last, ls, L, v, rfl, sm, eL, ef, al, c1, c2⟩
      have hW' : SqT K H' W [.int lo, .int hi] := tup_same sm hW
      walk_at "go"
      refine g_ixT hW' rfl ?_
      walk_at "go"
      refine g_ite (fun hl => ?_) (fun hl => ?_)
      · walk_at "go"
        intro q hq
        rw [hl] at al
        rw [fb_is_late al] at ef
        refine k2 _ _ _ q ?_ (sm.trans (same_new hq)) upd_same
        unfold bite
        rw [ef, if_neg (by show ¬ (last + hi + 1) > e; omega), hl]
      · walk_at "go"
        refine w_loop (fun m σ H' => ∃ (last : Int) (ls : List Int) (L : Addr), m = ls.length ∧ σ = [some (.ref W), some (.ref S), some (.int e), some (.int last), some (.ref L), some (.int i)] ∧ Same H H' ∧ H' L = some (.lst (ls.map V.int)) ∧
          fb lo hi 0 ps = fb lo hi last ls ∧ Asc i ls ∧ last ≤ i ∧ (i : Int) ≤ last + hi) ls.length ?_ ?_
        · exact ⟨last, ls, L, rfl, rfl, sm, eL, ef, al, c1, by omega⟩
        · rintro m σ H2 ⟨last, ls, L, rfl, rfl, sm, eL, ef, al, c1, c2⟩
          walk_at "go"
          intro n hn
          have sm3 := sm.trans (same_new (o := .lst ([] : List V)) hn)
          have eL3 := same_new (o := .lst ([] : List V)) hn _ _ eL
          walk_at "go"
          refine g_neLI (ns := ls) (ms := []) (SqL.of eL3) (SqL.of upd_same) ?_
          walk_at "go"
          refine g_iteN (fun hne => ?_) (fun he => ?_)
          · cases ls with
            | nil => exact absurd rfl hne
            | cons p ls =>
              walk_at "go"
              refine g_ixL (v := V.int p) (SqL.of eL3) (at_of (j := 0) rfl rfl) ?_
              walk_at "go"
              refine g_ite (fun hp => ?_) (fun hp => ?_)
              · subst hp
                refine ⟨fun σ' H' => ∃ m', m' < (((i : Int)) :: ls).length ∧ _, fun σ' H' h => h, ?_⟩
                walk_at "go"
                refine g_ixT (tup_same sm3 hW) rfl ?_
                walk_at "go"
                refine g_ite (fun he => ?_) (fun he => ?_)
                · walk_at "go"
                  intro q hq
                  rw [fb_early (by omega) he] at ef
                  refine k2 _ _ _ q ?_ (sm3.trans (same_new hq)) upd_same
                  unfold bite
                  rw [ef, if_neg (by show ¬ (i : Int) > e; omega)]
                · walk_at "go"
                  refine g_slL (SqL.of eL3) ?_
                  intro q hq
                  walk_at "go"
                  rw [fb_next (by omega) he] at ef
                  refine ⟨ls.length, by simp, i, ls, q, rfl, rfl, sm3.trans (same_new hq), ?_, ef, al.2, by omega, by omega⟩
                  rw [upd_same, cut1]; rfl
              · -- the first is another moment
                walk_at "go"
                have := al.1
                exact ⟨last, p :: ls, L, _, rfl, sm3, eL3, ef, ⟨by omega, al.2⟩, by omega, by omega⟩
          · subst he
            walk_at "go"
            exact ⟨last, [], L, _, rfl, sm3, eL3, ef, trivial, by omega, by omega⟩
    · rintro σ H' ⟨last, ls, L, v, rfl, sm, eL, ef, al, c1, c2⟩
      walk_at "go"
      refine k1 _ sm ?_
      unfold bite
      have := fb_ge (lo := lo) (by omega : 0 ≤ hi) al c2
      rw [ef, if_pos (by omega)]
end
end K13
namespace K13
open PySem PySem.Spec PyProof.Rows L2 Wd
section
variable {P : Program} {w : World} {K : PySem.W.Frag} {mg : Str → Option Value} {base : Heap} {CW CT CB CM : Addr}
abbrev s_law_same : Stmt := top 33
theorem sc_law_same : FnScope ["_law_found", "_law_due", "_law_k"] ["_law_found", "_law_due"] (C8.fnScope s_law_same) := C8.fnScope_by (by decide +kernel)
/-- two things of the same data: told to be the same -/
def sp_same (K : PySem.W.Frag) : Nat → Sp
  | 0 => fun _ _ _ _ => False
  | n + 1 => fun vs H Q _ => ∃ (x y : V) (d : PyData), vs = [x, y] ∧ Dp K H x d ∧ Dp K H y d ∧ OkD n d ∧ ∀ H', Same H H' → Q (.bl true) H'
theorem same_step (T : Txt K mg CW CT CB CM) {n : Nat} {f : Addr} {fd : FuncData} (D : C8.Def K mg "_law_same" s_law_same f fd) (b : Binds K fd ["_law_found", "_law_due"] []) (g_law_same : C8.Cal P w K mg base n "_law_same" (sp_same K n) []) : C8.Cal P w K mg base (n + 1) "_law_same" (sp_same K (n + 1)) [] := by
  refine C8.cal0 D b .nil sc_law_same (fun vs H Q E h => ?_) fun cdv A outer s H vs Q E hr h => ?_
  · obtain ⟨x, y, d, rfl, _⟩ := h; rfl
  · obtain ⟨x, y, d, rfl, hx, hy, ok, q⟩ := h
    have nd := sc_law_same.nd
    have hr : Room n _ := hr
    refine ⟨_, (pss_cons (ps_if (pt_val (pe_callB (r := rIsiT K) call_isiT (by rfl) T.n_isinstance (by decide +kernel) (pa_cons (pv 1) (pa_cons (pe_tup (pa_cons (pe_bltn (v := .ty "tuple") (by rfl) T.n_tuple (by decide +kernel) rfl) (pa_cons (pe_bltn (v := .ty "list") (by rfl) T.n_list (by decide +kernel) rfl) pa_nil))) pa_nil)))) (pss_cons (ps_if (PW.pt (pw_or (pt_not (pt_val (pe_callB (r := rIsiT K) call_isiT (by rfl) T.n_isinstance (by decide +kernel) (pa_cons (pv 0) (pa_cons (pe_tup (pa_cons (pe_bltn (v := .ty "tuple") (by rfl) T.n_tuple (by decide +kernel) rfl) (pa_cons (pe_bltn (v := .ty "list") (by rfl) T.n_list (by decide +kernel) rfl) pa_nil))) pa_nil))))) (pw_or1 (pt_cmpR op_ne (pe_callB (r := rIsi K) call_isi (by rfl) T.n_isinstance (by decide +kernel) (pa_cons (pv 0) (pa_cons (pe_bltn (v := .ty "list") (by rfl) T.n_list (by decide +kernel) rfl) pa_nil))) (pe_callB (r := rIsi K) call_isi (by rfl) T.n_isinstance (by decide +kernel) (pa_cons (pv 1) (pa_cons (pe_bltn (v := .ty "list") (by rfl) T.n_list (by decide +kernel) rfl) pa_nil))) (nomark _))))) (pss_one (ps_ret pe_bl)) pss_nil)
      (pss_cons (ps_if (pt_cmpR op_ne (pe_callB (r := Wd.rLen K) call_len1 (by rfl) T.n_len PySem.boot_len (pa_cons (pv 0) pa_nil)) (pe_callB (r := Wd.rLen K) call_len1 (by rfl) T.n_len PySem.boot_len (pa_cons (pv 1) pa_nil)) (nomark _)) (pss_one (ps_ret pe_bl)) pss_nil)
      (pss_one (ps_ret (pe_cmpR (r := rEqD K) (op_eqD hr.units) (pe_lc (own := [("_law_k", 2)]) (g := gName 2) rfl nd (pi_range1 rfl T.n_range (pa_cons (pe_callB (r := Wd.rLen K) call_len1 (by rfl) T.n_len PySem.boot_len (pa_cons (pv 1) pa_nil)) pa_nil)) (blkOk_by (N := ["_law_found", "_law_due", "_law_k"]) (sc := C8.fnScope s_law_same) (by decide +kernel)) (fun _ _ _ _ _ => pg_name (i := 2) nd rfl (Or.inl rfl)) (fun _ _ _ _ _ => pts_one (pt_not (pt_val (C8.pe_c g_law_same hr (by first | decide | exact Nat.le_refl _ | omega) (by rfl) (pa_cons (pe_ix (r := rIx K) ix_seq (pv 0) (pv 2) (fun _ _ => rfl)) (pa_cons (pe_ix (r := rIx K) ix_seq (pv 1) (pv 2) (fun _ _ => rfl)) pa_nil)))))) (fun _ _ _ _ _ => (pv 2))) (pe_lst pa_nil) (nomark _)))))) pss_nil)
      (pss_cons (ps_if (pt_cmpR op_isN1 (pv 1) pe_non (nomark _)) (pss_one (ps_ret (pe_cmpR op_isN1 (pv 0) pe_non (nomark _)))) pss_nil)
      (pss_cons (ps_if (pt_val (pe_callB (r := rIsi K) call_isi (by rfl) T.n_isinstance (by decide +kernel) (pa_cons (pv 1) (pa_cons (pe_bltn (v := .ty "str") (by rfl) T.n_str (by decide +kernel) rfl) pa_nil)))) (pss_one (ps_ret (pe_and (pe_callB (r := rIsi K) call_isi (by rfl) T.n_isinstance (by decide +kernel) (pa_cons (pv 0) (pa_cons (pe_bltn (v := .ty "str") (by rfl) T.n_str (by decide +kernel) rfl) pa_nil))) (pe_one (pe_cmpR op_eq (pv 0) (pv 1) (nomark _)))))) pss_nil)
      (pss_cons (ps_if (PW.pt (pw_or (pt_val (pe_callB (r := rIsi K) call_isi (by rfl) T.n_isinstance (by decide +kernel) (pa_cons (pv 1) (pa_cons (pe_bltn (v := .ty "bool") (by rfl) T.n_bool (by decide +kernel) rfl) pa_nil)))) (pw_or1 (pt_val (pe_callB (r := rIsi K) call_isi (by rfl) T.n_isinstance (by decide +kernel) (pa_cons (pv 0) (pa_cons (pe_bltn (v := .ty "bool") (by rfl) T.n_bool (by decide +kernel) rfl) pa_nil))))))) (pss_one (ps_ret (pe_and (pe_callB (r := rIsi K) call_isi (by rfl) T.n_isinstance (by decide +kernel) (pa_cons (pv 1) (pa_cons (pe_bltn (v := .ty "bool") (by rfl) T.n_bool (by decide +kernel) rfl) pa_nil))) (pe_and (pe_callB (r := rIsi K) call_isi (by rfl) T.n_isinstance (by decide +kernel) (pa_cons (pv 0) (pa_cons (pe_bltn (v := .ty "bool") (by rfl) T.n_bool (by decide +kernel) rfl) pa_nil))) (pe_one (pe_cmpR op_eq (pv 0) (pv 1) (nomark _))))))) pss_nil)
      (pss_one (ps_ret (pe_and (pe_callB (r := rIsi K) call_isi (by rfl) T.n_isinstance (by decide +kernel) (pa_cons (pv 0) (pa_cons (pe_bltn (v := .ty "int") (by rfl) T.n_int (by decide +kernel) rfl) pa_nil))) (pe_one (pe_cmpR op_eq (pv 0) (pv 1) (nomark _)))))))))), ?_⟩
    walk_at "go"
    intro t1 ht1
    walk_at "go"
    have s1 := same_new (o := .tup [.ty "tuple", .ty "list"]) ht1
    have cls : Paired ClsV [.ty "tuple", .ty "list"] [.type "tuple", .type "list"] := .cons (.ty _) (.cons (.ty _) .nil)
    have hy1 := Dp_same s1 d y hy
    have hx1 := Dp_same s1 d x hx
    cases ok with
    | non =>
      cases hy1; cases hx1
      refine g_isiT upd_same cls (.base .non) (kit2 (r1 := false) (r2 := false) (by decide +kernel) (by decide +kernel)) ?_
      walk_at "go"
      exact q _ s1
    | str z =>
      cases hy1; cases hx1
      refine g_isiT upd_same cls (.base (.str _)) (kit2 (r1 := false) (r2 := false) (by decide +kernel) (by decide +kernel)) ?_
      walk_at "go"
      refine g_isiB (.ty _) (.base (.str _)) (b := true) (by decide +kernel) ?_
      walk_at "go"
      refine g_isiB (.ty _) (.base (.str _)) (b := true) (by decide +kernel) ?_
      walk_at "go"
      rw [decide_eq_true rfl]
      exact q _ s1
    | bl z =>
      cases hy1; cases hx1
      refine g_isiT upd_same cls (.base (.bl _)) (kit2 (r1 := false) (r2 := false) (by decide +kernel) (by decide +kernel)) ?_
      walk_at "go"
      refine g_isiB (.ty _) (.base (.bl _)) (b := false) (by decide +kernel) ?_
      walk_at "go"
      refine g_isiB (.ty _) (.base (.bl _)) (b := true) (by decide +kernel) ?_
      walk_at "go"
      refine g_isiB (.ty _) (.base (.bl _)) (b := true) (by decide +kernel) ?_
      walk_at "go"
      refine g_isiB (.ty _) (.base (.bl _)) (b := true) (by decide +kernel) ?_
      walk_at "go"
      rw [beq_self_eq_true]
      exact q _ s1
    | int z =>
      cases hy1; cases hx1
      refine g_isiT upd_same cls (.base (.int _)) (kit2 (r1 := false) (r2 := false) (by decide +kernel) (by decide +kernel)) ?_
      walk_at "go"
      refine g_isiB (.ty _) (.base (.int _)) (b := false) (by decide +kernel) ?_
      walk_at "go"
      refine g_isiB (.ty _) (.base (.int _)) (b := false) (by decide +kernel) ?_
      walk_at "go"
      refine g_isiB (.ty _) (.base (.int _)) (b := false) (by decide +kernel) ?_
      walk_at "go"
      refine g_isiB (.ty _) (.base (.int _)) (b := true) (by decide +kernel) ?_
      walk_at "go"
      rw [decide_eq_true rfl]
      exact q _ s1
    | @lst m ds hl hd =>
      cases hy1 with
      | @lst ay ys _ sy py =>
      cases hx1 with
      | @lst ax xs _ sx px =>
      refine g_isiT upd_same cls (ty_list sy) (kit2 (r1 := false) (r2 := true) (by decide +kernel) (by decide +kernel)) ?_
      walk_at "go"
      intro t2 ht2
      have s2 := s1.trans (same_new (o := .tup [.ty "tuple", .ty "list"]) ht2)
      have e2 := same_new (o := .tup [.ty "tuple", .ty "list"]) ht2
      walk_at "go"
      refine g_isiT upd_same cls (ty_list (list_same e2 sx)) (kit2 (r1 := false) (r2 := true) (by decide +kernel) (by decide +kernel)) ?_
      walk_at "go"
      refine g_isiB (.ty _) (ty_list (list_same e2 sx)) (b := true) (by decide +kernel) ?_
      walk_at "go"
      refine g_isiB (.ty _) (ty_list (list_same e2 sy)) (b := true) (by decide +kernel) ?_
      walk_at "go"
      refine g_len (.inl (list_same e2 sx)) ?_
      walk_at "go"
      refine g_len (.inl (list_same e2 sy)) ?_
      walk_at "go"
      rw [DpAll.len px, DpAll.len py]
      refine g_iteN (fun hh => absurd rfl hh) (fun _ => ?_)
      walk_at "go"
      refine g_len (.inl (list_same e2 sy)) ?_
      walk_at "go"
      rw [DpAll.len py]
      refine w_lcRange (by omega) (by omega) (fun D i H' => Same (upd H t1 (.tup [.ty "tuple", .ty "list"])) H' ∧ H' D = some (.lst [])) ?_ ?_ ?_
      · intro D hD
        exact ⟨e2.trans (same_new hD), upd_same⟩
      · rintro D i H' hD hi ⟨sm, eD⟩
        have hi' : i < ds.length := by omega
        have hdi : ds[i]? = some ds[i] := List.getElem?_eq_getElem hi'
        obtain ⟨vx, hvx, dvx⟩ := DpAll.at px hdi
        obtain ⟨vy, hvy, dvy⟩ := DpAll.at py hdi
        walk_at "go"
        refine ⟨rfl, ?_⟩
        walk_at "go"
        refine .inl ⟨ax, xs, _, vx, rfl, rfl, list_same sm sx, at_of (j := i) rfl hvx, ?_⟩
        walk_at "go"
        refine .inl ⟨ay, ys, _, vy, rfl, rfl, list_same sm sy, at_of (j := i) rfl hvy, ?_⟩
        walk_at "go"
        refine ⟨vx, vy, ds[i], rfl, Dp_same sm _ _ dvx, Dp_same sm _ _ dvy, hd _ (List.getElem_mem hi'), fun H3 s3 => ?_⟩
        walk_at "go"
        exact ⟨sm.trans s3, s3 _ _ eD⟩
      · rintro D H' hD ⟨sm, eD⟩
        walk_at "go"
        intro z hz
        walk_at "go"
        refine g_eqLI (ns := []) (ms := []) (SqL.of (same_new hz _ _ eD)) (SqL.of upd_same) ?_
        walk_at "go"
        exact q _ ((s1.trans sm).trans (same_new hz))
    | @tup m ds hl hd =>
      cases hy1 with
      | @tup ay ys _ sy py =>
      cases hx1 with
      | @tup ax xs _ sx px =>
      refine g_isiT upd_same cls (ty_tup sy) (kit2 (r1 := true) (r2 := false) (by decide +kernel) (by decide +kernel)) ?_
      walk_at "go"
      intro t2 ht2
      have s2 := s1.trans (same_new (o := .tup [.ty "tuple", .ty "list"]) ht2)
      have e2 := same_new (o := .tup [.ty "tuple", .ty "list"]) ht2
      walk_at "go"
      refine g_isiT upd_same cls (ty_tup (tup_same e2 sx)) (kit2 (r1 := true) (r2 := false) (by decide +kernel) (by decide +kernel)) ?_
      walk_at "go"
      refine g_isiB (.ty _) (ty_tup (tup_same e2 sx)) (b := false) (by decide +kernel) ?_
      walk_at "go"
      refine g_isiB (.ty _) (ty_tup (tup_same e2 sy)) (b := false) (by decide +kernel) ?_
      walk_at "go"
      refine g_len (.inr (tup_same e2 sx)) ?_
      walk_at "go"
      refine g_len (.inr (tup_same e2 sy)) ?_
      walk_at "go"
      rw [DpAll.len px, DpAll.len py]
      refine g_iteN (fun hh => absurd rfl hh) (fun _ => ?_)
      walk_at "go"
      refine g_len (.inr (tup_same e2 sy)) ?_
      walk_at "go"
      rw [DpAll.len py]
      refine w_lcRange (by omega) (by omega) (fun D i H' => Same (upd H t1 (.tup [.ty "tuple", .ty "list"])) H' ∧ H' D = some (.lst [])) ?_ ?_ ?_
      · intro D hD
        exact ⟨e2.trans (same_new hD), upd_same⟩
      · rintro D i H' hD hi ⟨sm, eD⟩
        have hi' : i < ds.length := by omega
        have hdi : ds[i]? = some ds[i] := List.getElem?_eq_getElem hi'
        obtain ⟨vx, hvx, dvx⟩ := DpAll.at px hdi
        obtain ⟨vy, hvy, dvy⟩ := DpAll.at py hdi
        walk_at "go"
        refine ⟨rfl, ?_⟩
        walk_at "go"
        refine .inr (.inl ⟨ax, xs, _, vx, rfl, rfl, tup_same sm sx, at_of (j := i) rfl hvx, ?_⟩)
        walk_at "go"
        refine .inr (.inl ⟨ay, ys, _, vy, rfl, rfl, tup_same sm sy, at_of (j := i) rfl hvy, ?_⟩)
        walk_at "go"
        refine ⟨vx, vy, ds[i], rfl, Dp_same sm _ _ dvx, Dp_same sm _ _ dvy, hd _ (List.getElem_mem hi'), fun H3 s3 => ?_⟩
        walk_at "go"
        exact ⟨sm.trans s3, s3 _ _ eD⟩
      · rintro D H' hD ⟨sm, eD⟩
        walk_at "go"
        intro z hz
        walk_at "go"
        refine g_eqLI (ns := []) (ms := []) (SqL.of (same_new hz _ _ eD)) (SqL.of upd_same) ?_
        walk_at "go"
        exact q _ ((s1.trans sm).trans (same_new hz))
/-- at every depth -/
theorem ok_same (T : Txt K mg CW CT CB CM) {f : Addr} {fd : FuncData} (D : C8.Def K mg "_law_same" s_law_same f fd) (b : Binds K fd ["_law_found", "_law_due"] []) : ∀ n : Nat, C8.Cal P w K mg base n "_law_same" (sp_same K n) []
  | 0 => ⟨f, fd, ["_law_found", "_law_due"], [], ⟨fun _ _ _ _ h => h.elim, fun _ _ _ _ _ _ _ _ _ _ _ _ _ h => h.elim⟩, D.mgf, D.kp, b, .nil⟩
  | n + 1 => same_step T D b (ok_same T D b n)
end
end K13
namespace K13
open PySem PySem.Spec PyProof.Rows L2 Wd
/-! ### the keeper, moment by moment -/
def told (l t : Int) (m : List Int) : Bool := m.any fun x => decide (l < x ∧ x ≤ t)
theorem told_iff {l t : Int} {m : List Int} : told l t m = true ↔ ∃ x ∈ m, l < x ∧ x ≤ t := by
  unfold told
  rw [List.any_eq_true]
  exact ⟨fun ⟨x, h, e⟩ => ⟨x, h, of_decide_eq_true e⟩, fun ⟨x, h, e⟩ => ⟨x, h, decide_eq_true e⟩⟩
theorem told_none {l t : Int} {m : List Int} (h : t ≤ l) : told l t m = false := by
  cases e : told l t m with
  | false => rfl
  | true => obtain ⟨x, _, h1, h2⟩ := told_iff.mp e; omega
theorem told_map {l t : Int} (h : t ≤ l) : ∀ ms : List (List Int), ms.map (told l t) = List.replicate ms.length false
  | [] => rfl
  | m :: ms => by rw [List.map_cons, told_none h, told_map h ms, List.length_cons, List.replicate_succ]
theorem told_step {l t : Int} {m : List Int} (h : l < t) : told l t m = (told l (t - 1) m || decide (t ∈ m)) := by
  cases e : told l (t - 1) m || decide (t ∈ m) with
  | true =>
    rw [Bool.or_eq_true] at e
    rcases e with e | e
    · obtain ⟨x, hx, h1, h2⟩ := told_iff.mp e
      exact told_iff.mpr ⟨x, hx, h1, by omega⟩
    · exact told_iff.mpr ⟨t, of_decide_eq_true e, h, Int.le_refl _⟩
  | false =>
    rw [Bool.or_eq_false_iff] at e
    cases e2 : told l t m with
    | false => rfl
    | true =>
      obtain ⟨x, hx, h1, h2⟩ := told_iff.mp e2
      by_cases c : x = t
      · subst c
        have := of_decide_eq_false e.2
        exact absurd hx this
      · have := told_iff.mpr ⟨x, hx, h1, show x ≤ t - 1 by omega⟩
        rw [e.1] at this; cases this
/-- the first moment behind l is no later than any other -/
theorem ix_first : ∀ {m : List Int} {l x : Int}, m.Pairwise (· < ·) → x ∈ m → l < x → ∃ y, m[ix m l]? = some y ∧ y ≤ x
  | [], _, _, _, h, _ => nomatch h
  | z :: zs, l, x, p, h, hx => by
    rw [List.pairwise_cons] at p
    unfold ix
    rw [List.mem_cons] at h
    by_cases c : l < z
    · rw [if_pos c]
      refine ⟨z, rfl, ?_⟩
      rcases h with rfl | h
      · omega
      · have := p.1 x h; omega
    · rw [if_neg c]
      rcases h with rfl | h
      · omega
      · obtain ⟨y, e, hy⟩ := ix_first p.2 h hx
        exact ⟨y, e, hy⟩
theorem due_of_told {l t : Int} : ∀ {ms : List (List Int)} {d : Int}, (∀ m ∈ ms, m.Pairwise (· < ·)) → (∀ m ∈ ms, told l t m = true) → d ≤ t → ∃ r, due l ms d = some r ∧ r ≤ t
  | [], d, _, _, hd => ⟨d, rfl, hd⟩
  | m :: ms, d, hp, h, hd => by
    obtain ⟨x, hx, h1, h2⟩ := told_iff.mp (h m List.mem_cons_self)
    obtain ⟨y, e, hy⟩ := ix_first (hp m List.mem_cons_self) hx h1
    obtain ⟨r, er, hr⟩ := due_of_told (l := l) (t := t) (ms := ms) (d := if y > d then y else d) (fun k hk => hp k (List.mem_cons_of_mem _ hk)) (fun k hk => h k (List.mem_cons_of_mem _ hk)) (by split <;> omega)
    exact ⟨r, by rw [due_yes e]; exact er, hr⟩
theorem told_of_due {l t : Int} : ∀ {ms : List (List Int)} {d r : Int}, due l ms d = some r → r ≤ t → ∀ m ∈ ms, told l t m = true
  | [], _, _, _, _, _, h => nomatch h
  | k :: ms, d, r, h, hr, m, hm => by
    cases e : k[ix k l]? with
    | none => rw [due_no e] at h; cases h
    | some x =>
      rw [due_yes e] at h
      rw [List.mem_cons] at hm
      rcases hm with rfl | hm
      · have := due_ge h
        refine told_iff.mpr ⟨x, List.mem_of_getElem? e, ix_at e, ?_⟩
        split at this <;> omega
      · exact told_of_due h hr m hm
theorem least_beat {d b t : Int} (hb : 1 ≤ b) (hd : d ≤ t) (ht : t % b = 0) : (d + b - 1) / b * b ≤ t := by
  have h1 := (up_beat (d := d) hb).2
  have e := Int.mul_ediv_add_emod t b
  rw [ht, Int.add_zero] at e
  have h2 : (d + b - 1) / b * b < (t / b + 1) * b := by rw [Int.add_mul, Int.one_mul, Int.mul_comm (t / b) b, e]; omega
  have h3 := Int.lt_of_mul_lt_mul_right h2 (by omega)
  have h4 : (d + b - 1) / b * b ≤ t / b * b := Int.mul_le_mul_of_nonneg_right (by omega) (by omega)
  rw [Int.mul_comm (t / b) b, e] at h4
  exact h4
theorem nx_now {b l t : Int} {ms : List (List Int)} (hb : 1 ≤ b) (hp : ∀ m ∈ ms, m.Pairwise (· < ·)) (hl : l < t) (hq : ∀ q, nx b ms l = some q → t ≤ q) : (t % b = 0 ∧ ∀ m ∈ ms, told l t m = true) ↔ nx b ms l = some t := by
  constructor
  · rintro ⟨h1, h2⟩
    obtain ⟨r, er, hr⟩ := due_of_told hp h2 (show l + 1 ≤ t by omega)
    have e : nx b ms l = some ((r + b - 1) / b * b) := by unfold nx; rw [er]; rfl
    have := hq _ e
    have := least_beat hb hr h1
    rw [e]
    congr 1
    omega
  · intro h
    unfold nx at h
    cases er : due l ms (l + 1) with
    | none => rw [er] at h; cases h
    | some r =>
      rw [er] at h
      have e : (r + b - 1) / b * b = t := Option.some.inj h
      have := (up_beat (d := r) hb).1
      exact ⟨by rw [← e]; exact Int.mul_emod_left _ _, told_of_due er (by omega)⟩
theorem inV_int (x : Int) : ∀ m : List Int, inV (.int x) (m.map V.int) = decide (x ∈ m)
  | [] => rfl
  | y :: ys => by
    have ih := inV_int x ys
    unfold inV at ih ⊢
    rw [List.map_cons, List.any_cons, ih]
    show ((y == x) || decide (x ∈ ys)) = decide (x ∈ y :: ys)
    by_cases c : y = x
    · subst c; simp
    · have : (y == x) = false := by simpa using c
      rw [this, Bool.false_or]
      have c' : ¬ x = y := fun z => c z.symm
      simp [c']
theorem flat_ints (m : List Int) : (m.map V.int).all flatV = true := by rw [List.all_eq_true]; intro y hy; obtain ⟨z, _, rfl⟩ := List.mem_map.mp hy; rfl
theorem flat_bls (m : List Bool) : (m.map V.bl).all flatV = true := by rw [List.all_eq_true]; intro y hy; obtain ⟨z, _, rfl⟩ := List.mem_map.mp hy; rfl
theorem inV_no : ∀ bs : List Bool, inV (.bl false) (bs.map V.bl) = decide (∃ b ∈ bs, b = false)
  | [] => by simp [inV]
  | c :: cs => by
    have ih := inV_no cs
    unfold inV at ih ⊢
    rw [List.map_cons, List.any_cons, ih]
    show ((c == false) || _) = _
    cases c <;> simp
theorem w_range2 {σ : L2.St} {H : Hp} {a : L2.St → Hp → Prop} {b : VK} {g : TG} {tb : TS} {lo n : Int} (h1 : -(2 ^ 62) ≤ lo ∧ lo < 2 ^ 62 ∧ -(2 ^ 62) ≤ n ∧ n < 2 ^ 62) (Pv : Nat → L2.St → Hp → Prop) (h0 : Pv 0 σ H)
    (hs : ∀ i σ H, i < (n - lo).toNat → Pv i σ H → g (.int (lo + i)) σ H fun σ2 H2 => tb ⟨Pv (i + 1), b, a, Pv (i + 1)⟩ σ2 H2) (hd : ∀ σ H, Pv (n - lo).toNat σ H → a σ H) :
    ∃ i j : Int, [V.int lo, .int n] = [.int i, .int j] ∧ (-(2 ^ 62) ≤ i ∧ i < 2 ^ 62 ∧ -(2 ^ 62) ≤ j ∧ j < 2 ^ 62) ∧ ForEnd g tb a b σ (Itr i (j - i).toNat) H :=
  ⟨lo, n, rfl, h1, for_range (D := ⟨a, b, fun _ _ => False, fun _ _ => False⟩) Pv h0 hs hd⟩
section
variable {P : Program} {w : World} {K : PySem.W.Frag} {mg : Str → Option Value} {base : Heap} {CW CT CB CM : Addr}
abbrev s_law_keeper : Stmt := top 35
theorem sc_law_keeper : FnScope ["_law_beat", "_law_reports_here", "_law_end", "_law_found", "_law_told", "_law_moments", "_law_now", "_law_k"] ["_law_beat", "_law_reports_here", "_law_end"] (C8.fnScope s_law_keeper) := C8.fnScope_by (by decide +kernel)
def sp_keeper (K : PySem.W.Frag) : Sp := fun vs H Q _ => ∃ (b e : Int) (R : Addr) (as : List Addr) (ms : List (List Int)), vs = [.int b, .ref R, .int e] ∧ 1 ≤ b ∧ Rep K H R as ms ∧ (∀ m ∈ ms, m.Pairwise (· < ·)) ∧ ms.length ≤ 1000 ∧ 0 ≤ e ∧ e ≤ 90000 ∧ ∀ H' L, Same H H' → H L = none → H' L = some (.lst ((kp b ms e).map V.int)) → Q (.ref L) H'
def LInv (H : Hp) (b e : Int) (R F : Addr) (ms : List (List Int)) (i : Nat) (σ : L2.St) (H' : Hp) : Prop := ∃ (TA : Addr) (acc : List Int) (l : Int) (n : Nat) (v5 v6 v7 : Option V),
  σ = [some (.int b), some (.ref R), some (.int e), some (.ref F), some (.ref TA), v5, v6, v7] ∧ Same H H' ∧ H' F = some (.lst (acc.map V.int)) ∧ H' TA = some (.lst ((ms.map (told l i)).map V.bl)) ∧ TA ≠ F ∧ 0 ≤ l ∧ l ≤ i ∧ acc ++ up (nx b ms) e n l = kp b ms e ∧ (e - l).toNat < n ∧ (acc.length : Int) ≤ l ∧ ∀ q, nx b ms l = some q → (i : Int) + 1 ≤ q
theorem ok_keeper (T : Txt K mg CW CT CB CM) {f : Addr} {fd : FuncData} (D : C8.Def K mg "_law_keeper" s_law_keeper f fd) (b : Binds K fd ["_law_beat", "_law_reports_here", "_law_end"] []) : C8.Cal P w K mg base 1 "_law_keeper" (sp_keeper K) [] := by
  refine C8.cal0 D b .nil sc_law_keeper (fun vs H Q E h => ?_) fun cdv A outer s H vs Q E hr h => ?_
  · obtain ⟨b, e, R, as, ms, rfl, _⟩ := h; rfl
  · obtain ⟨b, e, R, as, ms, rfl, hb, rp, hp, hlen, e0, e1, q⟩ := h
    have nd := sc_law_keeper.nd
    refine ⟨_, (pss_cons (ps_set (i := 3) nd rfl (Or.inl rfl) (pe_lst pa_nil))
      (pss_cons (ps_set (i := 4) nd rfl (Or.inr rfl) (pe_lc (own := [("_law_moments", 5)]) (g := gName 5) (tt := tYes) rfl nd (pi_list (pv 1)) (blkOk_by (N := ["_law_beat", "_law_reports_here", "_law_end", "_law_found", "_law_told", "_law_moments", "_law_now", "_law_k"]) (sc := C8.fnScope s_law_keeper) (by decide +kernel)) (fun _ _ _ _ _ => pg_name (i := 5) nd rfl (Or.inl rfl)) (fun _ _ _ _ _ => pts_nil) (fun _ _ _ _ _ => pe_bl)))
      (pss_cons (ps_for PassesOwn.never rfl (pi_range2 rfl T.n_range (pa_cons pe_int (pa_cons (pe_op op_add (pv 2) pe_int) pa_nil))) (pg_name (i := 6) nd rfl (Or.inr rfl)) (pss_cons (ps_set (i := 4) nd rfl (Or.inr rfl) (pe_lc (own := [("_law_k", 7)]) (g := gName 7) (tt := tYes) rfl nd (pi_range1 rfl T.n_range (pa_cons (pe_callB (r := Wd.rLen K) call_len1 (by rfl) T.n_len PySem.boot_len (pa_cons (pv 1) pa_nil)) pa_nil)) (blkOk_by (N := ["_law_beat", "_law_reports_here", "_law_end", "_law_found", "_law_told", "_law_moments", "_law_now", "_law_k"]) (sc := C8.fnScope s_law_keeper) (by decide +kernel)) (fun _ _ _ _ _ => pg_name (i := 7) nd rfl (Or.inl rfl)) (fun _ _ _ _ _ => pts_nil) (fun _ _ _ _ _ => (pe_or (pe_ix (r := rIxL K) ix_list (pv 4) (pv 7) (fun _ _ => rfl)) (pe_one (pe_cmpR (r := rIn K false) op_in_seq (pv 6) (pe_ix (r := rIxL K) ix_list (pv 1) (pv 7) (fun _ _ => rfl)) (by with_unfolding_all rfl)))))))
      (pss_one (ps_if (PW.pt (pw_and (pt_cmpR op_eq (pe_op op_mod (pv 6) (pv 0)) pe_int (nomark _)) (pw_and1 (pt_cmpR (r := rIn K true) op_notIn_seq pe_bl (pv 4) (by with_unfolding_all rfl))))) (pss_cons (ps_expr (pe_bmK (K := K) rfl PySem.F.plainAttrs_list PySem.F.slot_list_append PySem.F.type_list_append mt_append (pv 3) (pa_cons (pv 6) pa_nil)))
      (pss_one (ps_set (i := 4) nd rfl (Or.inr rfl) (pe_lc (own := [("_law_moments", 5)]) (g := gName 5) (tt := tYes) rfl nd (pi_list (pv 1)) (blkOk_by (N := ["_law_beat", "_law_reports_here", "_law_end", "_law_found", "_law_told", "_law_moments", "_law_now", "_law_k"]) (sc := C8.fnScope s_law_keeper) (by decide +kernel)) (fun _ _ _ _ _ => pg_name (i := 5) nd rfl (Or.inl rfl)) (fun _ _ _ _ _ => pts_nil) (fun _ _ _ _ _ => pe_bl))))) pss_nil))))
      (pss_one (ps_ret (pv 3)))))), ?_⟩
    walk_at "go"
    intro F hF
    have s1 := same_new (o := .lst []) hF
    have eF := upd_same (H := H) (a := F) (o := .lst [])
    generalize upd H F (.lst []) = H1 at s1 eF
    walk_at "go"
    refine w_lcList (rp.same s1).at_ (fun D i H' => Same H1 H' ∧ H' D = some (.lst ((List.replicate i false).map V.bl))) (fun D hD => ⟨same_new hD, upd_same⟩) (fun D i H' hD _ h => list_same h.1 (rp.same s1).at_) (fun D i y H' hD hy h => ?_) (fun TA H2 hTA h => ?_)
    · walk_at "go"
      refine ⟨rfl, ?_⟩
      walk_at "go"
      have li := (List.getElem?_eq_some_iff.mp hy).1
      rw [List.length_map, rp.len] at li
      exact ⟨_, h.2, by rw [sizeLine_eq, List.length_map, List.length_replicate]; omega, Wd.Same.mut h.1 hD, by rw [upd_same, List.replicate_succ', List.map_append]; rfl⟩
    obtain ⟨s2, eT⟩ := h
    rw [List.length_map, rp.len] at eT
    have no0 : List.replicate ms.length false = ms.map (told 0 ((0 : Nat) : Int)) := (told_map (Int.le_refl _) ms).symm
    rw [no0] at eT
    have hTF : TA ≠ F := fun z => by rw [z, eF] at hTA; cases hTA
    have eF2 := s2 _ _ eF
    have s02 := s1.trans s2
    walk_at "go"
    refine w_range2 (by omega) (LInv H b e R F ms) ?_ ?_ ?_
    · exact ⟨TA, [], 0, e.toNat + 1, _, _, _, rfl, s02, eF2, eT, hTF, Int.le_refl _, by simp, rfl, by omega, by simp, fun q hq => by have := nx_gt hb hq; simp only [Int.natCast_zero]; omega⟩
    · clear eT hTF eF2 s02 no0 s2 hTA eF s1
      rintro i σ H3 hi ⟨TA, acc, l, n, v5, v6, v7, rfl, s3, eF3, eT3, hTF, l0, li, er, fu, al, nq⟩
      have r3 := rp.same s3
      walk_at "go"
      refine g_len (.inl r3.at_) ?_
      walk_at "go"
      rw [List.length_map, rp.len]
      have r3l := r3.len
      refine w_lcRange (by omega) (by omega) (fun D j H' => Same H3 H' ∧ H' D = some (.lst (((ms.take j).map (told l (i + 1 : Nat))).map V.bl))) (fun D hD => ⟨same_new hD, by rw [List.take_zero]; exact upd_same⟩) (fun D j H' hD hj h => ?_) (fun TB H4 hTB h => ?_)
      · have hj' : j < ms.length := by omega
        have hm : ms[j]? = some ms[j] := List.getElem?_eq_getElem hj'
        generalize ms[j] = m at hm
        have ha : as[j]? = some (as[j]'(by rw [r3l]; exact hj')) := List.getElem?_eq_getElem _
        generalize as[j]'(by rw [r3l]; exact hj') = a at ha
        have rA := list_same h.1 (r3.own j a m ha hm)
        have et : told l ((i + 1 : Nat) : Int) m = (told l i m || decide ((1 : Int) + i ∈ m)) := by
          have := told_step (l := l) (t := (i + 1 : Nat)) (m := m) (by omega)
          rw [this]
          congr 2
          · omega
          · congr 1; omega
        have ej : (ms.take (j + 1)).map (told l (i + 1 : Nat)) = (ms.take j).map (told l (i + 1 : Nat)) ++ [told l (i + 1 : Nat) m] := by
          rw [List.take_add_one, hm, List.map_append]; rfl
        have lj : ((ms.take j).map (told l (i + 1 : Nat))).length ≤ 1000 := by
          rw [List.length_map]; have := List.length_take_le j ms; omega
        walk_at "go"
        refine ⟨rfl, ?_⟩
        walk_at "go"
        refine g_ixL (SqL.of (h.1 _ _ eT3)) (at_of (j := j) (v := .bl (told l i m)) rfl (by rw [List.getElem?_map, List.getElem?_map, hm]; rfl)) ?_
        refine ⟨_, rfl, ?_⟩
        cases ct : told l i m with
        | true =>
          rw [ct, Bool.true_or] at et
          rw [et] at ej
          walk_at "go"
          exact ⟨_, h.2, by rw [sizeLine_eq, List.length_map]; omega, Wd.Same.mut h.1 hD, by rw [upd_same, ej, List.map_append]; rfl⟩
        | false =>
          rw [ct, Bool.false_or] at et
          rw [et] at ej
          walk_at "go"
          refine g_ixL (list_same h.1 r3.at_) (at_of (j := j) (v := .ref a) rfl (by rw [List.getElem?_map, ha]; rfl)) ?_
          refine ⟨a, m.map V.int, rfl, .inl rA, rfl, flat_ints m, ?_⟩
          rw [inV_int]
          exact ⟨_, h.2, by rw [sizeLine_eq, List.length_map]; omega, Wd.Same.mut h.1 hD, by rw [upd_same, ej, List.map_append]; rfl⟩
      obtain ⟨s4, eT4⟩ := h
      have et : (ms.length : Int).toNat = ms.length := by omega
      rw [et, List.take_length] at eT4
      have hTBF : TB ≠ F := fun z => by rw [z, eF3] at hTB; cases hTB
      have s04 := s3.trans s4
      have eF4 := s4 _ _ eF3
      have iff := nx_now hb hp (show l < ((i + 1 : Nat) : Int) by omega) (fun q hq => by have := nq q hq; omega)
      have no : ∀ q, nx b ms l = some q → ¬ nx b ms l = some ((i + 1 : Nat) : Int) → ((i + 1 : Nat) : Int) + 1 ≤ q := fun q hq hn => by
        have := nq q hq
        by_cases c : q = ((i + 1 : Nat) : Int)
        · rw [c] at hq; exact absurd hq hn
        · omega
      have e1i : (1 : Int) + i = ((i + 1 : Nat) : Int) := by omega
      walk_at "go"
      refine g_I (show 0 < b by omega) ?_
      walk_at "go"
      refine g_ite (fun c1 => ?_) (fun c1 => ?_)
      · walk_at "go"
        refine ⟨TB, _, rfl, .inl (SqL.of eT4), rfl, flat_bls _, ?_⟩
        rw [if_pos rfl, inV_no]
        refine ⟨_, rfl, ?_⟩
        refine g_iteN (fun c2 => ?_) (fun c2 => ?_)
        · have all : ∀ m ∈ ms, told l ((i + 1 : Nat) : Int) m = true := fun m hm => by
            cases ct : told l ((i + 1 : Nat) : Int) m with
            | true => rfl
            | false => exact absurd ⟨false, List.mem_map.mpr ⟨m, hm, ct⟩, rfl⟩ c2
          have hq := iff.mp ⟨by rw [← e1i]; exact c1, all⟩
          have ile : ¬ ((i + 1 : Nat) : Int) > e := by omega
          match n, fu, er with
          | n + 1, fu, er =>
          rw [up_pat hq ile] at er
          rw [e1i]
          walk_at "go"
          refine g_tyL eF4 ?_
          walk_at "go"
          refine g_append eF4 (by rw [List.length_map]; omega) ?_
          have s05 : Same H (upd H4 F (.lst (acc.map V.int ++ [.int ((i + 1 : Nat) : Int)]))) := Wd.Same.mut s04 hF
          have eF5 := upd_same (H := H4) (a := F) (o := .lst (acc.map V.int ++ [.int ((i + 1 : Nat) : Int)]))
          generalize upd H4 F (.lst (acc.map V.int ++ [.int ((i + 1 : Nat) : Int)])) = H5 at s05 eF5
          walk_at "go"
          have r5 := rp.same s05
          refine w_lcList r5.at_ (fun D j H' => Same H5 H' ∧ H' D = some (.lst ((List.replicate j false).map V.bl))) (fun D hD => ⟨same_new hD, upd_same⟩) (fun D j H' hD _ h => list_same h.1 r5.at_) (fun D j y H' hD hy h => ?_) (fun TC H6 hTC h => ?_)
          · walk_at "go"
            refine ⟨rfl, ?_⟩
            walk_at "go"
            have li := (List.getElem?_eq_some_iff.mp hy).1
            rw [List.length_map, rp.len] at li
            exact ⟨_, h.2, by rw [sizeLine_eq, List.length_map, List.length_replicate]; omega, Wd.Same.mut h.1 hD, by rw [upd_same, List.replicate_succ', List.map_append]; rfl⟩
          obtain ⟨s6, eT6⟩ := h
          rw [List.length_map, rp.len, ← told_map (Int.le_refl ((i + 1 : Nat) : Int))] at eT6
          have hTCF : TC ≠ F := fun z => by rw [z, eF5] at hTC; cases hTC
          walk_at "go"
          refine ⟨TC, acc ++ [((i + 1 : Nat) : Int)], ((i + 1 : Nat) : Int), n, _, _, _, rfl, s05.trans s6, by rw [List.map_append]; exact s6 _ _ eF5, eT6, hTCF, by omega, Int.le_refl _, by rw [List.append_assoc]; exact er, by omega, by rw [List.length_append, List.length_singleton]; omega, fun q hq => ?_⟩
          have := nx_gt hb hq
          omega
        · have hn : ¬ nx b ms l = some ((i + 1 : Nat) : Int) := fun z => by
            obtain ⟨bb, hbb, rfl⟩ := c2
            obtain ⟨m, hm, e⟩ := List.mem_map.mp hbb
            rw [(iff.mpr z).2 m hm] at e; cases e
          walk_at "go"
          exact ⟨TB, acc, l, n, _, _, _, rfl, s04, eF4, eT4, hTBF, l0, by omega, er, fu, al, fun q hq => no q hq hn⟩
      · have hn : ¬ nx b ms l = some ((i + 1 : Nat) : Int) := fun z => c1 (by rw [e1i]; exact (iff.mpr z).1)
        walk_at "go"
        exact ⟨TB, acc, l, n, _, _, _, rfl, s04, eF4, eT4, hTBF, l0, by omega, er, fu, al, fun q hq => no q hq hn⟩
    · rintro σ H3 ⟨TA, acc, l, n, v5, v6, v7, rfl, s3, eF3, eT3, hTF, l0, li, er, fu, al, nq⟩
      have et : (e + 1 - 1).toNat = e.toNat := by omega
      rw [et] at nq
      have eu : up (nx b ms) e n l = [] := by
        match n, fu with
        | n + 1, fu =>
        cases hq : nx b ms l with
        | none => exact up_none hq
        | some q => exact up_far hq (by have := nq q hq; omega)
      rw [eu, List.append_nil] at er
      walk_at "go"
      exact q H3 F s3 hF (by rw [← er]; exact eF3)
end
end K13
namespace K13
open PySem PySem.Spec PyProof.Rows L2 Wd RZ
local macro_rules | `(tactic| walk_at "gs") => `(tactic| repeat (first
  | with_reducible refine Wd.g_seq ?_
  | ((with_reducible show Ends.nx _ _ _); (with_reducible refine Wd.g_nx ?_))
  | with_reducible refine Wd.g_asg ?_
  | ((with_reducible refine' Wd.g_var ?h1 ?_); (case h1 => exact rfl))
  | with_reducible refine Wd.g_c ?_
  | with_reducible refine Wd.g_op ?_
  | with_reducible refine Wd.g_un ?_
  | with_reducible refine Wd.g_I0 ?_
  | with_reducible refine Wd.g_U ?_
  | with_reducible refine Wd.g_eqI ?_
  | with_reducible refine Wd.g_neI ?_
  | with_reducible refine Wd.g_eqS ?_
  | with_reducible refine Wd.g_neS ?_
  | with_reducible refine Wd.g_eqB ?_
  | with_reducible refine Wd.g_neB ?_
  | with_reducible refine Wd.g_isN ?_
  | with_reducible refine Wd.g_notN ?_
  | with_reducible refine Wd.g_lc ?_
  | with_reducible refine Wd.g_yes ?_
  | with_reducible refine Wd.g_test ?_
  | with_reducible refine Wd.g_tB ?_
  | with_reducible refine Wd.g_bl ?_
  | with_reducible refine Wd.g_blI ?_
  | with_reducible refine Wd.g_and ?_
  | with_reducible refine Wd.g_or ?_
  | with_reducible refine Wd.g_not ?_
  | with_reducible refine Wd.g_andV ?_
  | with_reducible refine Wd.g_orV ?_
  | with_reducible refine Wd.g_notV ?_
  | with_reducible refine Wd.g_if ?_
  | with_reducible refine Wd.g_chain ?_
  | with_reducible refine Wd.g_chain3 ?_
  | with_reducible refine Wd.g_nil ?_
  | with_reducible refine Wd.g_cons ?_
  | with_reducible refine Wd.g_tup ?_
  | with_reducible refine Wd.g_lst ?_
  | with_reducible refine Wd.g_CB ?_
  | with_reducible refine Wd.g_call ?_
  | with_reducible refine Wd.g_callS ?_
  | with_reducible refine Wd.g_bm ?_
  | with_reducible refine Wd.g_bm0 ?_
  | with_reducible refine Wd.g_sl ?_
  | with_reducible refine Wd.g_part ?_
  | with_reducible refine Wd.g_part1 ?_
  | with_reducible refine Wd.g_noPart ?_
  | with_reducible refine Wd.g_next ?_
  | with_reducible refine Wd.g_name ?_
  | with_reducible refine Wd.g_sub ?_
  | with_reducible refine Wd.g_gnil ?_
  | with_reducible refine Wd.g_gcons ?_
  | with_reducible refine Wd.g_drop ?_
  | with_reducible refine Wd.g_ret ?_
  | with_reducible refine Wd.g_retN ?_
  | with_reducible refine Wd.g_brk ?_
  | with_reducible refine Wd.g_cont ?_
  | ((with_reducible show Ends.bk _ _ _); (with_reducible refine Wd.g_bk ?_))
  | ((with_reducible show Ends.ct _ _ _); (with_reducible refine Wd.g_ct ?_))
  | ((with_reducible show Ends.rt _ _ _); (with_reducible refine Wd.g_rt ?_))
  | with_reducible refine Wd.g_for ?_
  | with_reducible refine Wd.g_rng1 ?_
  | with_reducible refine Wd.g_rng2 ?_
  | with_reducible refine Wd.g_iList ?_
  | with_reducible refine Wd.g_iTup ?_
  | ((with_reducible refine Wd.g_fit ?h1 ?_); (case h1 => exact rfl))
  | with_reducible refine Wd.g_max2 ?_
  | with_reducible refine Wd.g_min2 ?_
  | with_reducible refine Wd.g_int1B ?_
  | with_reducible refine L2.iteT ?_
  | with_reducible refine L2.iteF ?_
  | ((with_reducible refine Wd.g_itT ?h1 ?_); (case h1 => exact rfl))
  | ((with_reducible refine Wd.g_itF ?h1 ?_); (case h1 => exact rfl))))
/-- a step of the law's search: since each report, whether told since the last pat, since the last pat -/
structure LaSt (H : Hp) (S : Addr) (xs : List Int) (tl : List Bool) (gap : Int) : Prop where
  ex : ∃ G T, H S = some (.tup [.ref G, .ref T, .int gap]) ∧ H G = some (.tup (xs.map V.int)) ∧ H T = some (.tup (tl.map V.bl))
theorem LaSt.same {H H' : Hp} {S : Addr} {xs : List Int} {tl : List Bool} {gap : Int} (l : LaSt H S xs tl gap) (e : Same H H') : LaSt H' S xs tl gap := by
  obtain ⟨G, T, h1, h2, h3⟩ := l.ex
  exact ⟨G, T, e _ _ h1, e _ _ h2, e _ _ h3⟩
def agesOf (row : List Bool) (xs : List Int) : List Int := List.zipWith (fun o x => if o = true then 0 else x + 1) row xs
theorem ages_at {row : List Bool} {xs : List Int} {i : Nat} {o : Bool} {x : Int} (h1 : row[i]? = some o) (h2 : xs[i]? = some x) : (agesOf row xs)[i]? = some (if o = true then 0 else x + 1) := by
  unfold agesOf; rw [List.getElem?_zipWith, h1, h2]
def toldOf (row : List Bool) (tl : List Bool) : List Bool := List.zipWith (fun o t => o || t) row tl
theorem told_at {row tl : List Bool} {i : Nat} {o b : Bool} (h1 : row[i]? = some o) (h2 : tl[i]? = some b) : (toldOf row tl)[i]? = some (o || b) := by
  unfold toldOf; rw [List.getElem?_zipWith, h1, h2]
theorem g_repF {K : PySem.W.Frag} {l : Addr} {k : Nat} {H : Hp} {Q : VK} (h : H l = some (.tup [.bl false])) (h1 : 1 ≤ k) (h2 : k ≤ 1000) (q : ∀ H' c, Same H H' → H' c = some (.tup ((List.replicate k false).map V.bl)) → Q (.ref c) H') : rRepU K (.ref l) (.int (k : Int)) H Q := by
  refine ⟨l, k, [.bl false], rfl, rfl, SqT.of h, List.cons_ne_nil _ _, by omega, by omega, by show 1 ≤ 1000; decide, fun e => ?_, fun _ p hp => ?_⟩
  · have : k = 1 := by omega
    subst this
    exact q H l (fun _ _ z => z) h
  · refine q _ p (same_new hp) ?_
    rw [upd_same, List.map_replicate]
    have : ((k : Nat) : Int).toNat = k := by omega
    rw [this]
    have fl : ∀ n : Nat, (List.replicate n [V.bl false]).flatten = List.replicate n (V.bl false) := fun n => by
      induction n with
      | zero => rfl
      | succ n ih => rw [List.replicate_succ, List.flatten_cons, ih]; rfl
    rw [fl]
theorem take_all {α : Type} {l : List α} {n : Nat} (h : l.length = n) : l.take n = l := by rw [← h]; exact List.take_length
/-! ### the law's choices -/
def someB (t : Tp) (x : Int) : List Bool := (if x + 1 < t.2 then [false] else []) ++ (if t.1 ≤ x + 1 then [true] else [])
def stepB (acc : List (List Bool)) (t : Tp) (x : Int) : List (List Bool) := acc.flatMap fun r => (someB t x).map fun o => r ++ [o]
def allB : List (List Bool) → List (Tp × Int) → List (List Bool)
  | acc, [] => acc
  | acc, p :: ps => allB (stepB acc p.1 p.2) ps
def RowOk : List Tp → List Int → List Bool → Prop
  | [], [], [] => True
  | t :: ts, x :: xs, o :: os => o ∈ someB t x ∧ RowOk ts xs os
  | _, _, _ => False
theorem allB_snoc : ∀ (acc : List (List Bool)) (ps : List (Tp × Int)) (p : Tp × Int), allB acc (ps ++ [p]) = stepB (allB acc ps) p.1 p.2
  | _, [], _ => rfl
  | acc, q :: ps, p => allB_snoc (stepB acc q.1 q.2) ps p
theorem stepB_mem {acc : List (List Bool)} {t : Tp} {x : Int} {r : List Bool} : r ∈ stepB acc t x ↔ ∃ a ∈ acc, ∃ y ∈ someB t x, r = a ++ [y] := by
  unfold stepB
  rw [List.mem_flatMap]
  constructor
  · rintro ⟨a, ha, hr⟩
    obtain ⟨y, hy, rfl⟩ := List.mem_map.mp hr
    exact ⟨a, ha, y, hy, rfl⟩
  · rintro ⟨a, ha, y, hy, rfl⟩
    exact ⟨a, ha, List.mem_map.mpr ⟨y, hy, rfl⟩⟩
theorem allB_mem : ∀ (ts : List Tp) (xs : List Int) (acc : List (List Bool)) (r : List Bool), ts.length = xs.length → (r ∈ allB acc (ts.zip xs) ↔ ∃ a ∈ acc, ∃ ys, RowOk ts xs ys ∧ r = a ++ ys)
  | [], [], acc, r, _ => by
    show r ∈ acc ↔ _
    constructor
    · intro h; exact ⟨r, h, [], trivial, (List.append_nil r).symm⟩
    · rintro ⟨a, ha, ys, hf, rfl⟩
      cases ys with
      | nil => rw [List.append_nil]; exact ha
      | cons y ys => exact hf.elim
  | t :: ts, x :: xs, acc, r, hl => by
    show r ∈ allB (stepB acc t x) (ts.zip xs) ↔ _
    rw [allB_mem ts xs _ r (by simpa using hl)]
    constructor
    · rintro ⟨a, ha, ys, hf, rfl⟩
      obtain ⟨a0, ha0, y, hy, rfl⟩ := stepB_mem.mp ha
      exact ⟨a0, ha0, y :: ys, ⟨hy, hf⟩, by rw [List.append_assoc]; rfl⟩
    · rintro ⟨a, ha, ys, hf, rfl⟩
      cases ys with
      | nil => exact hf.elim
      | cons y ys => exact ⟨a ++ [y], stepB_mem.mpr ⟨a, ha, y, hf.1, rfl⟩, ys, hf.2, by rw [List.append_assoc]; rfl⟩
theorem row_len : ∀ {ts : List Tp} {xs : List Int} {os : List Bool}, RowOk ts xs os → os.length = ts.length ∧ os.length = xs.length
  | [], [], [], _ => ⟨rfl, rfl⟩
  | _ :: _, _ :: _, _ :: _, h => by
    have := row_len h.2
    simp only [List.length_cons]
    omega
theorem someB_mem {t : Tp} {x : Int} {o : Bool} : o ∈ someB t x ↔ (o = false ∧ x + 1 < t.2) ∨ (o = true ∧ t.1 ≤ x + 1) := by
  unfold someB
  by_cases c1 : x + 1 < t.2 <;> by_cases c2 : t.1 ≤ x + 1 <;> cases o <;> simp [c1, c2]
/-- the law's rows are the steps of the tasks -/
theorem row_fol : ∀ {ts : List Tp} {xs : List Int} {os : List Bool}, WfT ts → WfW ts xs → RowOk ts xs os → Fol ts xs (agesOf os xs)
  | [], [], [], _, _, _ => trivial
  | t :: ts, x :: xs, o :: os, ht, hw, h => by
    refine ⟨?_, row_fol (fun u hu => ht u (List.mem_cons_of_mem _ hu)) hw.2 h.2⟩
    rcases someB_mem.mp h.1 with ⟨rfl, c⟩ | ⟨rfl, c⟩
    · exact wbh_up c
    · exact wbh_zero c
theorem fol_row : ∀ {ts : List Tp} {xs ys : List Int}, WfT ts → WfW ts xs → Fol ts xs ys → ∃ os, RowOk ts xs os ∧ agesOf os xs = ys
  | [], [], [], _, _, _ => ⟨[], trivial, rfl⟩
  | t :: ts, x :: xs, y :: ys, ht, hw, h => by
    obtain ⟨os, h1, h2⟩ := fol_row (fun u hu => ht u (List.mem_cons_of_mem _ hu)) hw.2 h.2
    have ht' := ht t List.mem_cons_self
    rcases wbh_of ht'.2.1 hw.1.2 h.1 with ⟨e, c1, c2⟩ | ⟨e, c⟩
    · exact ⟨true :: os, ⟨someB_mem.mpr (.inr ⟨rfl, c1⟩), h1⟩, by rw [← h2, e]; rfl⟩
    · exact ⟨false :: os, ⟨someB_mem.mpr (.inl ⟨rfl, c⟩), h1⟩, by rw [← h2, e]; rfl⟩
/-- told since the last pat -/
def toldS (s : Sta) : List Bool := s.2.map fun x => decide (x < s.1)
theorem told_next : ∀ {ts : List Tp} {xs : List Int} {os : List Bool} {g : Int}, 0 ≤ g → RowOk ts xs os → toldOf os (xs.map fun x => decide (x < g)) = (agesOf os xs).map fun x => decide (x < g + 1)
  | [], [], [], _, _, _ => rfl
  | t :: ts, x :: xs, o :: os, g, h0, h => by
    have ih := told_next (g := g) h0 h.2
    show (o || decide (x < g)) :: toldOf os (xs.map fun x => decide (x < g)) = decide ((if o = true then (0 : Int) else x + 1) < g + 1) :: _
    rw [ih]
    congr 1
    cases o with
    | true => rw [if_pos rfl, decide_eq_true (show (0 : Int) < g + 1 by omega)]; rfl
    | false =>
      rw [if_neg (by decide), Bool.false_or]
      by_cases c : x < g
      · rw [decide_eq_true c, decide_eq_true (show x + 1 < g + 1 by omega)]
      · rw [decide_eq_false c, decide_eq_false (show ¬ x + 1 < g + 1 by omega)]
theorem told_all {ys : List Int} {g : Int} : false ∈ (ys.map fun x => decide (x < g)) ↔ ¬ (ys.all fun x => decide (x < g)) = true := by
  rw [List.all_eq_true, List.mem_map]
  constructor
  · rintro ⟨y, hy, e⟩ h
    rw [h y hy] at e
    cases e
  · intro h
    refine Classical.byContradiction fun n => h fun y hy => ?_
    cases e : decide (y < g) with
    | true => rfl
    | false => exact absurd ⟨y, hy, e⟩ n
section
variable {P : Program} {w : World} {K : PySem.W.Frag} {mg : Str → Option Value} {base : Heap} {CW CT CB CM : Addr}
abbrev s_law_choices : Stmt := top 39
theorem sc_law_choices : FnScope ["_law_tasks_here", "_law_ages", "_law_found", "_law_k", "_law_least", "_law_most", "_law_some", "_law_longer", "_law_row", "_law_one"] ["_law_tasks_here", "_law_ages"] (C8.fnScope s_law_choices) := C8.fnScope_by (by decide +kernel)
structure RowsB (H : Hp) (D : Addr) (rs : List (Addr × List Bool)) : Prop where
  at_ : H D = some (.lst (rs.map fun r => V.ref r.1))
  own : ∀ r ∈ rs, H r.1 = some (.tup (r.2.map V.bl))
theorem RowsB.same {H H' : Hp} {D : Addr} {rs : List (Addr × List Bool)} (t : RowsB H D rs) (e : Same H H') : RowsB H' D rs := ⟨e _ _ t.at_, fun r hr => e _ _ (t.own r hr)⟩
theorem rep_b (v : V) (c : Bool) : (List.replicate (if c = true then (1 : Int) else 0).toNat [v]).flatten = if c = true then [v] else [] := by cases c <;> rfl
theorem someB_map (t : Tp) (n : Int) : (if decide (n + 1 < t.2) = true then [V.bl false] else []) ++ (if decide (t.1 ≤ n + 1) = true then [V.bl true] else []) = (someB t n).map V.bl := by
  unfold someB
  by_cases c1 : n + 1 < t.2 <;> by_cases c2 : t.1 ≤ n + 1 <;> simp [c1, c2]
def sp_choices (K : PySem.W.Frag) : Sp := fun vs H Q _ => ∃ (L G : Addr) (zs : List Wk) (xs : List Int), vs = [.ref L, .ref G] ∧ WkL H L zs ∧ H G = some (.tup (xs.map V.int)) ∧ zs.length = xs.length ∧ 1 ≤ zs.length ∧ zs.length ≤ 2 ∧
  ∀ H' D rs, Same H H' → H D = none → RowsB H' D rs → rs.map (·.2) = allB [[]] ((zs.map (·.2)).zip xs) → Q (.ref D) H'
theorem stepB_len {acc : List (List Bool)} {t : Tp} {x : Int} : (stepB acc t x).length ≤ acc.length * 2 := by
  unfold stepB
  induction acc with
  | nil => exact Nat.zero_le _
  | cons a acc ih =>
    rw [List.flatMap_cons, List.length_append, List.length_map, List.length_cons, Nat.succ_mul]
    have : (someB t x).length ≤ 2 := by unfold someB; split <;> split <;> simp
    omega
theorem allB_len : ∀ (ps : List (Tp × Int)) (acc : List (List Bool)), (allB acc ps).length ≤ acc.length * 2 ^ ps.length
  | [], acc => by show acc.length ≤ acc.length * 1; omega
  | p :: ps, acc => by
    have h1 := allB_len ps (stepB acc p.1 p.2)
    have h2 := stepB_len (acc := acc) (t := p.1) (x := p.2)
    have h3 : (stepB acc p.1 p.2).length * 2 ^ ps.length ≤ acc.length * 2 * 2 ^ ps.length := Nat.mul_le_mul_right _ h2
    have h4 : acc.length * 2 ^ (p :: ps).length = acc.length * 2 * 2 ^ ps.length := by rw [List.length_cons, Nat.pow_succ, Nat.mul_assoc, Nat.mul_comm 2]
    show (allB (stepB acc p.1 p.2) ps).length ≤ _
    omega
theorem ok_choices (T : Txt K mg CW CT CB CM) {f : Addr} {fd : FuncData} (D : C8.Def K mg "_law_choices" s_law_choices f fd) (b : Binds K fd ["_law_tasks_here", "_law_ages"] []) : C8.Cal P w K mg base 1 "_law_choices" (sp_choices K) [] := by
  refine C8.cal0 D b .nil sc_law_choices (fun vs H Q E h => ?_) fun cdv A outer s H vs Q E hr h => ?_
  · obtain ⟨L, G, zs, xs, rfl, _⟩ := h; rfl
  · obtain ⟨L, G, zs, xs, rfl, wk, hG, lx, k1, k2, q⟩ := h
    have nd := sc_law_choices.nd
    refine ⟨_, (pss_cons (ps_set (i := 2) nd rfl (Or.inl rfl) (pe_lst (pa_cons (pe_tup pa_nil) pa_nil)))
      (pss_cons (ps_for PassesOwn.never rfl (pi_range1 rfl T.n_range (pa_cons (pe_callB (r := Wd.rLen K) call_len1 (by rfl) T.n_len PySem.boot_len (pa_cons (pv 0) pa_nil)) pa_nil)) (pg_name (i := 3) nd rfl (Or.inl rfl)) (pss_cons (ps_asg (pe_ix (r := rIxL K) ix_list (pv 0) (pv 3) (fun _ _ => rfl)) (pg_tup rfl (pgs_cons (pg_name (i := 4) nd rfl (Or.inl rfl)) (pgs_cons (pg_name (i := 5) nd rfl (Or.inl rfl)) pgs_nil))))
      (pss_cons (ps_set (i := 6) nd rfl (Or.inl rfl) (pe_op op_cat (pe_op op_rep (pe_lst (pa_cons pe_bl pa_nil)) (pe_callTy call_intB (by rfl) T.n_int (by decide +kernel) (pa_cons (pe_cmpR op_lt (pe_op op_add (pe_ix (r := rIxT K) ix_tup (pv 1) (pv 3) (fun _ _ => rfl)) pe_int) (pv 5) (nomark _)) pa_nil))) (pe_op op_rep (pe_lst (pa_cons pe_bl pa_nil)) (pe_callTy call_intB (by rfl) T.n_int (by decide +kernel) (pa_cons (pe_cmpR op_ge (pe_op op_add (pe_ix (r := rIxT K) ix_tup (pv 1) (pv 3) (fun _ _ => rfl)) pe_int) (pv 4) (nomark _)) pa_nil)))))
      (pss_cons (ps_set (i := 7) nd rfl (Or.inl rfl) (pe_lst pa_nil))
      (pss_cons (ps_for PassesOwn.never rfl (pi_list (pv 2)) (pg_name (i := 8) nd rfl (Or.inr rfl)) (pss_one (ps_expr (pe_bmK (K := K) rfl PySem.F.plainAttrs_list PySem.F.slot_list_extend PySem.F.type_list_extend mt_extend (pv 7) (pa_cons (pe_lc (own := [("_law_one", 9)]) (g := gName 9) (tt := tYes) rfl nd (pi_list (pv 6)) (blkOk_by (N := ["_law_tasks_here", "_law_ages", "_law_found", "_law_k", "_law_least", "_law_most", "_law_some", "_law_longer", "_law_row", "_law_one"]) (sc := C8.fnScope s_law_choices) (by decide +kernel)) (fun _ _ _ _ _ => pg_name (i := 9) nd rfl (Or.inl rfl)) (fun _ _ _ _ _ => pts_nil) (fun _ _ _ _ _ => (pe_op (r := rCatA K) op_catA (pv 8) (pe_tup (pa_cons (pv 9) pa_nil))))) pa_nil)))))
      (pss_one (ps_set (i := 2) nd rfl (Or.inl rfl) (pv 7))))))))
      (pss_one (ps_ret (pv 2))))), ?_⟩
    walk_at "go"
    intro t0 ht0
    have s0 := same_new (o := .tup []) ht0
    have e0 := upd_same (H := H) (a := t0) (o := .tup [])
    generalize upd H t0 (.tup []) = H0 at s0 e0
    walk_at "go"
    intro D0 hD0
    have s1 := same_new (o := .lst [.ref t0]) hD0
    have r1 : RowsB (upd H0 D0 (.lst [.ref t0])) D0 [(t0, [])] := ⟨upd_same, fun r hr => by
      rw [List.mem_singleton] at hr; subst hr; exact s1 _ _ e0⟩
    have n1 := Wd.Same.back s0 hD0
    have s01 := s0.trans s1
    generalize upd H0 D0 (.lst [.ref t0]) = H1 at s1 r1 s01
    clear s0 s1 e0 ht0 hD0
    walk_at "go"
    refine g_len (.inl (SqL.of (s01 _ _ wk.at_))) ?_
    rw [List.length_map]
    walk_at "go"
    refine w_range (by omega) (by omega) (fun i σ H' => ∃ (DD : Addr) (rs : List (Addr × List Bool)) (v3 v4 v5 v6 v7 v8 v9 : Option V), σ = [some (.ref L), some (.ref G), some (.ref DD), v3, v4, v5, v6, v7, v8, v9] ∧ Same H H' ∧ H DD = none ∧ RowsB H' DD rs ∧ (∀ r ∈ rs, r.2.length ≤ i) ∧ rs.map (·.2) = allB [[]] (((zs.map (·.2)).zip xs).take i)) ?_ ?_ ?_
    · exact ⟨D0, _, _, _, _, _, _, _, _, rfl, s01, n1, r1, fun r hr => (by rw [List.mem_singleton] at hr; subst hr; exact Nat.le_refl 0), rfl⟩
    · clear r1 n1 s01
      rintro i σ H2 hi ⟨DD, rs, v3, v4, v5, v6, v7, v8, v9, rfl, sm, nD, rl, rz, er⟩
      have il : i < zs.length := by omega
      have hz : zs[i]? = some zs[i] := List.getElem?_eq_getElem il
      have hn : xs[i]? = some xs[i] := List.getElem?_eq_getElem (by omega)
      generalize zs[i] = z at hz
      generalize xs[i] = n at hn
      have zm := List.mem_of_getElem? hz
      have snoc : allB [[]] (((zs.map (·.2)).zip xs).take (i + 1)) = stepB (rs.map (·.2)) z.2 n := by
        have hzz : ((zs.map (·.2)).zip xs)[i]? = some (z.2, n) := by
          rw [List.getElem?_zip_eq_some]
          exact ⟨by rw [List.getElem?_map, hz]; rfl, hn⟩
        rw [List.take_add_one, hzz]
        show allB [[]] (_ ++ [_]) = _
        rw [allB_snoc, ← er]
      have rlen : rs.length ≤ 4 := by
        have h1 := allB_len (((zs.map (·.2)).zip xs).take i) [[]]
        have h2 := congrArg List.length er
        rw [List.length_map] at h2
        have h3 : (((zs.map (·.2)).zip xs).take i).length ≤ 2 := by rw [List.length_take, List.length_zip, List.length_map]; omega
        have h4 : 2 ^ (((zs.map (·.2)).zip xs).take i).length ≤ 2 ^ 2 := Nat.pow_le_pow_right (by decide) h3
        rw [List.length_singleton, Nat.one_mul] at h1
        omega
      walk_at "go"
      refine g_ixL (SqL.of (sm _ _ wk.at_)) (at_of (j := i) (v := .ref z.1) rfl (by rw [List.getElem?_map, hz]; rfl)) ?_
      walk_at "go"
      refine g_gtup (SqT.of (sm _ _ (wk.own z zm))) rfl ?_
      walk_at "go"
      intro l1 hl1
      have s3 := sm.trans (same_new (o := .lst [V.bl false]) hl1)
      have e3 := upd_same (H := H2) (a := l1) (o := .lst [V.bl false])
      have rl3 := rl.same (same_new (o := .lst [V.bl false]) hl1)
      generalize upd H2 l1 (.lst [V.bl false]) = H3 at s3 e3 rl3
      walk_at "go"
      refine g_ixT (SqT.of (s3 _ _ hG)) (at_of (j := i) (v := .int n) rfl (by rw [List.getElem?_map, hn]; rfl)) ?_
      walk_at "go"
      refine ⟨l1, _, _, rfl, rfl, e3, by split <;> decide, by split <;> decide, by rw [sizeLine_eq]; split <;> decide, fun p1 hp1 => ?_⟩
      rw [rep_b]
      have s4 := s3.trans (same_new (o := .lst (if decide (n + 1 < z.2.2) = true then [V.bl false] else [])) hp1)
      have e4 := upd_same (H := H3) (a := p1) (o := .lst (if decide (n + 1 < z.2.2) = true then [V.bl false] else []))
      have rl4 := rl3.same (same_new (o := .lst (if decide (n + 1 < z.2.2) = true then [V.bl false] else [])) hp1)
      generalize upd H3 p1 (.lst (if decide (n + 1 < z.2.2) = true then [V.bl false] else [])) = H4 at s4 e4 rl4
      clear s3 e3 rl3 hp1 hl1
      walk_at "go"
      intro l2 hl2
      have s5 := s4.trans (same_new (o := .lst [V.bl true]) hl2)
      have e5 := upd_same (H := H4) (a := l2) (o := .lst [V.bl true])
      have e45 := (same_new (o := .lst [V.bl true]) hl2) _ _ e4
      have rl5 := rl4.same (same_new (o := .lst [V.bl true]) hl2)
      generalize upd H4 l2 (.lst [V.bl true]) = H5 at s5 e5 e45 rl5
      walk_at "go"
      refine g_ixT (SqT.of (s5 _ _ hG)) (at_of (j := i) (v := .int n) rfl (by rw [List.getElem?_map, hn]; rfl)) ?_
      walk_at "go"
      refine ⟨l2, _, _, rfl, rfl, e5, by split <;> decide, by split <;> decide, by rw [sizeLine_eq]; split <;> decide, fun p2 hp2 => ?_⟩
      rw [rep_b]
      have s6 := s5.trans (same_new (o := .lst (if decide (z.2.1 ≤ n + 1) = true then [V.bl true] else [])) hp2)
      have e6 := upd_same (H := H5) (a := p2) (o := .lst (if decide (z.2.1 ≤ n + 1) = true then [V.bl true] else []))
      have e46 := (same_new (o := .lst (if decide (z.2.1 ≤ n + 1) = true then [V.bl true] else [])) hp2) _ _ e45
      have rl6 := rl5.same (same_new (o := .lst (if decide (z.2.1 ≤ n + 1) = true then [V.bl true] else [])) hp2)
      generalize upd H5 p2 (.lst (if decide (z.2.1 ≤ n + 1) = true then [V.bl true] else [])) = H6 at s6 e6 e46 rl6
      clear s5 e5 rl5 hp2 hl2 s4 e4 rl4 e45
      refine ⟨p1, p2, _, _, rfl, rfl, e46, e6, by rw [sizeLine_eq]; split <;> split <;> decide, fun p3 hp3 => ?_⟩
      rw [someB_map z.2 n]
      have s7 := s6.trans (same_new (o := .lst ((someB z.2 n).map V.bl)) hp3)
      have e7 := upd_same (H := H6) (a := p3) (o := .lst ((someB z.2 n).map V.bl))
      have rl7 := rl6.same (same_new (o := .lst ((someB z.2 n).map V.bl)) hp3)
      generalize upd H6 p3 (.lst ((someB z.2 n).map V.bl)) = H7 at s7 e7 rl7
      clear s6 e6 e46 rl6 hp3
      have sl : (someB z.2 n).length ≤ 2 := by unfold someB; split <;> split <;> simp
      walk_at "go"
      intro LL hLL
      have nLL := Wd.Same.back s7 hLL
      walk_at "go"
      refine w_list (xs := rs.map fun r => V.ref r.1) (fun j σ H' => ∃ (us : List (Addr × List Bool)) (v8 v9 : Option V), σ = [some (.ref L), some (.ref G), some (.ref DD), some (.int i), some (.int z.2.1), some (.int z.2.2), some (.ref p3), some (.ref LL), v8, v9] ∧ Same H7 H' ∧ RowsB H' LL us ∧ us.map (·.2) = stepB ((rs.map (·.2)).take j) z.2 n) ?_ ?_ ?_ ?_
      · exact ⟨[], _, _, rfl, same_new hLL, ⟨upd_same, fun r hr => nomatch hr⟩, rfl⟩
      · rintro j σ H' _ ⟨us, v8, v9, _, s8, _⟩
        exact SqL.of (s8 _ _ rl7.at_)
      · rintro j x σ H8 hx ⟨us, v8, v9, rfl, s8, ru, eu⟩
        obtain ⟨r, hr', rfl⟩ := map_at2 hx
        have rm := List.mem_of_getElem? hr'
        have jl := (List.getElem?_eq_some_iff.mp hr').1
        have ul : us.length ≤ 16 := by
          have h1 := congrArg List.length eu
          have h2 := stepB_len (acc := (rs.map (·.2)).take j) (t := z.2) (x := n)
          rw [List.length_map] at h1
          rw [List.length_take, List.length_map] at h2
          omega
        walk_at "go"
        refine g_tyL ru.at_ ?_
        walk_at "go"
        refine w_lcList (SqL.of (s8 _ _ e7)) (fun D k H' => Same H8 H' ∧ ∃ ws, RowsB H' D ws ∧ ws.map (·.2) = ((someB z.2 n).take k).map (fun o => r.2 ++ [o])) (fun D hD => ⟨same_new hD, [], ⟨upd_same, fun r hr => nomatch hr⟩, rfl⟩) (fun D k H' hD _ h => SqL.of (h.1 _ _ (s8 _ _ e7))) (fun D k y H' hD hy h => ?_) (fun D1 H9 hD1 h => ?_)
        · obtain ⟨o, ho, rfl⟩ := map_at2 hy
          obtain ⟨s9, ws, rw9, ew⟩ := h
          have kl := (List.getElem?_eq_some_iff.mp ho).1
          have fin : ∀ (H9 : Hp) (M : Addr), Same H' H9 → H9 M = some (.tup ((r.2 ++ [o]).map V.bl)) → ∃ acc, H9 D = some (.lst acc) ∧ acc.length < sizeLine ∧ Same H8 (upd H9 D (.lst (acc ++ [V.ref M]))) ∧ ∃ ws, RowsB (upd H9 D (.lst (acc ++ [V.ref M]))) D ws ∧ ws.map (·.2) = ((someB z.2 n).take (k + 1)).map (fun o => r.2 ++ [o]) := fun H9 M sN eN => by
            have wl : ws.length ≤ 2 := by
              have h1 := congrArg List.length ew
              rw [List.length_map, List.length_map] at h1
              have := List.length_take_le k (someB z.2 n)
              omega
            have r9 := rw9.same sN
            refine ⟨_, r9.at_, by rw [sizeLine_eq, List.length_map]; omega, Wd.Same.mut (s9.trans sN) hD, ws ++ [(M, r.2 ++ [o])], ⟨by rw [upd_same, List.map_append]; rfl, fun u hu => ?_⟩, by rw [List.map_append, ew, take_snocM _ ho]; rfl⟩
            rw [List.mem_append, List.mem_singleton] at hu
            rcases hu with hu | rfl
            · rw [upd_ne (ne_of (r9.own u hu) r9.at_ (fun z => nomatch z))]; exact r9.own u hu
            · rw [upd_ne (ne_of eN r9.at_ (fun z => nomatch z))]; exact eN
          walk_at "go"
          refine ⟨rfl, ?_⟩
          walk_at "go"
          intro M1 hM1
          have sM1 := same_new (o := .tup [V.bl o]) hM1
          have eM1 := upd_same (H := H') (a := M1) (o := .tup [V.bl o])
          generalize upd H' M1 (.tup [V.bl o]) = H9 at sM1 eM1
          refine ⟨r.1, M1, _, _, rfl, rfl, SqT.of (sM1 _ _ (s9 _ _ (s8 _ _ (rl7.own r rm)))), SqT.of eM1, ?_, fun e => ?_, fun _ e => (nomatch e), fun _ _ M hM => ?_⟩
          · have := rz r rm
            rw [sizeLine_eq, List.length_map, List.length_singleton]; omega
          · have e' : r.2 = [] := List.map_eq_nil_iff.mp e
            exact fin H9 M1 sM1 (by rw [eM1, e']; rfl)
          · have sM := same_new (o := .tup (r.2.map V.bl ++ [V.bl o])) hM
            exact fin _ M (sM1.trans sM) (by rw [upd_same, List.map_append]; rfl)
        · obtain ⟨s9, ws, rw9, ew⟩ := h
          rw [List.length_map, List.take_length] at ew
          have wl : ws.length ≤ 2 := by
            have h1 := congrArg List.length ew
            rw [List.length_map, List.length_map] at h1
            omega
          have ru9 := ru.same s9
          walk_at "go"
          refine ⟨LL, D1, _, _, rfl, rfl, ru9.at_, rw9.at_, by rw [sizeLine_eq, List.length_map, List.length_map]; omega, ?_⟩
          walk_at "go"
          refine ⟨us ++ ws, _, _, rfl, Wd.Same.mut (s8.trans s9) hLL, ⟨by rw [upd_same, List.map_append], fun u hu => ?_⟩, ?_⟩
          · rw [List.mem_append] at hu
            rcases hu with hu | hu
            · rw [upd_ne (ne_of (ru9.own u hu) ru9.at_ (fun z => nomatch z))]; exact ru9.own u hu
            · rw [upd_ne (ne_of (rw9.own u hu) ru9.at_ (fun z => nomatch z))]; exact rw9.own u hu
          · rw [List.map_append, eu, ew]
            have : (rs.map (·.2))[j]? = some r.2 := by rw [List.getElem?_map, hr']; rfl
            unfold stepB
            rw [List.take_add_one, this, List.flatMap_append]
            show _ = _ ++ ([r.2].flatMap _)
            rw [List.flatMap_cons, List.flatMap_nil, List.append_nil]
      · rintro σ H8 ⟨us, v8, v9, rfl, s8, ru, eu⟩
        rw [List.length_map, ← List.length_map (f := fun r : Addr × List Bool => r.2), List.take_length] at eu
        have ul : ∀ u ∈ us, u.2.length ≤ i + 1 := fun u hu => by
          have : u.2 ∈ us.map (·.2) := List.mem_map.mpr ⟨u, hu, rfl⟩
          rw [eu] at this
          obtain ⟨a, ha, y, _, e⟩ := stepB_mem.mp this
          obtain ⟨r, hr, rfl⟩ := List.mem_map.mp ha
          rw [e, List.length_append, List.length_singleton]
          have := rz r hr
          omega
        rw [← snoc] at eu
        walk_at "go"
        refine ⟨LL, us, _, _, _, _, _, _, _, rfl, s7.trans s8, nLL, ru, ul, eu⟩
    · rintro σ H2 ⟨DD, rs, v3, v4, v5, v6, v7, v8, v9, rfl, sm, nD, rl, rz, er⟩
      walk_at "go"
      refine q _ DD rs sm nD rl ?_
      rw [er, Int.toNat_natCast, List.take_of_length_le (by rw [List.length_zip, List.length_map]; omega)]
abbrev s_law_later : Stmt := top 40
theorem sc_law_later : FnScope ["_law_window", "_law_state", "_law_row", "_law_looks", "_law_ages", "_law_told", "_law_gap", "_law_one", "_law_age", "_law_old"] ["_law_window", "_law_state", "_law_row", "_law_looks"] (C8.fnScope s_law_later) := C8.fnScope_by (by decide +kernel)
def sp_later (K : PySem.W.Frag) : Sp := fun vs H Q _ => ∃ (W S R : Addr) (lk : Bool) (lo hi gap : Int) (xs : List Int) (tl row : List Bool), vs = [.ref W, .ref S, .ref R, .bl lk] ∧ H W = some (.tup [.int lo, .int hi]) ∧ LaSt H S xs tl gap ∧ H R = some (.tup (row.map V.bl)) ∧ row.length = xs.length ∧ row.length = tl.length ∧ 1 ≤ row.length ∧ row.length ≤ 2 ∧
  (gap + 1 > hi → ∀ H', Same H H' → Q .non H') ∧
  (¬ gap + 1 > hi → (lk = false ∨ false ∈ toldOf row tl) → ∀ H' t, Same H H' → H t = none → LaSt H' t (agesOf row xs) (toldOf row tl) (gap + 1) → Q (.ref t) H') ∧
  (¬ gap + 1 > hi → ¬ (lk = false ∨ false ∈ toldOf row tl) → (gap + 1 < lo → ∀ H', Same H H' → Q .non H') ∧ (¬ gap + 1 < lo → ∀ H' t, Same H H' → H t = none → LaSt H' t (agesOf row xs) (List.replicate row.length false) 0 → Q (.ref t) H'))
theorem ok_later (T : Txt K mg CW CT CB CM) {f : Addr} {fd : FuncData} (D : C8.Def K mg "_law_later" s_law_later f fd) (b : Binds K fd ["_law_window", "_law_state", "_law_row", "_law_looks"] []) : C8.Cal P w K mg base 1 "_law_later" (sp_later K) [] := by
  refine C8.cal0 D b .nil sc_law_later (fun vs H Q E h => ?_) fun cdv A outer s H vs Q E hr h => ?_
  · obtain ⟨W, S, R, lk, _, _, _, _, _, _, rfl, _⟩ := h; rfl
  · obtain ⟨W, S, R, lk, lo, hi, gap, xs, tl, row, rfl, hW, ls, hR, l1, l2, l3, l4, q1, q2, q3⟩ := h
    obtain ⟨G, TO, hS, hG, hT⟩ := ls.ex
    have nd := sc_law_later.nd
    refine ⟨_, (pss_cons (ps_asg (pv 1) (pg_tup rfl (pgs_cons (pg_name (i := 4) nd rfl (Or.inl rfl)) (pgs_cons (pg_name (i := 5) nd rfl (Or.inl rfl)) (pgs_cons (pg_name (i := 6) nd rfl (Or.inl rfl)) pgs_nil)))))
      (pss_cons (ps_set (i := 4) nd rfl (Or.inl rfl) (pe_callTy (r := rTupOf K) call_tuple1 (by rfl) T.n_tuple (by decide +kernel) (pa_cons (pe_lc (own := [("_law_one", 7), ("_law_age", 8)]) (g := (gTup K 2 (gCons (gName 7) (gCons (gName 8) gNil)))) (tt := tYes) rfl nd (pi_zipA (by rfl) T.n_zip (pa_cons (pv 2) (pa_cons (pv 4) pa_nil))) (blkOk_by (N := ["_law_window", "_law_state", "_law_row", "_law_looks", "_law_ages", "_law_told", "_law_gap", "_law_one", "_law_age", "_law_old"]) (sc := C8.fnScope s_law_later) (by decide +kernel)) (fun _ _ _ _ _ => (pg_tup rfl (pgs_cons (pg_name (i := 7) nd rfl (Or.inl rfl)) (pgs_cons (pg_name (i := 8) nd rfl (Or.inl rfl)) pgs_nil)))) (fun _ _ _ _ _ => pts_nil) (fun _ _ _ _ _ => (pe_ix (r := rIxL K) ix_list (pe_lst (pa_cons (pe_op op_add (pv 8) pe_int) (pa_cons pe_int pa_nil))) (pe_callTy call_intB (by rfl) T.n_int (by decide +kernel) (pa_cons (pv 7) pa_nil)) (fun _ _ => rfl)))) pa_nil)))
      (pss_cons (ps_set (i := 5) nd rfl (Or.inl rfl) (pe_callTy (r := rTupOf K) call_tuple1 (by rfl) T.n_tuple (by decide +kernel) (pa_cons (pe_lc (own := [("_law_one", 7), ("_law_old", 9)]) (g := (gTup K 2 (gCons (gName 7) (gCons (gName 9) gNil)))) (tt := tYes) rfl nd (pi_zipA (by rfl) T.n_zip (pa_cons (pv 2) (pa_cons (pv 5) pa_nil))) (blkOk_by (N := ["_law_window", "_law_state", "_law_row", "_law_looks", "_law_ages", "_law_told", "_law_gap", "_law_one", "_law_age", "_law_old"]) (sc := C8.fnScope s_law_later) (by decide +kernel)) (fun _ _ _ _ _ => (pg_tup rfl (pgs_cons (pg_name (i := 7) nd rfl (Or.inl rfl)) (pgs_cons (pg_name (i := 9) nd rfl (Or.inl rfl)) pgs_nil)))) (fun _ _ _ _ _ => pts_nil) (fun _ _ _ _ _ => (pe_or (pv 7) (pe_one (pv 9))))) pa_nil)))
      (pss_cons (ps_if (pt_cmpR op_gt (pe_op op_add (pv 6) pe_int) (pe_ix (r := rIxT K) ix_tup (pv 0) pe_int (fun _ _ => rfl)) (nomark _)) (pss_one (ps_ret pe_non)) pss_nil)
      (pss_cons (ps_if (PW.pt (pw_or (pt_not (pt_truth (pv 3) (by intro _; rfl))) (pw_or1 (pt_cmpR (r := rIn K false) op_in_seq pe_bl (pv 5) (by with_unfolding_all rfl))))) (pss_one (ps_ret (pe_tup (pa_cons (pv 4) (pa_cons (pv 5) (pa_cons (pe_op op_add (pv 6) pe_int) pa_nil)))))) pss_nil)
      (pss_one (ps_ret (pe_ifExp (pt_cmpR op_ge (pe_op op_add (pv 6) pe_int) (pe_ix (r := rIxT K) ix_tup (pv 0) pe_int (fun _ _ => rfl)) (nomark _)) (pe_tup (pa_cons (pv 4) (pa_cons (pe_op (r := rRepU K) op_repU (pe_tup (pa_cons pe_bl pa_nil)) (pe_callB (r := Wd.rLen K) call_len1 (by rfl) T.n_len PySem.boot_len (pa_cons (pv 5) pa_nil))) (pa_cons pe_int pa_nil)))) pe_non)))))))), ?_⟩
    walk_at "go"
    refine g_gtup (SqT.of hS) rfl ?_
    walk_at "go"
    refine g_zipA ?_
    walk_at "go"
    refine w_lcZipT (by rw [List.length_map, List.length_map, l1]) (SqT.of hR) (SqT.of hG) (fun D i H' => Same H H' ∧ H' D = some (.lst (((agesOf row xs).take i).map V.int))) (fun D hD => ⟨same_new hD, upd_same⟩) (fun D i H' hD h => ⟨tup_same h.1 (SqT.of hR), tup_same h.1 (SqT.of hG)⟩) (fun D i x y Tp H' hD hx hy h hTp => ?_) (fun D1 H1 hD1 h => ?_)
    · obtain ⟨o, ho, rfl⟩ := map_at2 hx
      obtain ⟨x, hx', rfl⟩ := map_at2 hy
      have sT := same_new (o := .tup [.bl o, .int x]) hTp
      have il := (List.getElem?_eq_some_iff.mp ho).1
      walk_at "go"
      refine g_gtup (SqT.of upd_same) rfl ?_
      generalize upd H' Tp (.tup [.bl o, .int x]) = H2 at sT
      walk_at "go"
      refine ⟨rfl, ?_⟩
      walk_at "go"
      intro l hl
      have s2 := same_new (o := .lst [.int (x + 1), .int 0]) hl
      have e2 := upd_same (H := H2) (a := l) (o := .lst [.int (x + 1), .int 0])
      generalize upd H2 l (.lst [.int (x + 1), .int 0]) = H3 at s2 e2
      walk_at "go"
      refine g_ixL (v := .int (if o = true then 0 else x + 1)) (SqL.of e2) (by cases o <;> rfl) ?_
      refine ⟨_, (sT.trans s2) _ _ h.2, by rw [sizeLine_eq, List.length_map]; have := List.length_take_le i (agesOf row xs); omega, Wd.Same.mut ((h.1.trans sT).trans s2) hD, by rw [upd_same, take_snocM _ (ages_at ho hx')]⟩
    obtain ⟨s1, e1⟩ := h
    rw [List.length_map, take_all (by unfold agesOf; rw [List.length_zipWith, ← l1, Nat.min_self])] at e1
    walk_at "go"
    refine g_tupOf (SqL.of e1) fun A1 hA1 => ?_
    have s2 := s1.trans (same_new (o := .tup ((agesOf row xs).map V.int)) hA1)
    have eA := upd_same (H := H1) (a := A1) (o := .tup ((agesOf row xs).map V.int))
    generalize upd H1 A1 (.tup ((agesOf row xs).map V.int)) = H2 at s2 eA
    clear e1 s1 hA1 hD1 H1 D1
    walk_at "go"
    refine g_zipA ?_
    walk_at "go"
    refine w_lcZipT (by rw [List.length_map, List.length_map, l2]) (tup_same s2 (SqT.of hR)) (tup_same s2 (SqT.of hT)) (fun D i H' => Same H2 H' ∧ H' D = some (.lst (((toldOf row tl).take i).map V.bl))) (fun D hD => ⟨same_new hD, upd_same⟩) (fun D i H' hD h => ⟨tup_same (s2.trans h.1) (SqT.of hR), tup_same (s2.trans h.1) (SqT.of hT)⟩) (fun D i x y Tp H' hD hx hy h hTp => ?_) (fun D1 H3 hD1 h => ?_)
    · obtain ⟨o, ho, rfl⟩ := map_at2 hx
      obtain ⟨x, hx', rfl⟩ := map_at2 hy
      have sT := same_new (o := .tup [.bl o, .bl x]) hTp
      have il := (List.getElem?_eq_some_iff.mp ho).1
      walk_at "go"
      refine g_gtup (SqT.of upd_same) rfl ?_
      generalize upd H' Tp (.tup [.bl o, .bl x]) = H4 at sT
      walk_at "go"
      refine ⟨rfl, ?_⟩
      walk_at "go"
      have fin : ∀ c : Bool, (o || x) = c → ∃ acc, H4 D = some (.lst acc) ∧ acc.length < sizeLine ∧ Same H2 (upd H4 D (.lst (acc ++ [V.bl c]))) ∧ upd H4 D (.lst (acc ++ [V.bl c])) D = some (.lst (((toldOf row tl).take (i + 1)).map V.bl)) := fun c hc => by
        subst hc
        exact ⟨_, sT _ _ h.2, by rw [sizeLine_eq, List.length_map]; have := List.length_take_le i (toldOf row tl); omega, Wd.Same.mut (h.1.trans sT) hD, by rw [upd_same, take_snocM _ (told_at ho hx')]⟩
      cases o with
      | true => exact fin true rfl
      | false =>
        refine (if_neg (by decide)).mpr ?_
        walk_at "go"
        exact fin x (by cases x <;> rfl)
    obtain ⟨s3, e3⟩ := h
    rw [List.length_map, take_all (by unfold toldOf; rw [List.length_zipWith, ← l2, Nat.min_self])] at e3
    walk_at "go"
    refine g_tupOf (SqL.of e3) fun A2 hA2 => ?_
    have s4 := s3.trans (same_new (o := .tup ((toldOf row tl).map V.bl)) hA2)
    have eB := upd_same (H := H3) (a := A2) (o := .tup ((toldOf row tl).map V.bl))
    generalize upd H3 A2 (.tup ((toldOf row tl).map V.bl)) = H4 at s4 eB
    have s04 := s2.trans s4
    have eA4 := s4 _ _ eA
    clear e3 s3 hA2 hD1 H3 D1
    walk_at "go"
    refine g_ixT (SqT.of (s04 _ _ hW)) rfl ?_
    walk_at "go"
    refine g_ite (fun h1 => ?_) (fun h1 => ?_)
    · walk_at "go"
      exact q1 h1 _ s04
    walk_at "go"
    have q2' : (lk = false ∨ false ∈ toldOf row tl) → ∀ p, H4 p = none → Q (.ref p) (upd H4 p (.tup [.ref A1, .ref A2, .int (gap + 1)])) := fun hc p hp => q2 h1 hc _ p (s04.trans (same_new hp)) (Wd.Same.back s04 hp) ⟨A1, A2, upd_same, (same_new hp) _ _ eA4, (same_new hp) _ _ eB⟩
    cases lk with
    | false =>
      refine ⟨false, rfl, ?_⟩
      walk_at "go"
      exact q2' (.inl rfl)
    | true =>
      refine ⟨true, rfl, ?_⟩
      walk_at "go"
      refine g_inT (SqT.of eB) rfl (flat_bls _) ?_
      rw [inV_no]
      walk_at "go"
      refine g_ite (fun hf => ?_) (fun hf => ?_)
      · have hf' : false ∈ toldOf row tl := by obtain ⟨c, hc, e⟩ := hf; exact e ▸ hc
        walk_at "go"
        exact q2' (.inr hf')
      · have hf' : ¬ (true = false ∨ false ∈ toldOf row tl) := fun z => z.elim (fun e => nomatch e) fun z => hf ⟨false, z, rfl⟩
        obtain ⟨q4, q5⟩ := q3 h1 hf'
        walk_at "go"
        refine g_ixT (SqT.of (s04 _ _ hW)) rfl ?_
        walk_at "go"
        refine g_ite (fun h2 => ?_) (fun h2 => ?_)
        · walk_at "go"
          intro l hl
          have s5 := same_new (o := .tup [.bl false]) hl
          have e5 := upd_same (H := H4) (a := l) (o := .tup [.bl false])
          generalize upd H4 l (.tup [.bl false]) = H5 at s5 e5
          walk_at "go"
          refine g_len (.inr (SqT.of (s5 _ _ eB))) ?_
          rw [List.length_map, show (toldOf row tl).length = row.length by unfold toldOf; rw [List.length_zipWith, ← l2, Nat.min_self]]
          refine g_repF e5 l3 (by omega) fun H6 c s6 e6 => ?_
          have s06 := (s04.trans s5).trans s6
          walk_at "go"
          intro p hp
          exact q5 (by omega) _ p (s06.trans (same_new hp)) (Wd.Same.back s06 hp) ⟨A1, c, upd_same, (same_new hp) _ _ (s6 _ _ (s5 _ _ eA4)), (same_new hp) _ _ e6⟩
        · walk_at "go"
          exact q4 (by omega) _ s04
end
end K13
namespace K13
open PySem PySem.Spec PyProof.Rows L2 Wd
/-! ### the law's search -/
section
variable (lo hi b : Int) (ts : List Tp)
def ProcL (kn : List (Sta × Int)) (s : Sta) (r : Int) : Prop := ∀ ws, Fol ts s.2 ws → wordB lo hi b (s.1 + 1) ws = none ∧ (foll b (s.1 + 1, ws), (r + 1) % b) ∈ kn
structure LB (n : Nat) (kn : List (Sta × Int)) (left : List Sta) : Prop where
  fr : ∀ s ∈ left, Reach lo hi b ts n s
  kr : ∀ p ∈ kn, ∃ m : Nat, Reach lo hi b ts m p.1 ∧ p.2 = (m : Int) % b
  nd : kn.Nodup
  cl : ∀ p ∈ kn, (p.2 = (n : Int) % b ∧ p.1 ∈ left) ∨ ProcL lo hi b ts kn p.1 p.2
  st : (n = 0 ∧ left = [start0 ts]) ∨ ProcL lo hi b ts kn (start0 ts) 0
  lt : ∀ (m : Nat) s, m < n → Reach lo hi b ts m s → ProcL lo hi b ts kn s ((m : Int) % b)
structure LM (n : Nat) (kn0 kn : List (Sta × Int)) (left : List Sta) (i : Nat) (L : List Sta) : Prop where
  ext : kn = kn0 ++ L.map fun s => (s, ((n : Int) + 1) % b)
  fr : ∀ s ∈ L, Reach lo hi b ts (n + 1) s
  nd : kn.Nodup
  done : ∀ k s, k < i → left[k]? = some s → ProcL lo hi b ts kn s ((n : Int) % b)
end
section
variable {lo hi b : Int} {ts : List Tp}
theorem ProcL.mono {kn kn' : List (Sta × Int)} (h : ∀ p ∈ kn, p ∈ kn') {s : Sta} {r : Int} (p : ProcL lo hi b ts kn s r) : ProcL lo hi b ts kn' s r := fun ws hf => ⟨(p ws hf).1, h _ (p ws hf).2⟩
theorem lb_start : LB lo hi b ts 0 [] [start0 ts] :=
  ⟨fun s hs => by rw [List.mem_singleton] at hs; subst hs; exact .zero, (fun _ h => nomatch h), List.nodup_nil, (fun _ h => nomatch h), .inl ⟨rfl, rfl⟩, fun m s h => by omega⟩
theorem lm_start {n : Nat} {kn : List (Sta × Int)} {left : List Sta} (B : LB lo hi b ts n kn left) : LM lo hi b ts n kn kn left 0 [] :=
  ⟨(List.append_nil _).symm, (fun _ h => nomatch h), B.nd, fun k s h => by omega⟩
theorem lm_next {n : Nat} {kn0 kn : List (Sta × Int)} {left L : List Sta} {i : Nat} {s : Sta} (M : LM lo hi b ts n kn0 kn left i L) (hs : left[i]? = some s) (hp : ProcL lo hi b ts kn s ((n : Int) % b)) : LM lo hi b ts n kn0 kn left (i + 1) L :=
  ⟨M.ext, M.fr, M.nd, fun k s' hk he => by
    by_cases c : k < i
    · exact M.done k s' c he
    · have : k = i := by omega
      subst this
      cases hs.symm.trans he
      exact hp⟩
theorem lm_add {n : Nat} {kn0 kn : List (Sta × Int)} {left L : List Sta} {i : Nat} {s : Sta} (M : LM lo hi b ts n kn0 kn left i L) (hr : Reach lo hi b ts (n + 1) s) (hn : (s, ((n : Int) + 1) % b) ∉ kn) : LM lo hi b ts n kn0 (kn ++ [(s, ((n : Int) + 1) % b)]) left i (L ++ [s]) :=
  ⟨by rw [M.ext, List.map_append, List.append_assoc]; rfl, fun x hx => by
    rw [List.mem_append, List.mem_singleton] at hx
    rcases hx with hx | rfl
    · exact M.fr x hx
    · exact hr, List.nodup_append.mpr ⟨M.nd, by simp, fun x hx y hy => by
      rw [List.mem_singleton] at hy
      subst hy
      exact fun e => hn (e ▸ hx)⟩, fun k s' hk he => (M.done k s' hk he).mono fun p h => List.mem_append_left _ h⟩
theorem lb_next {n : Nat} {kn0 kn : List (Sta × Int)} {left L : List Sta} (B : LB lo hi b ts n kn0 left) (M : LM lo hi b ts n kn0 kn left left.length L) : LB lo hi b ts (n + 1) kn L := by
  have sub : ∀ p ∈ kn0, p ∈ kn := fun p h => by rw [M.ext]; exact List.mem_append_left _ h
  have dn : ∀ s ∈ left, ProcL lo hi b ts kn s ((n : Int) % b) := fun s hs => by
    obtain ⟨k, hk, e⟩ := List.mem_iff_getElem.mp hs
    exact M.done k s hk (by rw [List.getElem?_eq_getElem hk, e])
  have all0 : ∀ p ∈ kn0, ProcL lo hi b ts kn p.1 p.2 := fun p hp => by
    rcases B.cl p hp with ⟨h1, h2⟩ | h
    · rw [h1]; exact dn _ h2
    · exact h.mono sub
  have st1 : ProcL lo hi b ts kn (start0 ts) 0 := by
    rcases B.st with ⟨h1, h2⟩ | h
    · have := dn (start0 ts) (by rw [h2]; exact List.mem_singleton.mpr rfl)
      subst h1
      rw [show ((0 : Nat) : Int) % b = 0 from Int.zero_emod b] at this
      exact this
    · exact h.mono sub
  refine ⟨M.fr, fun p hp => ?_, M.nd, fun p hp => ?_, .inr st1, fun m s hm hr => ?_⟩
  · rw [M.ext, List.mem_append] at hp
    rcases hp with hp | hp
    · exact B.kr p hp
    · obtain ⟨s, hs, rfl⟩ := List.mem_map.mp hp
      exact ⟨n + 1, M.fr s hs, rfl⟩
  · rw [M.ext, List.mem_append] at hp
    rcases hp with hp | hp
    · exact .inr (all0 p hp)
    · obtain ⟨s, hs, rfl⟩ := List.mem_map.mp hp
      exact .inl ⟨rfl, hs⟩
  · by_cases c : m < n
    · exact (B.lt m s c hr).mono sub
    · have : m = n := by omega
      subst this
      cases hr with
      | zero => rw [show ((0 : Nat) : Int) % b = 0 from Int.zero_emod b]; exact st1
      | @succ m s0 ws h1 h2 h3 =>
        have := (B.lt m s0 (Nat.lt_succ_self m) h1 ws h2).2
        rw [Int.emod_add_emod] at this
        exact all0 _ this
theorem lb_steady {n : Nat} {kn : List (Sta × Int)} (B : LB lo hi b ts n kn []) : Steady lo hi b ts := by
  have st : ProcL lo hi b ts kn (start0 ts) 0 := by
    rcases B.st with ⟨_, h⟩ | h
    · cases h
    · exact h
  have all : ∀ m s, Reach lo hi b ts m s → ProcL lo hi b ts kn s ((m : Int) % b) := fun m s hr => by
    induction hr with
    | zero => rw [show ((0 : Nat) : Int) % b = 0 from Int.zero_emod b]; exact st
    | @succ m s0 ws h1 h2 h3 ih =>
      have := (ih ws h2).2
      rw [Int.emod_add_emod] at this
      rcases B.cl _ this with ⟨_, h⟩ | h
      · cases h
      · exact h
  exact fun m s ws hr hf => (all m s hr ws hf).1
/-- a bite at n, none before: the moment is the least -/
theorem lb_least {n : Nat} {kn : List (Sta × Int)} {left : List Sta} (B : LB lo hi b ts n kn left) {s : Sta} {ws : List Int} (hs : s ∈ left) (hf : Fol ts s.2 ws) (hw : wordB lo hi b (s.1 + 1) ws ≠ none) :
    Reach lo hi b ts n s ∧ ∀ m s' ws', Reach lo hi b ts m s' → m < n → Fol ts s'.2 ws' → wordB lo hi b (s'.1 + 1) ws' = none :=
  ⟨B.fr s hs, fun m s' ws' hr hm hf' => (B.lt m s' hm hr ws' hf').1⟩
end
end K13
namespace K13
open PySem PySem.Spec PyProof.Rows L2 Wd
/-! ### the law's states as keys -/
abbrev bnum (b : Bool) : NestedKey := .num (if b = true then 1 else 0)
def laKey (s : Sta) : NestedKey := .tup [.tup (s.2.map .num), .tup ((toldS s).map bnum), .num s.1]
def knKey (p : Sta × Int) : NestedKey := .tup [laKey p.1, .num p.2]
theorem laKey_inj {s t : Sta} (h : laKey s = laKey t) : s = t := by
  unfold laKey at h
  have h1 := NestedKey.tup.inj h
  obtain ⟨e1, h2⟩ := List.cons.inj h1
  obtain ⟨_, h3⟩ := List.cons.inj h2
  obtain ⟨e3, _⟩ := List.cons.inj h3
  exact Prod.ext (NestedKey.num.inj e3) (nums_inj (NestedKey.tup.inj e1))
theorem knKey_inj {p q : Sta × Int} (h : knKey p = knKey q) : p = q := by
  unfold knKey at h
  have h1 := NestedKey.tup.inj h
  obtain ⟨e1, h2⟩ := List.cons.inj h1
  obtain ⟨e2, _⟩ := List.cons.inj h2
  exact Prod.ext (laKey_inj e1) (NestedKey.num.inj e2)
theorem bls_v {H : Hp} : ∀ bs : List Bool, NestVs H (bs.map bnum) (bs.map V.bl)
  | [] => .nil
  | b :: bs => .cons (.bl b) (bls_v bs)
theorem LaSt.nest {H : Hp} {s : Sta} {a : Addr} (h : LaSt H a s.2 (toldS s) s.1) : NestV H (laKey s) (.ref a) := by
  obtain ⟨G, T, h1, h2, h3⟩ := h.ex
  exact .tup h1 (.cons (.tup h2 (nums_v _)) (.cons (.tup h3 (bls_v _)) (.cons (.int _) .nil)))
theorem bnums_depth : ∀ bs : List Bool, NestedKey.depthAll (bs.map bnum) = 0
  | [] => rfl
  | b :: bs => by simp [NestedKey.depthAll, NestedKey.depth, bnums_depth bs]
theorem laKey_depth (s : Sta) : (laKey s).depth ≤ 8 := by
  have h1 := nums_depth s.2
  have h2 := bnums_depth (toldS s)
  unfold laKey
  simp only [NestedKey.depth, NestedKey.depthAll, h1, h2]
  decide
theorem knKey_depth (p : Sta × Int) : (knKey p).depth ≤ 8 := by
  have h1 := nums_depth p.1.2
  have h2 := bnums_depth (toldS p.1)
  unfold knKey laKey
  simp only [NestedKey.depth, NestedKey.depthAll, h1, h2]
  decide
/-! ### the law's step is the tasks' -/
theorem told_zero {ts : List Tp} : ∀ {ys : List Int}, WfW ts ys → (ys.map fun x => decide (x < 0)) = List.replicate ys.length false := by
  induction ts with
  | nil => intro ys h; cases ys with
    | nil => rfl
    | cons _ _ => exact h.elim
  | cons t ts ih => intro ys h; cases ys with
    | nil => exact h.elim
    | cons y ys =>
      rw [List.map_cons, ih h.2, List.length_cons, List.replicate_succ, decide_eq_false (show ¬ y < 0 by have := h.1.1; omega)]
section
variable {K : PySem.W.Frag} {lo hi b : Int} {ts : List Tp}
theorem use_later {W S R : Addr} {lk : Bool} {s : Sta} {row : List Bool} {H : Hp} {Q : VK} {E : XK} (hW : H W = some (.tup [.int lo, .int hi])) (ls : LaSt H S s.2 (toldS s) s.1) (hR : H R = some (.tup (row.map V.bl)))
    (wft : WfT ts) (wfw : WfW ts s.2) (h0 : 0 ≤ s.1) (ok : RowOk ts s.2 row) (k1 : 1 ≤ ts.length) (k2 : ts.length ≤ 2) (hlk : lk = true ↔ (s.1 + 1) % b = 0)
    (q1 : wordB lo hi b (s.1 + 1) (agesOf row s.2) ≠ none → ∀ H', Same H H' → Q .non H')
    (q2 : wordB lo hi b (s.1 + 1) (agesOf row s.2) = none → ∀ H' t, Same H H' → H t = none → LaSt H' t (foll b (s.1 + 1, agesOf row s.2)).2 (toldS (foll b (s.1 + 1, agesOf row s.2))) (foll b (s.1 + 1, agesOf row s.2)).1 → Q (.ref t) H') :
    sp_later K [.ref W, .ref S, .ref R, .bl lk] H Q E := by
  have rl := row_len ok
  have tn : toldOf row (toldS s) = (agesOf row s.2).map fun x => decide (x < s.1 + 1) := told_next h0 ok
  have wy := fol_wf wft wfw (row_fol wft wfw ok)
  have yl : (agesOf row s.2).length = row.length := by have := wy.len; omega
  have tl : (toldS s).length = s.2.length := List.length_map ..
  have pat : patd b (s.1 + 1) (agesOf row s.2) = true ↔ lk = true ∧ ¬ false ∈ toldOf row (toldS s) := by
    rw [tn, told_all, Classical.not_not, hlk]
    unfold patd
    rw [Bool.and_eq_true, decide_eq_true_iff]
  refine ⟨W, S, R, lk, lo, hi, s.1, s.2, toldS s, row, rfl, hW, ls, hR, rl.2, by omega, by omega, by omega, fun hg H' s' => q1 (by unfold wordB; rw [if_pos hg]; exact fun z => nomatch z) H' s', fun hg hn H' t s' nt l => ?_, fun hg hn => ?_⟩
  · have np : ¬ patd b (s.1 + 1) (agesOf row s.2) = true := fun z => by
      obtain ⟨z1, z2⟩ := pat.mp z
      rcases hn with hn | hn
      · rw [hn] at z1; cases z1
      · exact z2 hn
    refine q2 (by unfold wordB; rw [if_neg hg, if_neg (fun z => np z.2)]) H' t s' nt ?_
    unfold foll
    rw [if_neg np]
    rw [tn] at l
    exact l
  · have yp : patd b (s.1 + 1) (agesOf row s.2) = true := pat.mpr ⟨by
      cases lk with
      | true => rfl
      | false => exact absurd (Or.inl rfl) hn, fun z => hn (.inr z)⟩
    refine ⟨fun hl H' s' => q1 (by unfold wordB; rw [if_neg hg, if_pos ⟨hl, yp⟩]; exact fun z => nomatch z) H' s', fun hl H' t s' nt l => ?_⟩
    refine q2 (by unfold wordB; rw [if_neg hg, if_neg (fun z => hl z.1)]) H' t s' nt ?_
    unfold foll
    rw [if_pos yp]
    have e : toldS ((0 : Int), agesOf row s.2) = List.replicate row.length false := by
      show ((agesOf row s.2).map fun x => decide (x < 0)) = _
      rw [told_zero wy, yl]
    show LaSt H' t (agesOf row s.2) (toldS (0, agesOf row s.2)) 0
    rw [e]
    exact l
end
/-- at n the last pat stands at a multiple of the beat -/
theorem reach_mod {lo hi b : Int} {ts : List Tp} {n : Nat} {s : Sta} (h : Reach lo hi b ts n s) : ((n : Int) - s.1) % b = 0 := by
  induction h with
  | zero => exact Int.zero_emod b
  | @succ n s ws _ _ _ ih =>
    unfold foll
    by_cases c : patd b (s.1 + 1) ws = true
    · rw [if_pos c]
      unfold patd at c
      rw [Bool.and_eq_true] at c
      have c1 := of_decide_eq_true c.1
      have := Int.dvd_add (Int.dvd_of_emod_eq_zero ih) (Int.dvd_of_emod_eq_zero c1)
      have e : (n : Int) - s.1 + (s.1 + 1) = ((n + 1 : Nat) : Int) - 0 := by omega
      rw [e] at this
      exact Int.emod_eq_zero_of_dvd this
    · rw [if_neg c]
      have e : ((n + 1 : Nat) : Int) - (s.1 + 1) = (n : Int) - s.1 := by omega
      show (((n + 1 : Nat) : Int) - (s.1 + 1)) % b = 0
      rw [e]; exact ih
theorem mod_gap {lo hi b : Int} {ts : List Tp} {n : Nat} {s : Sta} (h : Reach lo hi b ts n s) : ((n : Int) + 1) % b = 0 ↔ (s.1 + 1) % b = 0 := by
  have h1 := Int.dvd_of_emod_eq_zero (reach_mod h)
  constructor
  · intro h2
    have := Int.dvd_sub (Int.dvd_of_emod_eq_zero h2) h1
    have e : (n : Int) + 1 - ((n : Int) - s.1) = s.1 + 1 := by omega
    rw [e] at this
    exact Int.emod_eq_zero_of_dvd this
  · intro h2
    have := Int.dvd_add (Int.dvd_of_emod_eq_zero h2) h1
    have e : s.1 + 1 + ((n : Int) - s.1) = (n : Int) + 1 := by omega
    rw [e] at this
    exact Int.emod_eq_zero_of_dvd this
/-! ### left != [] -/
def laD (s : Sta) : PyData := .tuple [.tuple (s.2.map .int), .tuple ((toldS s).map .bool), .int s.1]
theorem intsD_can : ∀ xs : List Int, PyData.canLayAll0 (xs.map PyData.int) = true
  | [] => rfl
  | x :: xs => by simp [PyData.canLayAll0, PyData.canLay0, intsD_can xs]
theorem intsD_dep : ∀ xs : List Int, PyData.depthAll (xs.map PyData.int) = 0
  | [] => rfl
  | x :: xs => by simp [PyData.depthAll, PyData.depth, intsD_dep xs]
theorem blsD_can : ∀ xs : List Bool, PyData.canLayAll0 (xs.map PyData.bool) = true
  | [] => rfl
  | x :: xs => by simp [PyData.canLayAll0, PyData.canLay0, blsD_can xs]
theorem blsD_dep : ∀ xs : List Bool, PyData.depthAll (xs.map PyData.bool) = 0
  | [] => rfl
  | x :: xs => by simp [PyData.depthAll, PyData.depth, blsD_dep xs]
theorem laD_can : ∀ ss : List Sta, PyData.canLayAll0 (ss.map laD) = true
  | [] => rfl
  | s :: ss => by
    have h1 := intsD_can s.2
    have h2 := blsD_can (toldS s)
    simp [PyData.canLayAll0, PyData.canLay0, laD, laD_can ss, h1, h2]
theorem laD_dep : ∀ ss : List Sta, PyData.depthAll (ss.map laD) ≤ 2
  | [] => by simp [PyData.depthAll]
  | s :: ss => by
    have h1 := intsD_dep s.2
    have h2 := blsD_dep (toldS s)
    have ih := laD_dep ss
    simp only [List.map_cons, PyData.depthAll, laD, PyData.depth, h1, h2]
    omega
theorem la_shaped (ss : List Sta) : SeqAt.shaped (.list (ss.map laD)) = true := by
  have := laD_dep ss
  unfold SeqAt.shaped
  rw [Bool.and_eq_true]
  exact ⟨by simp only [PyData.canLay0]; exact laD_can ss, decide_eq_true (by simp only [PyData.depth]; omega)⟩
theorem intsD_dp {K : PySem.W.Frag} {H : Hp} : ∀ xs : List Int, DpAll K H (xs.map V.int) (xs.map .int)
  | [] => .nil
  | x :: xs => .cons (.int x) (intsD_dp xs)
theorem blsD_dp {K : PySem.W.Frag} {H : Hp} : ∀ xs : List Bool, DpAll K H (xs.map V.bl) (xs.map .bool)
  | [] => .nil
  | x :: xs => .cons (.bl x) (blsD_dp xs)
theorem LaSt.dp {K : PySem.W.Frag} {H : Hp} {s : Sta} {a : Addr} (h : LaSt H a s.2 (toldS s) s.1) : Dp K H (.ref a) (laD s) := by
  obtain ⟨G, T, h1, h2, h3⟩ := h.ex
  exact .tup (SqT.of h1) (.cons (.tup (SqT.of h2) (intsD_dp _)) (.cons (.tup (SqT.of h3) (blsD_dp _)) (.cons (.int _) .nil)))
structure LaL (H : Hp) (D : Addr) (ps : List (Sta × Addr)) : Prop where
  at_ : H D = some (.lst (ps.map fun p => V.ref p.2))
  own : ∀ p ∈ ps, LaSt H p.2 p.1.2 (toldS p.1) p.1.1
theorem LaL.same {H H' : Hp} {D : Addr} {ps : List (Sta × Addr)} (t : LaL H D ps) (e : Same H H') : LaL H' D ps := ⟨e _ _ t.at_, fun p hp => (t.own p hp).same e⟩
theorem g_neLa {K : PySem.W.Frag} {a b : Addr} {ps : List (Sta × Addr)} {H : Hp} {Q : VK} (h : LaL H a ps) (hb : H b = some (.lst [])) (q : Q (.bl (!ps.isEmpty)) H) : rNeD K (.ref a) (.ref b) H Q := by
  have dp : ∀ ps : List (Sta × Addr), (∀ p ∈ ps, LaSt H p.2 p.1.2 (toldS p.1) p.1.1) → DpAll K H (ps.map fun p => V.ref p.2) ((ps.map (·.1)).map laD) := fun ps => by
    induction ps with
    | nil => intro _; exact .nil
    | cons p ps ih => intro own; exact .cons (own p List.mem_cons_self).dp (ih fun y hy => own y (List.mem_cons_of_mem _ hy))
  refine ⟨_, _, .lst (SqL.of h.at_) (dp ps h.own), .lst (SqL.of hb) .nil, la_shaped _, rfl, ?_⟩
  have e : PyData.eqv (.list ((ps.map (·.1)).map laD)) (.list []) = ps.isEmpty := by
    rw [PyData.eqv]
    cases ps <;> rfl
  rw [e]; exact q
/-! ### the law's two dicts -/
abbrev KnE := (Sta × Int) × Addr
def knN (es : List KnE) : List NKV := es.map fun e => (knKey e.1, e.2, V.bl true)
def laN (es : List (Sta × Addr)) : List NKV := es.map fun e => (laKey e.1, e.2, V.bl true)
theorem knN_has (es : List KnE) (p : Sta × Int) : hasN (knN es) (knKey p) = decide (p ∈ es.map (·.1)) := by
  unfold hasN knN
  rw [List.any_map]
  induction es with
  | nil => rfl
  | cons e es ih =>
    rw [List.any_cons, ih, List.map_cons]
    by_cases c : e.1 = p
    · simp [c]
    · have : ¬ knKey e.1 = knKey p := fun z => c (knKey_inj z)
      have c2 : ¬ p = e.1 := fun z => c z.symm
      simp [this, c2]
theorem laN_has (es : List (Sta × Addr)) (p : Sta) : hasN (laN es) (laKey p) = decide (p ∈ es.map (·.1)) := by
  unfold hasN laN
  rw [List.any_map]
  induction es with
  | nil => rfl
  | cons e es ih =>
    rw [List.any_cons, ih, List.map_cons]
    by_cases c : e.1 = p
    · simp [c]
    · have : ¬ laKey e.1 = laKey p := fun z => c (laKey_inj z)
      have c2 : ¬ p = e.1 := fun z => c z.symm
      simp [this, c2]
def KnOk (H : Hp) (es : List KnE) : Prop := ∀ e ∈ es, NestV H (knKey e.1) (.ref e.2)
theorem KnOk.keys {H : Hp} {es : List KnE} (h : KnOk H es) : NKeys H (knN es) := fun x hx => by
  obtain ⟨e, he, rfl⟩ := List.mem_map.mp hx
  exact ⟨h e he, knKey_depth _⟩
theorem KnOk.keep {H H' : Hp} {es : List KnE} (h : KnOk H es) (e : KeepT H H') : KnOk H' es := fun x hx => NestV.keep (fun b xs z => e b xs z) _ _ (h x hx)
def LaOk (H : Hp) (es : List (Sta × Addr)) : Prop := ∀ p ∈ es, LaSt H p.2 p.1.2 (toldS p.1) p.1.1
theorem LaOk.keys {H : Hp} {es : List (Sta × Addr)} (h : LaOk H es) : NKeys H (laN es) := fun x hx => by
  obtain ⟨e, he, rfl⟩ := List.mem_map.mp hx
  exact ⟨(h e he).nest, laKey_depth _⟩
theorem LaSt.keep {H H' : Hp} {S : Addr} {xs : List Int} {tl : List Bool} {gap : Int} (l : LaSt H S xs tl gap) (e : KeepT H H') : LaSt H' S xs tl gap := by
  obtain ⟨G, T, h1, h2, h3⟩ := l.ex
  exact ⟨G, T, e _ _ h1, e _ _ h2, e _ _ h3⟩
theorem LaOk.keep {H H' : Hp} {es : List (Sta × Addr)} (h : LaOk H es) (e : KeepT H H') : LaOk H' es := fun p hp => (h p hp).keep e
/-- what is known is bounded -/
theorem kn_len0 {lo hi b : Int} {ts : List Tp} {kn : List (Sta × Int)} (h0 : 0 ≤ hi) (h24 : hi ≤ 24) (ht : WfT ts) (hk : ts.length ≤ 2) (b1 : 1 ≤ b) (b6 : b ≤ 6) (nd : kn.Nodup) (kr : ∀ p ∈ kn, ∃ m : Nat, Reach lo hi b ts m p.1 ∧ p.2 = (m : Int) % b) : kn.length ≤ 9600 := by
  have sub : ∀ p ∈ kn, p ∈ (univS ts.length).flatMap fun s => (List.range 6).map fun r : Nat => (s, (r : Int)) := fun p hp => by
    obtain ⟨m, hr, e⟩ := kr p hp
    obtain ⟨q1, q2, q3⟩ := reach_wf h0 ht hr
    have g0 := Int.emod_nonneg (m : Int) (show b ≠ 0 by omega)
    have g1 := Int.emod_lt_of_pos (m : Int) (show 0 < b by omega)
    refine List.mem_flatMap.mpr ⟨p.1, univS_mem ht q1 (by omega) q3, List.mem_map.mpr ⟨p.2.toNat, List.mem_range.mpr (by omega), ?_⟩⟩
    exact Prod.ext rfl (by show ((p.2.toNat : Nat) : Int) = p.2; omega)
  have := List.Nodup.length_le_of_subset nd sub
  have l6 : ∀ l : List Sta, (l.flatMap fun s => (List.range 6).map fun r : Nat => (s, (r : Int))).length = l.length * 6 := fun l => by
    induction l with
    | nil => rfl
    | cons s l ih => rw [List.flatMap_cons, List.length_append, List.length_map, List.length_range, ih, List.length_cons]; omega
  rw [l6, univS_len] at this
  have h8 : 8 ^ ts.length ≤ 8 ^ 2 := Nat.pow_le_pow_right (by decide) hk
  have : 8 ^ ts.length * 25 ≤ 64 * 25 := Nat.mul_le_mul_right _ h8
  omega
theorem kn_len {lo hi b : Int} {ts : List Tp} {n : Nat} {kn : List (Sta × Int)} {left : List Sta} (h0 : 0 ≤ hi) (h24 : hi ≤ 24) (ht : WfT ts) (hk : ts.length ≤ 2) (b1 : 1 ≤ b) (b6 : b ≤ 6) (B : LB lo hi b ts n kn left) : kn.length ≤ 9600 := kn_len0 h0 h24 ht hk b1 b6 B.nd B.kr
theorem lm_len {lo hi b : Int} {ts : List Tp} {n i : Nat} {kn0 kn : List (Sta × Int)} {left L : List Sta} (h0 : 0 ≤ hi) (h24 : hi ≤ 24) (ht : WfT ts) (hk : ts.length ≤ 2) (b1 : 1 ≤ b) (b6 : b ≤ 6) (B : LB lo hi b ts n kn0 left) (M : LM lo hi b ts n kn0 kn left i L) : kn.length ≤ 9600 :=
  kn_len0 h0 h24 ht hk b1 b6 M.nd fun p hp => by
    rw [M.ext, List.mem_append] at hp
    rcases hp with hp | hp
    · exact B.kr p hp
    · obtain ⟨s, hs, rfl⟩ := List.mem_map.mp hp
      exact ⟨n + 1, M.fr s hs, rfl⟩
end K13
namespace K13
open PySem PySem.Spec PyProof.Rows L2 Wd RZ
local macro_rules | `(tactic| walk_at "gs") => `(tactic| repeat (first
  | with_reducible refine Wd.g_seq ?_
  | ((with_reducible show Ends.nx _ _ _); (with_reducible refine Wd.g_nx ?_))
  | with_reducible refine Wd.g_asg ?_
  | ((with_reducible refine' Wd.g_var ?h1 ?_); (case h1 => exact rfl))
  | with_reducible refine Wd.g_c ?_
  | with_reducible refine Wd.g_op ?_
  | with_reducible refine Wd.g_un ?_
  | with_reducible refine Wd.g_I0 ?_
  | with_reducible refine Wd.g_U ?_
  | with_reducible refine Wd.g_eqI ?_
  | with_reducible refine Wd.g_neI ?_
  | with_reducible refine Wd.g_eqS ?_
  | with_reducible refine Wd.g_neS ?_
  | with_reducible refine Wd.g_eqB ?_
  | with_reducible refine Wd.g_neB ?_
  | with_reducible refine Wd.g_isN ?_
  | with_reducible refine Wd.g_notN ?_
  | with_reducible refine Wd.g_lc ?_
  | with_reducible refine Wd.g_yes ?_
  | with_reducible refine Wd.g_test ?_
  | with_reducible refine Wd.g_tB ?_
  | with_reducible refine Wd.g_bl ?_
  | with_reducible refine Wd.g_blI ?_
  | with_reducible refine Wd.g_and ?_
  | with_reducible refine Wd.g_or ?_
  | with_reducible refine Wd.g_not ?_
  | with_reducible refine Wd.g_andV ?_
  | with_reducible refine Wd.g_orV ?_
  | with_reducible refine Wd.g_notV ?_
  | with_reducible refine Wd.g_if ?_
  | with_reducible refine Wd.g_chain ?_
  | with_reducible refine Wd.g_chain3 ?_
  | with_reducible refine Wd.g_nil ?_
  | with_reducible refine Wd.g_cons ?_
  | with_reducible refine Wd.g_tup ?_
  | with_reducible refine Wd.g_lst ?_
  | with_reducible refine Wd.g_CB ?_
  | with_reducible refine Wd.g_call ?_
  | with_reducible refine Wd.g_callS ?_
  | with_reducible refine Wd.g_bm ?_
  | with_reducible refine Wd.g_bm0 ?_
  | with_reducible refine Wd.g_sl ?_
  | with_reducible refine Wd.g_part ?_
  | with_reducible refine Wd.g_part1 ?_
  | with_reducible refine Wd.g_noPart ?_
  | with_reducible refine Wd.g_next ?_
  | with_reducible refine Wd.g_name ?_
  | with_reducible refine Wd.g_sub ?_
  | with_reducible refine Wd.g_gnil ?_
  | with_reducible refine Wd.g_gcons ?_
  | with_reducible refine Wd.g_drop ?_
  | with_reducible refine Wd.g_ret ?_
  | with_reducible refine Wd.g_retN ?_
  | with_reducible refine Wd.g_brk ?_
  | with_reducible refine Wd.g_cont ?_
  | ((with_reducible show Ends.bk _ _ _); (with_reducible refine Wd.g_bk ?_))
  | ((with_reducible show Ends.ct _ _ _); (with_reducible refine Wd.g_ct ?_))
  | ((with_reducible show Ends.rt _ _ _); (with_reducible refine Wd.g_rt ?_))
  | with_reducible refine Wd.g_for ?_
  | with_reducible refine Wd.g_rng1 ?_
  | with_reducible refine Wd.g_rng2 ?_
  | with_reducible refine Wd.g_iList ?_
  | with_reducible refine Wd.g_iTup ?_
  | ((with_reducible refine Wd.g_fit ?h1 ?_); (case h1 => exact rfl))
  | with_reducible refine Wd.g_max2 ?_
  | with_reducible refine Wd.g_min2 ?_
  | with_reducible refine Wd.g_int1B ?_
  | with_reducible refine L2.iteT ?_
  | with_reducible refine L2.iteF ?_
  | ((with_reducible refine Wd.g_itT ?h1 ?_); (case h1 => exact rfl))
  | ((with_reducible refine Wd.g_itF ?h1 ?_); (case h1 => exact rfl))))
theorem g_nnew {P : Program} {w : World} {σ : L2.St} {H : Hp} {Q : VK} (h : ∀ d, H d = none → Q (.ref d) (upd H d (DNO P w d []))) : tNNew P w σ H Q := h
section
variable {P : Program} {w : World} {K : PySem.W.Frag} {mg : Str → Option Value} {base : Heap} {CW CT CB CM : Addr}
abbrev s_law_first : Stmt := top 41
theorem sc_law_first : FnScope ["_law_window", "_law_beat", "_law_tasks_here", "_law_left", "_law_known", "_law_now", "_law_later_here", "_law_state", "_law_row", "_law_other"] ["_law_window", "_law_beat", "_law_tasks_here"] (C8.fnScope s_law_first) := C8.fnScope_by (by decide +kernel)
def sp_first (K : PySem.W.Frag) : Sp := fun vs H Q _ => ∃ (W L : Addr) (lo hi b : Int) (zs : List Wk), vs = [.ref W, .int b, .ref L] ∧ H W = some (.tup [.int lo, .int hi]) ∧ WkL H L zs ∧ WfT (zs.map (·.2)) ∧ 1 ≤ zs.length ∧ zs.length ≤ 2 ∧ 0 ≤ hi ∧ hi ≤ 24 ∧ 1 ≤ b ∧ b ≤ 6 ∧
  (Steady lo hi b (zs.map (·.2)) → ∀ H', Same H H' → Q .non H') ∧
  ∀ (n : Nat) s ws, Reach lo hi b (zs.map (·.2)) n s → Fol (zs.map (·.2)) s.2 ws → wordB lo hi b (s.1 + 1) ws ≠ none → (∀ m s' ws', Reach lo hi b (zs.map (·.2)) m s' → m < n → Fol (zs.map (·.2)) s'.2 ws' → wordB lo hi b (s'.1 + 1) ws' = none) → ∀ H', Same H H' → Q (.int ((n : Int) + 1)) H'
theorem ok_first (T : Txt K mg CW CT CB CM) {f : Addr} {fd : FuncData} (D : C8.Def K mg "_law_first" s_law_first f fd) (b : Binds K fd ["_law_window", "_law_beat", "_law_tasks_here"] []) (g_law_choices : C8.Cal P w K mg base 1 "_law_choices" (sp_choices K) []) (g_law_later : C8.Cal P w K mg base 1 "_law_later" (sp_later K) []) : C8.Cal P w K mg base 2 "_law_first" (sp_first K) [] := by
  refine C8.cal0 D b .nil sc_law_first (fun vs H Q E h => ?_) fun cdv A outer s H vs Q E hr h => ?_
  · obtain ⟨W, L, lo, hi, b, zs, rfl, _⟩ := h; rfl
  · obtain ⟨W, L, lo, hi, b, zs, rfl, hW, wk, wft, k1, k2, h0, h24, b1, b6, q1, q2⟩ := h
    have nd := sc_law_first.nd
    refine ⟨_, (pss_cons (ps_set (i := 3) nd rfl (Or.inl rfl) (pe_lst (pa_cons (pe_tup (pa_cons (pe_op (r := rRepU K) op_repU (pe_tup (pa_cons pe_int pa_nil)) (pe_callB (r := Wd.rLen K) call_len1 (by rfl) T.n_len PySem.boot_len (pa_cons (pv 2) pa_nil))) (pa_cons (pe_op (r := rRepU K) op_repU (pe_tup (pa_cons pe_bl pa_nil)) (pe_callB (r := Wd.rLen K) call_len1 (by rfl) T.n_len PySem.boot_len (pa_cons (pv 2) pa_nil))) (pa_cons pe_int pa_nil)))) pa_nil)))
      (pss_cons (ps_set (i := 4) nd rfl (Or.inl rfl) pe_nnew)
      (pss_cons (ps_set (i := 5) nd rfl (Or.inl rfl) pe_int)
      (pss_cons (ps_while PassesOwn.never (pt_cmpR (r := rNeD K) (op_neD hr.units) (pv 3) (pe_lst pa_nil) (nomark _)) (pss_cons (ps_set (i := 5) nd rfl (Or.inl rfl) (pe_op op_add (pv 5) pe_int))
      (pss_cons (ps_set (i := 6) nd rfl (Or.inl rfl) pe_nnew)
      (pss_cons (ps_for PassesOwn.never rfl (pi_list (pv 3)) (pg_name (i := 7) nd rfl (Or.inl rfl)) (pss_one (ps_for PassesOwn.never rfl (pi_list (C8.pe_c g_law_choices hr (by first | decide | exact Nat.le_refl _ | omega) (by rfl) (pa_cons (pv 2) (pa_cons (pe_ix (r := rIxT K) ix_tup (pv 7) pe_int (fun _ _ => rfl)) pa_nil)))) (pg_name (i := 8) nd rfl (Or.inl rfl)) (pss_cons (ps_set (i := 9) nd rfl (Or.inl rfl) (C8.pe_c g_law_later hr (by first | decide | exact Nat.le_refl _ | omega) (by rfl) (pa_cons (pv 0) (pa_cons (pv 7) (pa_cons (pv 8) (pa_cons (pe_cmpR op_eq (pe_op op_mod (pv 5) (pv 1)) pe_int (nomark _)) pa_nil))))))
      (pss_cons (ps_if (pt_cmpR op_isN1 (pv 9) pe_non (nomark _)) (pss_one (ps_ret (pv 5))) pss_nil)
      (pss_one (ps_if (pt_cmpR (r := rNIn P w true) (op_nnotin hr.units) (pe_tup (pa_cons (pv 9) (pa_cons (pe_op op_mod (pv 5) (pv 1)) pa_nil))) (pv 4) (by with_unfolding_all rfl)) (pss_cons (ps_nput hr.units (pv 4) (pe_tup (pa_cons (pv 9) (pa_cons (pe_op op_mod (pv 5) (pv 1)) pa_nil))) pe_bl rfl)
      (pss_one (ps_nput hr.units (pv 6) (pv 9) pe_bl rfl))) pss_nil)))))))
      (pss_one (ps_set (i := 3) nd rfl (Or.inl rfl) (pe_callTy (r := rListN P w) (call_listN (by rfl)) (by rfl) T.n_list (by decide +kernel) (pa_cons (pv 6) pa_nil))))))))
      (pss_one (ps_ret pe_non)))))), ?_⟩
    generalize hts : zs.map (·.2) = ts at wft q1 q2
    have tl : ts.length = zs.length := by rw [← hts, List.length_map]
    walk_at "go"
    intro t0 ht0
    have s1 := same_new (o := .tup [.int 0]) ht0
    have e1 := upd_same (H := H) (a := t0) (o := .tup [.int 0])
    generalize upd H t0 (.tup [.int 0]) = H1 at s1 e1
    walk_at "go"
    refine g_len (.inl (SqL.of (s1 _ _ wk.at_))) ?_
    rw [List.length_map]
    refine g_repZ e1 k1 (by omega) fun H2 c s12 ec => ?_
    have s2 := s1.trans s12
    walk_at "go"
    intro t1 ht1
    have s3 := s2.trans (same_new (o := .tup [.bl false]) ht1)
    have e3 := upd_same (H := H2) (a := t1) (o := .tup [.bl false])
    have ec3 := (same_new (o := .tup [.bl false]) ht1) _ _ ec
    generalize upd H2 t1 (.tup [.bl false]) = H3 at s3 e3 ec3
    walk_at "go"
    refine g_len (.inl (SqL.of (s3 _ _ wk.at_))) ?_
    rw [List.length_map]
    refine g_repF e3 k1 (by omega) fun H4 c2 s34 ec2 => ?_
    have s4 := s3.trans s34
    have ec4 := s34 _ _ ec3
    walk_at "go"
    intro t2 ht2
    have s5 := s4.trans (same_new (o := .tup [.ref c, .ref c2, .int 0]) ht2)
    have la : LaSt (upd H4 t2 (.tup [.ref c, .ref c2, .int 0])) t2 (start0 ts).2 (toldS (start0 ts)) (start0 ts).1 := by
      refine ⟨c, c2, upd_same, ?_, ?_⟩
      · show upd H4 t2 _ c = some (.tup ((List.replicate ts.length 0).map V.int))
        rw [tl]; exact (same_new ht2) _ _ ec4
      · have : toldS (start0 ts) = List.replicate zs.length false := by
          unfold toldS start0
          rw [List.map_replicate, tl]; rfl
        rw [this]; exact (same_new ht2) _ _ ec2
    generalize upd H4 t2 (.tup [.ref c, .ref c2, .int 0]) = H5 at s5 la
    clear s1 e1 s12 ec s2 s3 e3 ec3 s34 ec2 s4 ec4 ht0 ht1 ht2
    walk_at "go"
    intro SL hSL
    have s6 := s5.trans (same_new (o := .lst [V.ref t2]) hSL)
    have eS := upd_same (H := H5) (a := SL) (o := .lst [V.ref t2])
    have la6 := la.same (same_new (o := .lst [V.ref t2]) hSL)
    have nS := Wd.Same.back s5 hSL
    generalize upd H5 SL (.lst [V.ref t2]) = H6 at s6 eS la6
    walk_at "go"
    refine g_nnew (P := P) (w := w) fun d hd => ?_
    have nd0 := Wd.Same.back s6 hd
    have s7 := s6.trans (same_new (o := DNO P w d []) hd)
    have eS7 := (same_new (o := DNO P w d []) hd) _ _ eS
    have la7 := la6.same (same_new (o := DNO P w d []) hd)
    have ed7 := upd_same (H := H6) (a := d) (o := DNO P w d [])
    generalize upd H6 d (DNO P w d []) = H7 at s7 eS7 la7 ed7
    clear s6 eS la6 hd s5 la hSL
    walk_at "go"
    refine w_loop (fun m σ H' => ∃ (n : Nat) (ks : List KnE) (ps : List (Sta × Addr)) (SL : Addr) (v6 v7 v8 v9 : Option V), σ = [some (.ref W), some (.int b), some (.ref L), some (.ref SL), some (.ref d), some (.int n), v6, v7, v8, v9] ∧ Same H H' ∧ H' d = some (DNO P w d (knN ks)) ∧ KnOk H' ks ∧ LaL H' SL ps ∧ LB lo hi b ts n (ks.map (·.1)) (ps.map (·.1)) ∧ m = 2 * (9601 - ks.length) + if ps = [] then 0 else 1) (2 * 9601 + 1) ?_ ?_
    · exact ⟨0, [], [(start0 ts, t2)], SL, _, _, _, _, rfl, s7, ed7, (fun e he => nomatch he), ⟨eS7, fun p hp => by rw [List.mem_singleton] at hp; subst hp; exact la7⟩, lb_start, rfl⟩
    clear eS7 la7 ed7 s7 nS SL
    rintro m σ H1 ⟨n, ks, ps, SL, v6, v7, v8, v9, rfl, s1, ed1, kn1, ll1, B, hm⟩
    have kl := kn_len h0 h24 wft (by omega) b1 b6 B
    rw [List.length_map] at kl
    walk_at "go"
    intro E1 hE1
    have sE := same_new (o := .lst []) hE1
    refine g_neLa (ll1.same sE) upd_same ?_
    have s2 := s1.trans sE
    have ed2 := sE _ _ ed1
    have kn2 := kn1.keep (keepT_same sE)
    have ll2 := ll1.same sE
    generalize upd H1 E1 (.lst []) = H2 at s2 ed2 kn2 ll2
    clear sE s1 ed1 kn1 ll1 hE1 H1
    by_cases hps : ps = []
    · subst hps
      walk_at "go"
      exact q1 (lb_steady B) _ s2
    have em : (!ps.isEmpty) = true := by cases ps with
      | nil => exact absurd rfl hps
      | cons _ _ => rfl
    rw [em]
    walk_at "go"
    refine ⟨fun σ' H' => ∃ (ks' : List KnE) (ps' : List (Sta × Addr)) (SL : Addr) (v6 v7 v8 v9 : Option V), σ' = [some (.ref W), some (.int b), some (.ref L), some (.ref SL), some (.ref d), some (.int (n + 1 : Nat)), v6, v7, v8, v9] ∧ Same H H' ∧ H' d = some (DNO P w d (knN ks')) ∧ KnOk H' ks' ∧ LaL H' SL ps' ∧ LB lo hi b ts (n + 1) (ks'.map (·.1)) (ps'.map (·.1)) ∧ ks'.length = ks.length + ps'.length, ?_, ?_⟩
    · rintro σ' H' ⟨ks', ps', SL', w6, w7, w8, w9, r1, r2, r3, r4, r5, r6, r7⟩
      have kl' := kn_len h0 h24 wft (by omega) b1 b6 r6
      rw [List.length_map] at kl'
      refine ⟨2 * (9601 - ks'.length) + if ps' = [] then 0 else 1, ?_, n + 1, ks', ps', SL', w6, w7, w8, w9, r1, r2, r3, r4, r5, r6, rfl⟩
      rw [if_neg hps] at hm
      by_cases c : ps' = []
      · rw [if_pos c]
        rw [c] at r7
        simp only [List.length_nil] at r7
        omega
      · rw [if_neg c]
        have := List.length_pos_iff.mpr c
        omega
    walk_at "go"
    refine g_nnew (P := P) (w := w) fun d2 hd2 => ?_
    have nd2 := Wd.Same.back s2 hd2
    have s3 := s2.trans (same_new (o := DNO P w d2 []) hd2)
    have ed3 := (same_new (o := DNO P w d2 []) hd2) _ _ ed2
    have kn3 := kn2.keep (keepT_same (same_new (o := DNO P w d2 []) hd2))
    have ll3 := ll2.same (same_new (o := DNO P w d2 []) hd2)
    have ee3 := upd_same (H := H2) (a := d2) (o := DNO P w d2 [])
    have nd12 : d2 ≠ d := fun z => by rw [z, ed2] at hd2; cases hd2
    generalize upd H2 d2 (DNO P w d2 []) = H3 at s3 ed3 kn3 ll3 ee3
    clear s2 ed2 kn2 ll2 hd2 H2
    walk_at "go"
    refine w_list (xs := ps.map fun p => V.ref p.2) (fun i σ H' => ∃ (ks' : List KnE) (es : List (Sta × Addr)) (v7 v8 v9 : Option V), σ = [some (.ref W), some (.int b), some (.ref L), some (.ref SL), some (.ref d), some (.int ((n : Int) + 1)), some (.ref d2), v7, v8, v9] ∧ Same H H' ∧ H' d = some (DNO P w d (knN ks')) ∧ KnOk H' ks' ∧ H' d2 = some (DNO P w d2 (laN es)) ∧ LaOk H' es ∧ LaL H' SL ps ∧ LM lo hi b ts n (ks.map (·.1)) (ks'.map (·.1)) (ps.map (·.1)) i (es.map (·.1))) ?_ ?_ ?_ ?_
    · exact ⟨ks, [], _, _, _, rfl, s3, ed3, kn3, ee3, (fun p hp => nomatch hp), ll3, lm_start B⟩
    · rintro i σ H' _ ⟨ks', es, v7, v8, v9, _, _, _, _, _, _, ll, _⟩
      exact SqL.of ll.at_
    · clear s3 ed3 kn3 ll3 ee3 H3
      rintro i x σ H3 hx ⟨ks', es, v7, v8, v9, rfl, s3, ed3, kn3, ee3, la3, ll3, M⟩
      obtain ⟨p, hp, rfl⟩ := map_at2 hx
      have pm := List.mem_of_getElem? hp
      have hr := B.fr p.1 (List.mem_map.mpr ⟨p, pm, rfl⟩)
      obtain ⟨w0, w1, wfw⟩ := reach_wf h0 wft hr
      have la := ll3.own p pm
      obtain ⟨G, TT, hS, hG, hT⟩ := la.ex
      walk_at "go"
      refine g_ixT (SqT.of hS) rfl ?_
      walk_at "go"
      refine ⟨L, G, zs, p.1.2, rfl, wk.same s3, hG, by rw [← tl]; exact wfw.len, k1, k2, fun H4 DD rs s34 nDD rl er => ?_⟩
      have s4 := s3.trans s34
      have ed4 := s34 _ _ ed3
      have kn4 := kn3.keep (keepT_same s34)
      have ee4 := s34 _ _ ee3
      have la4 := la3.keep (keepT_same s34)
      have ll4 := ll3.same s34
      clear la hS hG hT G TT s3 ed3 kn3 ee3 la3 ll3 s34 nDD H3
      walk_at "go"
      refine w_list (xs := rs.map fun r => V.ref r.1) (fun j σ H' => ∃ (ks' : List KnE) (es : List (Sta × Addr)) (v8 v9 : Option V), σ = [some (.ref W), some (.int b), some (.ref L), some (.ref SL), some (.ref d), some (.int ((n : Int) + 1)), some (.ref d2), some (.ref p.2), v8, v9] ∧ Same H H' ∧ H' d = some (DNO P w d (knN ks')) ∧ KnOk H' ks' ∧ H' d2 = some (DNO P w d2 (laN es)) ∧ LaOk H' es ∧ LaL H' SL ps ∧ RowsB H' DD rs ∧ LM lo hi b ts n (ks.map (·.1)) (ks'.map (·.1)) (ps.map (·.1)) i (es.map (·.1)) ∧
        ∀ k row, k < j → (rs.map (·.2))[k]? = some row → wordB lo hi b (p.1.1 + 1) (agesOf row p.1.2) = none ∧ (foll b (p.1.1 + 1, agesOf row p.1.2), ((n : Int) + 1) % b) ∈ ks'.map (·.1)) ?_ ?_ ?_ ?_
      · exact ⟨ks', es, _, _, rfl, s4, ed4, kn4, ee4, la4, ll4, rl, M, fun k row h => absurd h (Nat.not_lt_zero k)⟩
      · rintro j σ H' _ ⟨ks', es, v8, v9, _, _, _, _, _, _, _, rb, _⟩
        exact SqL.of rb.at_
      · clear s4 ed4 kn4 ee4 la4 ll4 rl M H4 ks' es
        rintro j x σ H4 hx2 ⟨ks', es, v8, v9, rfl, s4, ed4, kn4, ee4, la4, ll4, rb, M, dn⟩
        obtain ⟨r, hr2, rfl⟩ := map_at2 hx2
        have rm := List.mem_of_getElem? hr2
        have ok : RowOk ts p.1.2 r.2 := by
          have : r.2 ∈ rs.map (·.2) := List.mem_map.mpr ⟨r, rm, rfl⟩
          rw [er, hts] at this
          obtain ⟨a, ha, ys, h1, h2⟩ := (allB_mem ts p.1.2 [[]] r.2 wfw.len).mp this
          rw [List.mem_singleton] at ha
          subst ha
          rw [h2]; exact h1
        have fo := row_fol wft wfw ok
        walk_at "go"
        have b0 : 0 < b := by omega
        refine g_I (show 0 < b by omega) ?_
        walk_at "go"
        refine use_later (lo := lo) (hi := hi) (b := b) (ts := ts) (s := p.1) (row := r.2) (s4 _ _ hW) (ll4.own p pm) (rb.own r rm) wft wfw w0 ok (by omega) (by omega) (by rw [decide_eq_true_iff]; exact mod_gap hr) (fun bad H5 s5 => ?_) (fun good H5 tf s5 nt lf => ?_)
        · walk_at "go"
          exact q2 n p.1 _ hr fo bad (fun m s' ws' h1 h2 h3 => (B.lt m s' h2 h1 ws' h3).1) _ (s4.trans s5)
        walk_at "go"
        refine g_I (show 0 < b by omega) ?_
        walk_at "go"
        intro kt hkt
        have rch : Reach lo hi b ts (n + 1) (foll b (p.1.1 + 1, agesOf r.2 p.1.2)) := .succ hr fo good
        have ins : ∀ (k : Nat) (row : List Bool) (kk : List (Sta × Int)), (∀ y ∈ ks'.map (·.1), y ∈ kk) → (foll b (p.1.1 + 1, agesOf r.2 p.1.2), ((n : Int) + 1) % b) ∈ kk → k < j + 1 → (rs.map (·.2))[k]? = some row → wordB lo hi b (p.1.1 + 1) (agesOf row p.1.2) = none ∧ (foll b (p.1.1 + 1, agesOf row p.1.2), ((n : Int) + 1) % b) ∈ kk := fun k row kk sub fin hk he => by
          by_cases c : k < j
          · exact ⟨(dn k row c he).1, sub _ (dn k row c he).2⟩
          · have : k = j := by omega
            subst this
            rw [List.getElem?_map, hr2] at he
            cases he
            exact ⟨good, fin⟩
        generalize foll b (p.1.1 + 1, agesOf r.2 p.1.2) = f at lf rch ins
        have sk := same_new (o := .tup [.ref tf, .int (((n : Int) + 1) % b)]) hkt
        have s6 := (s4.trans s5).trans sk
        have s56 := s5.trans sk
        have nest : NestV (upd H5 kt (.tup [.ref tf, .int (((n : Int) + 1) % b)])) (knKey (f, ((n : Int) + 1) % b)) (.ref kt) := .tup upd_same (.cons (lf.same sk).nest (.cons (.int _) .nil))
        have lf6 := lf.same sk
        have ed6 := s56 _ _ ed4
        have kn6 := kn4.keep (keepT_same s56)
        have ee6 := s56 _ _ ee4
        have la6 := la4.keep (keepT_same s56)
        have ll6 := ll4.same s56
        have rb6 := rb.same s56
        generalize upd H5 kt (.tup [.ref tf, .int (((n : Int) + 1) % b)]) = H6 at s6 nest lf6 ed6 kn6 ee6 la6 ll6 rb6
        clear sk s56 s4 ed4 kn4 ee4 la4 ll4 rb s5 lf hkt nt
        walk_at "go"
        refine ⟨knKey (f, ((n : Int) + 1) % b), kt, d, knN ks', rfl, rfl, ed6, kn6.keys, nest, knKey_depth _, ?_⟩
        rw [knN_has]
        by_cases hin : (f, ((n : Int) + 1) % b) ∈ ks'.map (·.1)
        · rw [decide_eq_true hin]
          walk_at "go"
          exact ⟨ks', es, _, _, rfl, s6, ed6, kn6, ee6, la6, ll6, rb6, M, fun k row hk he => ins k row _ (fun _ z => z) hin hk he⟩
        · rw [decide_eq_false hin]
          walk_at "go"
          have kl9 := lm_len h0 h24 wft (by omega) b1 b6 B M
          have el9 : es.length ≤ ks'.length := by
            have := congrArg List.length M.ext
            rw [List.length_append, List.length_map, List.length_map, List.length_map, List.length_map] at this
            omega
          rw [List.length_map] at kl9
          have nes : ¬ f ∈ es.map (·.1) := fun z => hin (by rw [M.ext]; exact List.mem_append_right _ (List.mem_map.mpr ⟨f, z, rfl⟩))
          refine g_nput (P := P) (w := w) ?_
          walk_at "go"
          refine g_I (show 0 < b by omega) ?_
          walk_at "go"
          intro k2' hk2
          have sk := same_new (o := .tup [.ref tf, .int (((n : Int) + 1) % b)]) hk2
          have s7 := s6.trans sk
          have nest2 : NestV (upd H6 k2' (.tup [.ref tf, .int (((n : Int) + 1) % b)])) (knKey (f, ((n : Int) + 1) % b)) (.ref k2') := .tup upd_same (.cons (lf6.same sk).nest (.cons (.int _) .nil))
          have lf7 := lf6.same sk
          have ed7 := sk _ _ ed6
          have kn7 := kn6.keep (keepT_same sk)
          have ee7 := sk _ _ ee6
          have la7 := la6.keep (keepT_same sk)
          have ll7 := ll6.same sk
          have rb7 := rb6.same sk
          generalize upd H6 k2' (.tup [.ref tf, .int (((n : Int) + 1) % b)]) = H7 at s7 nest2 lf7 ed7 kn7 ee7 la7 ll7 rb7
          walk_at "go"
          refine ⟨knKey (f, ((n : Int) + 1) % b), k2', d, knN ks', rfl, rfl, ed7, kn7.keys, nest2, knKey_depth _, by rw [knN_has, decide_eq_false hin], by rw [sizeLine_eq]; unfold knN; rw [List.length_map]; omega, ?_⟩
          have kt := keepT_dno (o := DNO P w d (knN ks' ++ [(knKey (f, ((n : Int) + 1) % b), k2', V.bl true)])) ed7
          have nstl : ∀ (o : HO) (a : Addr) (xs : List V), H7 a = some (.lst xs) → upd H7 d o a = some (.lst xs) := fun o a xs e => by
            rw [upd_ne (fun z => by rw [z, ed7] at e; exact dno_lst (Option.some.inj e))]; exact e
          have s8 := Wd.Same.mut (o := DNO P w d (knN ks' ++ [(knKey (f, ((n : Int) + 1) % b), k2', V.bl true)])) s7 nd0
          have e8 : upd H7 d (DNO P w d (knN ks' ++ [(knKey (f, ((n : Int) + 1) % b), k2', V.bl true)])) d = some (DNO P w d (knN (ks' ++ [((f, ((n : Int) + 1) % b), k2')]))) := by rw [upd_same]; unfold knN; rw [List.map_append]; rfl
          have ee8 : upd H7 d (DNO P w d (knN ks' ++ [(knKey (f, ((n : Int) + 1) % b), k2', V.bl true)])) d2 = some (DNO P w d2 (laN es)) := by rw [upd_ne nd12]; exact ee7
          have kn8 : KnOk (upd H7 d (DNO P w d (knN ks' ++ [(knKey (f, ((n : Int) + 1) % b), k2', V.bl true)]))) (ks' ++ [((f, ((n : Int) + 1) % b), k2')]) := fun y hy => by
            rw [List.mem_append, List.mem_singleton] at hy
            rcases hy with hy | rfl
            · exact kn7.keep kt y hy
            · exact NestV.keep (fun b xs z => kt b xs z) _ _ nest2
          have la8 := la7.keep kt
          have lf8 := lf7.keep kt
          have ll8 : LaL (upd H7 d (DNO P w d (knN ks' ++ [(knKey (f, ((n : Int) + 1) % b), k2', V.bl true)]))) SL ps := ⟨nstl _ _ _ ll7.at_, fun p hp => (ll7.own p hp).keep kt⟩
          have rb8 : RowsB (upd H7 d (DNO P w d (knN ks' ++ [(knKey (f, ((n : Int) + 1) % b), k2', V.bl true)]))) DD rs := ⟨nstl _ _ _ rb7.at_, fun r hr => kt _ _ (rb7.own r hr)⟩
          generalize upd H7 d (DNO P w d (knN ks' ++ [(knKey (f, ((n : Int) + 1) % b), k2', V.bl true)])) = H8 at s8 e8 ee8 kn8 la8 lf8 ll8 rb8
          clear kt nstl s7 nest2 lf7 ed7 kn7 ee7 la7 ll7 rb7 sk s6 nest lf6 ed6 kn6 ee6 la6 ll6 rb6 hk2
          refine g_nput (P := P) (w := w) ?_
          walk_at "go"
          refine ⟨laKey f, tf, d2, laN es, rfl, rfl, ee8, la8.keys, lf8.nest, laKey_depth _, by rw [laN_has, decide_eq_false nes], by rw [sizeLine_eq]; unfold laN; rw [List.length_map]; omega, ?_⟩
          have kt := keepT_dno (o := DNO P w d2 (laN es ++ [(laKey f, tf, V.bl true)])) ee8
          have nstl : ∀ (o : HO) (a : Addr) (xs : List V), H8 a = some (.lst xs) → upd H8 d2 o a = some (.lst xs) := fun o a xs e => by
            rw [upd_ne (fun z => by rw [z, ee8] at e; exact dno_lst (Option.some.inj e))]; exact e
          refine ⟨ks' ++ [((f, ((n : Int) + 1) % b), k2')], es ++ [(f, tf)], _, _, rfl, Wd.Same.mut s8 nd2, by rw [upd_ne (fun z => nd12 z.symm)]; exact e8, kn8.keep kt, by rw [upd_same]; unfold laN; rw [List.map_append]; rfl, fun y hy => ?_, ⟨nstl _ _ _ ll8.at_, fun p hp => (ll8.own p hp).keep kt⟩, ⟨nstl _ _ _ rb8.at_, fun r hr => kt _ _ (rb8.own r hr)⟩, by rw [List.map_append, List.map_append]; exact lm_add M rch hin, fun k row hk he => ins k row _ (fun y hy => by rw [List.map_append]; exact List.mem_append_left _ hy) (by rw [List.map_append]; exact List.mem_append_right _ (List.mem_singleton.mpr rfl)) hk he⟩
          rw [List.mem_append, List.mem_singleton] at hy
          rcases hy with hy | rfl
          · exact (la8 y hy).keep kt
          · exact lf8.keep kt
      · clear s4 ed4 kn4 ee4 la4 ll4 rl M H4 ks' es
        rintro σ H4 ⟨ks', es, v8, v9, rfl, s4, ed4, kn4, ee4, la4, ll4, rb, M, dn⟩
        refine ⟨ks', es, _, _, _, rfl, s4, ed4, kn4, ee4, la4, ll4, lm_next M (by rw [List.getElem?_map, hp]; rfl) fun ws hf => ?_⟩
        obtain ⟨row, ok, rfl⟩ := fol_row wft wfw hf
        have rm : row ∈ rs.map (·.2) := by
          rw [er, hts]
          exact (allB_mem ts p.1.2 [[]] row wfw.len).mpr ⟨[], List.mem_singleton.mpr rfl, row, ok, rfl⟩
        obtain ⟨k, hk, e⟩ := List.mem_iff_getElem.mp rm
        rw [List.length_map] at hk dn
        have := dn k row hk (by rw [List.getElem?_eq_getElem (by rw [List.length_map]; exact hk), e])
        rw [Int.emod_add_emod]
        exact this
    · clear s3 ed3 kn3 ll3 ee3 H3
      rintro σ H3 ⟨ks', es, v7, v8, v9, rfl, s3, ed3, kn3, ee3, la3, ll3, M⟩
      walk_at "go"
      refine g_listN ee3 fun q hq => ?_
      have sq := same_new (o := .lst ((laN es).map fun x => V.ref x.2.1)) hq
      walk_at "go"
      rw [List.length_map, ← List.length_map (f := fun p : Sta × Addr => p.1)] at M
      refine ⟨ks', es, q, _, _, _, _, rfl, s3.trans sq, sq _ _ ed3, kn3.keep (keepT_same sq), ⟨by rw [upd_same]; unfold laN; rw [List.map_map]; rfl, fun p hp => (la3 p hp).same sq⟩, lb_next B M, ?_⟩
      have := congrArg List.length M.ext
      rw [List.length_append, List.length_map, List.length_map, List.length_map, List.length_map] at this
      exact this
end
end K13
namespace K13
open PySem PySem.Spec PyProof.Rows L2 Wd
local macro_rules | `(tactic| walk_at "gs") => `(tactic| repeat (first
  | with_reducible refine Wd.g_seq ?_
  | ((with_reducible show Ends.nx _ _ _); (with_reducible refine Wd.g_nx ?_))
  | with_reducible refine Wd.g_asg ?_
  | ((with_reducible refine' Wd.g_var ?h1 ?_); (case h1 => exact rfl))
  | with_reducible refine Wd.g_c ?_
  | with_reducible refine Wd.g_op ?_
  | with_reducible refine Wd.g_un ?_
  | with_reducible refine Wd.g_I0 ?_
  | with_reducible refine Wd.g_U ?_
  | with_reducible refine Wd.g_eqI ?_
  | with_reducible refine Wd.g_neI ?_
  | with_reducible refine Wd.g_eqS ?_
  | with_reducible refine Wd.g_neS ?_
  | with_reducible refine Wd.g_eqB ?_
  | with_reducible refine Wd.g_neB ?_
  | with_reducible refine Wd.g_isN ?_
  | with_reducible refine Wd.g_notN ?_
  | with_reducible refine Wd.g_lc ?_
  | with_reducible refine Wd.g_yes ?_
  | with_reducible refine Wd.g_test ?_
  | with_reducible refine Wd.g_tB ?_
  | with_reducible refine Wd.g_bl ?_
  | with_reducible refine Wd.g_blI ?_
  | with_reducible refine Wd.g_and ?_
  | with_reducible refine Wd.g_or ?_
  | with_reducible refine Wd.g_not ?_
  | with_reducible refine Wd.g_andV ?_
  | with_reducible refine Wd.g_orV ?_
  | with_reducible refine Wd.g_notV ?_
  | with_reducible refine Wd.g_if ?_
  | with_reducible refine Wd.g_chain ?_
  | with_reducible refine Wd.g_chain3 ?_
  | with_reducible refine Wd.g_nil ?_
  | with_reducible refine Wd.g_cons ?_
  | with_reducible refine Wd.g_tup ?_
  | with_reducible refine Wd.g_lst ?_
  | with_reducible refine Wd.g_CB ?_
  | with_reducible refine Wd.g_call ?_
  | with_reducible refine Wd.g_callS ?_
  | with_reducible refine Wd.g_bm ?_
  | with_reducible refine Wd.g_bm0 ?_
  | with_reducible refine Wd.g_sl ?_
  | with_reducible refine Wd.g_part ?_
  | with_reducible refine Wd.g_part1 ?_
  | with_reducible refine Wd.g_noPart ?_
  | with_reducible refine Wd.g_next ?_
  | with_reducible refine Wd.g_name ?_
  | with_reducible refine Wd.g_sub ?_
  | with_reducible refine Wd.g_gnil ?_
  | with_reducible refine Wd.g_gcons ?_
  | with_reducible refine Wd.g_drop ?_
  | with_reducible refine Wd.g_ret ?_
  | with_reducible refine Wd.g_retN ?_
  | with_reducible refine Wd.g_brk ?_
  | with_reducible refine Wd.g_cont ?_
  | ((with_reducible show Ends.bk _ _ _); (with_reducible refine Wd.g_bk ?_))
  | ((with_reducible show Ends.ct _ _ _); (with_reducible refine Wd.g_ct ?_))
  | ((with_reducible show Ends.rt _ _ _); (with_reducible refine Wd.g_rt ?_))
  | with_reducible refine Wd.g_for ?_
  | with_reducible refine Wd.g_rng1 ?_
  | with_reducible refine Wd.g_rng2 ?_
  | with_reducible refine Wd.g_iList ?_
  | with_reducible refine Wd.g_iTup ?_
  | ((with_reducible refine Wd.g_fit ?h1 ?_); (case h1 => exact rfl))
  | with_reducible refine Wd.g_max2 ?_
  | with_reducible refine Wd.g_min2 ?_
  | with_reducible refine Wd.g_int1B ?_
  | with_reducible refine L2.iteT ?_
  | with_reducible refine L2.iteF ?_
  | ((with_reducible refine Wd.g_itT ?h1 ?_); (case h1 => exact rfl))
  | ((with_reducible refine Wd.g_itF ?h1 ?_); (case h1 => exact rfl))))
theorem TskL.mono {S : Addr} {H : Hp} {L : Addr} {zs : List Wk} {g g' : Int} (t : TskL S H L zs g) (h : g ≤ g') : TskL S H L zs g' := ⟨t.at_, t.nS, fun z hz => by
  obtain ⟨a, b, c, d, e⟩ := t.own z hz
  exact ⟨a, b, c, d, by omega⟩⟩
section
variable {P : Program} {w : World} {K : PySem.W.Frag} {mg : Str → Option Value} {base : Heap} {CW CT CB CM : Addr}
abbrev s_law_sizes : Stmt := top 38
theorem sc_law_sizes : FnScope ["_law_state", "_law_tasks_here", "_law_beat", "_law_high", "_law_task", "_law_low"] ["_law_state"] (C8.fnScope s_law_sizes) := C8.fnScope_by (by decide +kernel)
def sp_sizes (K : PySem.W.Frag) : Sp := fun vs H Q _ => ∃ (B : Hp) (S : Addr), vs = [.ref S] ∧ Dst K B H S ∧
  ∀ H' t W L lo hi b zs, Dst K B H' S → H' t = some (.tup [.ref W, .int b, .ref L]) → H' W = some (.tup [.int lo, .int hi]) → TskL S H' L zs 8 → 0 ≤ lo → lo ≤ hi → hi ≤ 24 → 1 ≤ b → b ≤ 6 → 1 ≤ zs.length → zs.length ≤ 2 → Q (.ref t) H'
theorem ok_sizes (T : Txt K mg CW CT CB CM) {f : Addr} {fd : FuncData} (D : C8.Def K mg "_law_sizes" s_law_sizes f fd) (b : Binds K fd ["_law_state"] []) (g_law_drawn : C8.Cal P w K mg base 1 "_law_drawn" (sp_drawn K) []) (g_law_tasks : C8.Cal P w K mg base 2 "_law_tasks" (sp_tasks K) []) : C8.Cal P w K mg base 3 "_law_sizes" (sp_sizes K) [] := by
  refine C8.cal0 D b .nil sc_law_sizes (fun vs H Q E h => ?_) fun cdv A outer s H vs Q E hr h => ?_
  · obtain ⟨B, S, rfl, _⟩ := h; rfl
  · obtain ⟨B, S, rfl, d, q⟩ := h
    have nd := sc_law_sizes.nd
    refine ⟨_, (pss_cons (ps_set (i := 1) nd rfl (Or.inl rfl) (C8.pe_c g_law_tasks hr (by first | decide | exact Nat.le_refl _ | omega) (by rfl) (pa_cons (pv 0) (pa_cons pe_int (pa_cons (pe_ix (r := rIxL K) ix_list (pe_lst (pa_cons pe_int (pa_cons pe_int pa_nil))) (C8.pe_c g_law_drawn hr (by first | decide | exact Nat.le_refl _ | omega) (by rfl) (pa_cons (pv 0) (pa_cons pe_int pa_nil))) (fun _ _ => rfl)) pa_nil)))))
      (pss_cons (ps_set (i := 2) nd rfl (Or.inl rfl) (pe_op op_add pe_int (C8.pe_c g_law_drawn hr (by first | decide | exact Nat.le_refl _ | omega) (by rfl) (pa_cons (pv 0) (pa_cons pe_int pa_nil)))))
      (pss_cons (ps_if (pt_cmpR op_eq (C8.pe_c g_law_drawn hr (by first | decide | exact Nat.le_refl _ | omega) (by rfl) (pa_cons (pv 0) (pa_cons pe_int pa_nil))) pe_int (nomark _)) (pss_cons (ps_set (i := 1) nd rfl (Or.inl rfl) (C8.pe_c g_law_tasks hr (by first | decide | exact Nat.le_refl _ | omega) (by rfl) (pa_cons (pv 0) (pa_cons pe_int (pa_cons pe_int pa_nil)))))
      (pss_one (ps_set (i := 2) nd rfl (Or.inl rfl) (pe_op op_add pe_int (C8.pe_c g_law_drawn hr (by first | decide | exact Nat.le_refl _ | omega) (by rfl) (pa_cons (pv 0) (pa_cons pe_int pa_nil))))))) pss_nil)
      (pss_cons (ps_set (i := 3) nd rfl (Or.inl rfl) (pe_op op_add (pe_callB (r := rMax K) (cr_max rfl) (by rfl) T.n_max (by decide +kernel) (pa_cons (pe_lc (own := [("_law_task", 4)]) (g := gName 4) (tt := tYes) rfl nd (pi_list (pv 1)) (blkOk_by (N := ["_law_state", "_law_tasks_here", "_law_beat", "_law_high", "_law_task", "_law_low"]) (sc := C8.fnScope s_law_sizes) (by decide +kernel)) (fun _ _ _ _ _ => pg_name (i := 4) nd rfl (Or.inl rfl)) (fun _ _ _ _ _ => pts_nil) (fun _ _ _ _ _ => (pe_ix (r := rIxT K) ix_tup (pv 4) pe_int (fun _ _ => rfl)))) pa_nil)) (C8.pe_c g_law_drawn hr (by first | decide | exact Nat.le_refl _ | omega) (by rfl) (pa_cons (pv 0) (pa_cons pe_int pa_nil)))))
      (pss_cons (ps_set (i := 5) nd rfl (Or.inl rfl) (pe_ix (r := rIxL K) ix_list (pe_lst (pa_cons pe_int (pa_cons (C8.pe_c g_law_drawn hr (by first | decide | exact Nat.le_refl _ | omega) (by rfl) (pa_cons (pv 0) (pa_cons (pe_callB (call_min1 rfl) (by rfl) T.n_min (by decide +kernel) (pa_cons pe_int (pa_cons (pe_op op_add (pv 3) pe_int) pa_nil))) pa_nil))) (pa_cons (C8.pe_c g_law_drawn hr (by first | decide | exact Nat.le_refl _ | omega) (by rfl) (pa_cons (pv 0) (pa_cons (pe_op op_add (pv 3) pe_int) pa_nil))) pa_nil)))) (C8.pe_c g_law_drawn hr (by first | decide | exact Nat.le_refl _ | omega) (by rfl) (pa_cons (pv 0) (pa_cons pe_int pa_nil))) (fun _ _ => rfl)))
      (pss_one (ps_ret (pe_tup (pa_cons (pe_tup (pa_cons (pv 5) (pa_cons (pv 3) pa_nil))) (pa_cons (pv 2) (pa_cons (pv 1) pa_nil))))))))))), ?_⟩
    walk_at "go"
    intro l hl
    have d3 := d.same (same_new (o := .lst [.int 3, .int 5]) hl)
    have e3 := upd_same (H := H) (a := l) (o := .lst [.int 3, .int 5])
    have nl := d.ne hl
    generalize upd H l (.lst [.int 3, .int 5]) = H3 at d3 e3
    walk_at "go"
    refine use_drawn (n := 2) d3 (by decide) (by decide) fun H4 v f4 d4 v0 v1 => ?_
    have e4 := f4 _ _ nl e3
    obtain ⟨x, hx, hx2⟩ := atI_mem (xs := [.int 3, .int 5]) v0 v1
    refine g_ixL (SqL.of e4) hx2 ?_
    obtain ⟨g, rfl, g0, g1⟩ : ∃ z, x = V.int z ∧ 1 ≤ z ∧ z ≤ 5 := by
      simp only [List.mem_cons, List.not_mem_nil, or_false] at hx
      rcases hx with rfl | rfl <;> exact ⟨_, rfl, by decide, by decide⟩
    clear hx hx2 e4 f4 e3 d3 nl d v0 v1
    walk_at "go"
    refine ⟨_, S, 2, g, rfl, d4, by decide, by decide, g0, by omega, fun H6 L zs f6 d6 tk lz lz0 nL => ?_⟩
    clear d4 nL f6
    walk_at "go"
    refine use_drawn (n := 4) d6 (by decide) (by decide) fun H7 bt f7 d7 bt0 bt1 => ?_
    have tk7 := (tk.frm f7).mono (g' := 8) (by omega)
    clear tk f7 d6
    walk_at "gs"
    refine g_join (fun σ H' => ∃ (L : Addr) (bt : Int) (zs : List Wk), σ = [some (.ref S), some (.ref L), some (.int (1 + bt)), none, none, none] ∧ Dst K B H' S ∧ TskL S H' L zs 8 ∧ 0 ≤ bt ∧ bt < 6 ∧ 1 ≤ zs.length ∧ zs.length ≤ 2) ?_ ?_
    case refine_2 =>
      intro N' hk
      walk_at "go"
      refine use_drawn (n := 4) d7 (by decide) (by decide) fun H8 c f8 d8 c0 c1 => ?_
      have tk8 := tk7.frm f8
      walk_at "go"
      refine g_ite (fun hc => ?_) (fun hc => ?_)
      · walk_at "go"
        refine ⟨_, S, 1, 8, rfl, d8, by decide, by decide, by decide, by decide, fun H9 L2 zs2 f9 d9 tk9 lz2 lz20 nL2 => ?_⟩
        walk_at "go"
        refine use_drawn (n := 6) d9 (by decide) (by decide) fun J bt2 fJ dJ bt20 bt21 => ?_
        walk_at "go"
        exact hk _ _ ⟨L2, bt2, zs2, rfl, dJ, tk9.frm fJ, bt20, bt21, lz20, by omega⟩
      · walk_at "go"
        exact hk _ _ ⟨L, bt, zs, rfl, d8, tk8, bt0, by omega, lz0, by omega⟩
    case refine_1 =>
      clear tk7 d7 bt0 bt1 lz lz0
      rintro σ H7 ⟨L, bt, zs, rfl, d7, tk7, bt0, bt1, lz0, lz⟩
      walk_at "go"
      refine w_lcList (SqL.of tk7.at_) (fun D i H' => Same H7 H' ∧ H' D = some (.lst (((zs.take i).map fun z => z.2.2).map V.int))) (fun D hD => ⟨same_new hD, upd_same⟩) (fun D i H' hD _ h => SqL.of (h.1 _ _ tk7.at_)) (fun D i y H' hD hy h => ?_) (fun D1 H8 hD1 h => ?_)
      · obtain ⟨z, hz, rfl⟩ := zs_at hy
        walk_at "go"
        refine ⟨rfl, ?_⟩
        walk_at "go"
        refine g_ixT (SqT.of (h.1 _ _ (tk7.own z (List.mem_of_getElem? hz)).2.1)) rfl ?_
        exact ⟨_, h.2, by rw [sizeLine_eq, List.length_map, List.length_map]; have := List.length_take_le i zs; have := (List.getElem?_eq_some_iff.mp hz).1; omega, Wd.Same.mut h.1 hD, by rw [upd_same, take_snocM _ hz, List.map_append]; rfl⟩
      obtain ⟨s8, e8⟩ := h
      rw [List.length_map, List.take_length] at e8
      walk_at "go"
      refine ⟨D1, _, rfl, SqL.of e8, by rw [List.length_map]; omega, fun mx hmx hle => ?_⟩
      have mx0 : 1 ≤ mx ∧ mx ≤ 8 := by
        obtain ⟨z, hz, rfl⟩ := List.mem_map.mp hmx
        have := (tk7.own z hz).2.2
        omega
      have d8 := d7.same s8
      have tk8 := tk7.frm (.of s8)
      clear s8 e8 d7 tk7 hmx hle
      walk_at "go"
      refine use_drawn (n := 8) d8 (by decide) (by decide) fun H9 c f9 d9 c0 c1 => ?_
      have tk9 := tk8.frm f9
      clear d8 tk8 f9
      walk_at "go"
      obtain ⟨hi, ehi, hi0, hi1⟩ : ∃ hi : Int, mx + c = hi ∧ 1 ≤ hi ∧ hi ≤ 24 := ⟨_, rfl, by omega, by omega⟩
      rw [ehi]
      clear ehi
      obtain ⟨mm, emm, mm0, mm1, mm2⟩ : ∃ mm : Int, (if hi + 1 < 5 then hi + 1 else 5) = mm ∧ 1 ≤ mm ∧ mm ≤ 5 ∧ mm ≤ hi + 1 := ⟨_, rfl, by split <;> omega, by split <;> omega, by split <;> omega⟩
      rw [emm]
      clear emm
      refine use_drawn (n := mm) d9 (by omega) (by omega) fun J1 lw f1 d1 lw0 lw1 => ?_
      have tkj := tk9.frm f1
      clear d9 tk9 f1
      walk_at "go"
      refine use_drawn (n := hi + 1) d1 (by omega) (by omega) fun J2 lv f2 d2 lv0 lv1 => ?_
      have tk2 := tkj.frm f2
      clear d1 tkj f2
      walk_at "go"
      intro l3 hl3
      have d3 := d2.same (same_new (o := .lst [.int 0, .int lw, .int lv]) hl3)
      have tk3 := tk2.frm (.of (same_new (o := .lst [.int 0, .int lw, .int lv]) hl3))
      have e3 := upd_same (H := J2) (a := l3) (o := .lst [.int 0, .int lw, .int lv])
      have nl3 := d2.ne hl3
      generalize upd J2 l3 (.lst [.int 0, .int lw, .int lv]) = J3 at d3 tk3 e3
      clear d2 tk2 hl3
      walk_at "go"
      refine use_drawn (n := 3) d3 (by decide) (by decide) fun J4 r f4 d4 r0 r1 => ?_
      have tk4 := tk3.frm f4
      have e4 := f4 _ _ nl3 e3
      obtain ⟨x, hx, hx2⟩ := atI_mem (xs := [.int 0, .int lw, .int lv]) r0 r1
      refine g_ixL (SqL.of e4) hx2 ?_
      obtain ⟨lo, rfl, lo0, lo1⟩ : ∃ z, x = V.int z ∧ 0 ≤ z ∧ z ≤ hi := by
        simp only [List.mem_cons, List.not_mem_nil, or_false] at hx
        rcases hx with rfl | rfl | rfl
        · exact ⟨_, rfl, by decide, by omega⟩
        · exact ⟨_, rfl, lw0, by omega⟩
        · exact ⟨_, rfl, lv0, by omega⟩
      clear hx hx2 e4 f4 e3 d3 tk3 nl3 r0 r1 lw0 lw1 lv0 lv1
      walk_at "go"
      intro W hW
      have sW := same_new (o := .tup [.int lo, .int hi]) hW
      have d5 := d4.same sW
      have tk5 := tk4.frm (.of sW)
      have eW := upd_same (H := J4) (a := W) (o := .tup [.int lo, .int hi])
      generalize upd J4 W (.tup [.int lo, .int hi]) = J5 at d5 tk5 eW
      walk_at "go"
      intro t ht
      have st := same_new (o := .tup [.ref W, .int (1 + bt), .ref L]) ht
      exact q _ t W L lo hi (1 + bt) zs (d5.same st) upd_same (st _ _ eW) (tk5.frm (.of st)) lo0 lo1 hi1 (by omega) (by omega) lz0 lz
end
end K13
namespace K13
open PySem PySem.Spec PyProof.Rows L2 Wd
local macro_rules | `(tactic| walk_at "gs") => `(tactic| repeat (first
  | with_reducible refine Wd.g_seq ?_
  | ((with_reducible show Ends.nx _ _ _); (with_reducible refine Wd.g_nx ?_))
  | with_reducible refine Wd.g_asg ?_
  | ((with_reducible refine' Wd.g_var ?h1 ?_); (case h1 => exact rfl))
  | with_reducible refine Wd.g_c ?_
  | with_reducible refine Wd.g_op ?_
  | with_reducible refine Wd.g_un ?_
  | with_reducible refine Wd.g_I0 ?_
  | with_reducible refine Wd.g_U ?_
  | with_reducible refine Wd.g_eqI ?_
  | with_reducible refine Wd.g_neI ?_
  | with_reducible refine Wd.g_eqS ?_
  | with_reducible refine Wd.g_neS ?_
  | with_reducible refine Wd.g_eqB ?_
  | with_reducible refine Wd.g_neB ?_
  | with_reducible refine Wd.g_isN ?_
  | with_reducible refine Wd.g_notN ?_
  | with_reducible refine Wd.g_lc ?_
  | with_reducible refine Wd.g_yes ?_
  | with_reducible refine Wd.g_test ?_
  | with_reducible refine Wd.g_tB ?_
  | with_reducible refine Wd.g_bl ?_
  | with_reducible refine Wd.g_blI ?_
  | with_reducible refine Wd.g_and ?_
  | with_reducible refine Wd.g_or ?_
  | with_reducible refine Wd.g_not ?_
  | with_reducible refine Wd.g_andV ?_
  | with_reducible refine Wd.g_orV ?_
  | with_reducible refine Wd.g_notV ?_
  | with_reducible refine Wd.g_if ?_
  | with_reducible refine Wd.g_chain ?_
  | with_reducible refine Wd.g_chain3 ?_
  | with_reducible refine Wd.g_nil ?_
  | with_reducible refine Wd.g_cons ?_
  | with_reducible refine Wd.g_tup ?_
  | with_reducible refine Wd.g_lst ?_
  | with_reducible refine Wd.g_CB ?_
  | with_reducible refine Wd.g_call ?_
  | with_reducible refine Wd.g_callS ?_
  | with_reducible refine Wd.g_bm ?_
  | with_reducible refine Wd.g_bm0 ?_
  | with_reducible refine Wd.g_sl ?_
  | with_reducible refine Wd.g_part ?_
  | with_reducible refine Wd.g_part1 ?_
  | with_reducible refine Wd.g_noPart ?_
  | with_reducible refine Wd.g_next ?_
  | with_reducible refine Wd.g_name ?_
  | with_reducible refine Wd.g_sub ?_
  | with_reducible refine Wd.g_gnil ?_
  | with_reducible refine Wd.g_gcons ?_
  | with_reducible refine Wd.g_drop ?_
  | with_reducible refine Wd.g_ret ?_
  | with_reducible refine Wd.g_retN ?_
  | with_reducible refine Wd.g_brk ?_
  | with_reducible refine Wd.g_cont ?_
  | ((with_reducible show Ends.bk _ _ _); (with_reducible refine Wd.g_bk ?_))
  | ((with_reducible show Ends.ct _ _ _); (with_reducible refine Wd.g_ct ?_))
  | ((with_reducible show Ends.rt _ _ _); (with_reducible refine Wd.g_rt ?_))
  | with_reducible refine Wd.g_for ?_
  | with_reducible refine Wd.g_rng1 ?_
  | with_reducible refine Wd.g_rng2 ?_
  | with_reducible refine Wd.g_iList ?_
  | with_reducible refine Wd.g_iTup ?_
  | ((with_reducible refine Wd.g_fit ?h1 ?_); (case h1 => exact rfl))
  | with_reducible refine Wd.g_max2 ?_
  | with_reducible refine Wd.g_min2 ?_
  | with_reducible refine Wd.g_int1B ?_
  | with_reducible refine L2.iteT ?_
  | with_reducible refine L2.iteF ?_
  | ((with_reducible refine Wd.g_itT ?h1 ?_); (case h1 => exact rfl))
  | ((with_reducible refine Wd.g_itF ?h1 ?_); (case h1 => exact rfl))))
def biteD : Int × Str → PyData := fun z => .tuple [.int z.1, .str z.2]
theorem biteD_ok (z : Int × Str) : OkD 1 (biteD z) := .tup (by show 2 ≤ 100000; decide) (fun d hd => by
    simp only [List.mem_cons, List.not_mem_nil, or_false] at hd
    rcases hd with rfl | rfl
    · exact .int _
    · exact .str _)
theorem dp_bite {K : PySem.W.Frag} {H : Hp} {a : Addr} {m : Int} {wd : Str} (h : H a = some (.tup [.int m, .str wd])) : Dp K H (.ref a) (biteD (m, wd)) := .tup (SqT.of h) (.cons (.int _) (.cons (.str _) .nil))
theorem up_asc {f : Int → Option Int} (hf : ∀ l q, f l = some q → l < q) (e : Int) : ∀ (n : Nat) (l : Int), Asc l (up f e n l)
  | 0, l => trivial
  | n + 1, l => by
    cases hq : f l with
    | none => rw [up_none hq]; trivial
    | some q =>
      by_cases c : q > e
      · rw [up_far hq c]; trivial
      · rw [up_pat hq c]; exact ⟨by have := hf l q hq; omega, up_asc hf e n q⟩
/-- works as data -/
def wkD (zs : List Wk) : PyData := .list (zs.map fun z => .tuple [.int z.2.1, .int z.2.2])
theorem wk_can : ∀ zs : List Wk, PyData.canLayAll0 (zs.map fun z => PyData.tuple [.int z.2.1, .int z.2.2]) = true
  | [] => rfl
  | z :: zs => by simp [PyData.canLayAll0, PyData.canLay0, wk_can zs]
theorem wk_depth : ∀ zs : List Wk, PyData.depthAll (zs.map fun z => PyData.tuple [.int z.2.1, .int z.2.2]) ≤ 1
  | [] => Nat.zero_le _
  | z :: zs => by
    have := wk_depth zs
    simp only [List.map_cons, PyData.depthAll, PyData.depth]
    omega
theorem wk_shaped (zs : List Wk) : SeqAt.shaped (wkD zs) = true := by
  have := wk_depth zs
  unfold SeqAt.shaped wkD
  rw [Bool.and_eq_true]
  exact ⟨by simp only [PyData.canLay0]; exact wk_can zs, decide_eq_true (by simp only [PyData.depth]; omega)⟩
theorem wk_eqv (zs : List Wk) : PyData.eqv (wkD zs) (wkD zs) = true := by
  unfold wkD
  rw [PyData.eqv]
  induction zs with
  | nil => simp [PyData.eqvAll]
  | cons z zs ih => simp [PyData.eqvAll, PyData.eqv, ih]
theorem wk_dp {K : PySem.W.Frag} {H : Hp} {L : Addr} {zs : List Wk} (w : WkL H L zs) : Dp K H (.ref L) (wkD zs) := by
  refine .lst (SqL.of w.at_) ?_
  have own := w.own
  clear w
  induction zs with
  | nil => exact .nil
  | cons z zs ih => exact .cons (.tup (SqT.of (own z List.mem_cons_self)) (.cons (.int _) (.cons (.int _) .nil))) (ih fun y hy => own y (List.mem_cons_of_mem _ hy))
theorem g_neWk {K : PySem.W.Frag} {a b : Addr} {zs : List Wk} {H : Hp} {Q : VK} (h1 : WkL H a zs) (h2 : WkL H b zs) (q : Q (.bl false) H) : rNeD K (.ref a) (.ref b) H Q :=
  ⟨_, _, wk_dp h1, wk_dp h2, wk_shaped _, wk_shaped _, by rw [wk_eqv]; exact q⟩
theorem TskL.wk {S : Addr} {H : Hp} {L : Addr} {zs : List Wk} {g : Int} (t : TskL S H L zs g) : WkL H L zs := ⟨t.at_, fun z hz => (t.own z hz).2.1⟩
theorem WkL.lst {H : Hp} {L L' : Addr} {zs : List Wk} (t : WkL H L zs) (h : H L' = some (.lst (zs.map fun z => V.ref z.1))) : WkL H L' zs := ⟨h, t.own⟩
/-- lists of numbers in a list, as data -/
def llD (ms : List (List Int)) : PyData := .list (ms.map fun m => .list (m.map PyData.int))
theorem ll_can : ∀ ms : List (List Int), PyData.canLayAll0 (ms.map fun m => PyData.list (m.map PyData.int)) = true
  | [] => rfl
  | m :: ms => by simp [PyData.canLayAll0, PyData.canLay0, PySem.W.ke_canLayAll0 m, ll_can ms]
theorem ll_depth : ∀ ms : List (List Int), PyData.depthAll (ms.map fun m => PyData.list (m.map PyData.int)) ≤ 1
  | [] => Nat.zero_le _
  | m :: ms => by
    have := ll_depth ms
    simp only [List.map_cons, PyData.depthAll, PyData.depth, PySem.W.ke_depthAll m]
    omega
theorem ll_dp {K : PySem.W.Frag} {H : Hp} {R : Addr} {zs : List (Addr × List Int)} (t : RwL H R zs) : Dp K H (.ref R) (llD (zs.map (·.2))) := by
  refine .lst (SqL.of t.at_) ?_
  have own := t.own
  clear t
  induction zs with
  | nil => exact .nil
  | cons z zs ih => exact .cons (dp_ints (SqL.of (own z List.mem_cons_self))) (ih fun y hy => own y (List.mem_cons_of_mem _ hy))
/-- what is told of a bite, as data -/
def tellD (ms : List (List Int)) (z : Int × Str) : PyData := .tuple [.str "bitten", llD ms, biteD z]
theorem wordB_kind {lo hi b gap : Int} {ws : List Int} {wd : Str} (h : wordB lo hi b gap ws = some wd) : wd = ("late" : Str) ∨ wd = ("early" : Str) := by
  unfold wordB at h
  split at h
  · exact .inl (Option.some.inj h).symm
  · split at h
    · exact .inr (Option.some.inj h).symm
    · cases h
theorem tell_shaped (ms : List (List Int)) (m : Int) {wd : Str} (h : wd = ("late" : Str) ∨ wd = ("early" : Str)) : SeqAt.shaped (tellD ms (m, wd)) = true := by
  have := ll_depth ms
  have ok : PyData.strOk wd = true := by rcases h with rfl | rfl <;> decide +kernel
  have ok2 : PyData.strOk ("bitten" : Str) = true := by decide +kernel
  unfold SeqAt.shaped tellD llD biteD
  rw [Bool.and_eq_true]
  refine ⟨by simp only [PyData.canLay0, PyData.canLayAll0, ll_can ms, ok, ok2, Bool.and_true], decide_eq_true ?_⟩
  simp only [PyData.depth, PyData.depthAll]
  omega
theorem shaped_one : SeqAt.shaped (.tuple [.str ("steady" : Str)]) = true := by
  have ok : PyData.strOk ("steady" : Str) = true := by decide +kernel
  simp [SeqAt.shaped, PyData.canLay0, PyData.canLayAll0, PyData.depth, PyData.depthAll, ok]
theorem eqv_one (wd : Str) : PyData.eqv (.tuple [.str wd]) (.tuple [.str wd]) = true := by
  simp [PyData.eqv, PyData.eqvAll]
theorem g_eqOne {K : PySem.W.Frag} {a b : Addr} {H : Hp} {Q : VK} (h1 : H a = some (.tup [.str "steady"])) (h2 : H b = some (.tup [.str "steady"])) (q : Q (.bl true) H) : rEqD K (.ref a) (.ref b) H Q :=
  ⟨_, _, .tup (SqT.of h1) (.cons (.str _) .nil), .tup (SqT.of h2) (.cons (.str _) .nil), shaped_one, shaped_one, by rw [eqv_one]; exact q⟩
theorem g_eqTell {K : PySem.W.Frag} {a b R B : Addr} {rs : List (Addr × List Int)} {m : Int} {wd : Str} {H : Hp} {Q : VK} (hk : wd = ("late" : Str) ∨ wd = ("early" : Str)) (h1 : H a = some (.tup [.str "bitten", .ref R, .ref B])) (hr : RwL H R rs) (hb : H B = some (.tup [.int m, .str wd])) (h2 : H b = some (.tup [.str "steady"])) (q : Q (.bl false) H) : rEqD K (.ref a) (.ref b) H Q :=
  ⟨tellD (rs.map (·.2)) (m, wd), _, .tup (SqT.of h1) (.cons (.str _) (.cons (ll_dp hr) (.cons (dp_bite hb) .nil))), .tup (SqT.of h2) (.cons (.str _) .nil), tell_shaped _ _ hk, shaped_one, by
    have : PyData.eqv (tellD (rs.map (·.2)) (m, wd)) (.tuple [.str ("steady" : Str)]) = false := by simp [tellD, PyData.eqv, PyData.eqvAll]
    rw [this]; exact q⟩
theorem inT_le {t : Tp} {e : Int} : ∀ {l : Int} {xs : List Int}, InT t e l xs → ∀ x ∈ xs, x ≤ e
  | _, [], _, _, hx => nomatch hx
  | l, y :: xs, h, x, hx => by
    rcases List.mem_cons.mp hx with rfl | hx
    · exact h.2.2.1
    · exact inT_le h.2.2.2 x hx
theorem inc_gt : ∀ {l : Int} {xs : List Int}, Inc l xs → ∀ x ∈ xs, l < x
  | _, [], _, _, hx => nomatch hx
  | l, y :: xs, h, x, hx => by
    rcases List.mem_cons.mp hx with rfl | hx
    · exact h.1
    · have := inc_gt h.2 x hx; have := h.1; omega
theorem inc_pw : ∀ {l : Int} {xs : List Int}, Inc l xs → xs.Pairwise (· < ·)
  | _, [], _ => .nil
  | l, y :: xs, h => .cons (fun x hx => inc_gt h.2 x hx) (inc_pw h.2)
theorem reps_len {path : List Sta} {k : Nat} : ∀ m ∈ repsOf path k, m.length ≤ path.length := fun m hm => by
  obtain ⟨j, _, rfl⟩ := List.mem_map.mp hm
  unfold repAt
  rw [List.length_map]
  have := List.length_filter_le (fun i => decide ((staAt path (i + 1)).2[j]? = some 0)) (List.range (path.length - 1))
  rw [List.length_range] at this
  omega
section
variable {P : Program} {w : World} {K : PySem.W.Frag} {mg : Str → Option Value} {base : Heap} {CW CT CB CM : Addr}
theorem use_bite {W S : Addr} {lo hi e : Int} {ps : List Int} {z : Int × Str} {H : Hp} {Q : VK} {E : XK} (hW : SqT K H W [.int lo, .int hi]) (hS : SqL K H S (ps.map V.int)) (h0 : 0 ≤ lo) (h1 : lo ≤ hi) (e0 : -10 ≤ e) (e1 : e < 2 ^ 60) (a : Asc 0 ps) (hz : bite lo hi e ps = some z)
    (k : ∀ H' q, Same H H' → H' q = some (.tup [.int z.1, .str z.2]) → Q (.ref q) H') : sp_bite K ([.ref W, .ref S, .int e] ++ []) H Q E :=
  ⟨W, S, lo, hi, e, ps, rfl, hW, hS, h0, h1, e0, e1, a, fun H' s hb => (by rw [hz] at hb; cases hb), fun m x H' q hb s hq => by rw [hz] at hb; cases hb; exact k H' q s hq⟩
theorem use_same {n : Nat} {x y : V} {d : PyData} {H : Hp} {Q : VK} {E : XK} (hx : Dp K H x d) (hy : Dp K H y d) (ok : OkD n d) (k : ∀ H', Same H H' → Q (.bl true) H') : sp_same K (n + 1) ([x, y] ++ []) H Q E := ⟨x, y, d, rfl, hx, hy, ok, k⟩
abbrev s_law : Stmt := top 43
theorem sc_law : FnScope ["_law_script", "_law_state", "_law_turn", "_law_window", "_law_beat", "_law_tasks_here", "_law_due", "_law_handed", "_law_again", "_law_found", "_law_reports_here", "_law_pats"] ["_law_script"] (C8.fnScope s_law) := C8.fnScope_by (by decide +kernel)
def sp_law (K : PySem.W.Frag) : Sp := fun vs H Q _ => ∃ (sc : Addr) (ns : List Int), vs = [.ref sc] ∧ SqL K H sc (ns.map V.int) ∧ ns.length ≤ 63 ∧ ∀ H', Q (.bl true) H'
theorem ok_law (T : Txt K mg CW CT CB CM) {f : Addr} {fd : FuncData} (D : C8.Def K mg "law" s_law f fd)
    (g_law_start : C8.Cal P w K mg base 1 "_law_start" (sp_start K) []) (g_law_sizes : C8.Cal P w K mg base 3 "_law_sizes" (sp_sizes K) []) (g_law_first : C8.Cal P w K mg base 2 "_law_first" (sp_first K) []) (g_law_in_time : C8.Cal P w K mg base 1 "_law_in_time" (sp_in_time K) [])
    (g_law_keeper : C8.Cal P w K mg base 1 "_law_keeper" (sp_keeper K) []) (g_law_bite : C8.Cal P w K mg base 1 "_law_bite" (sp_bite K) []) (g_law_same : C8.Cal P w K mg base 2 "_law_same" (sp_same K 2) [])
    (g_steady : CalX P w K mg base 4 "steady" (sp_steady K CW CT CB CM)) :
    FnOk P w K mg base C8.CX0 6 f fd ["_law_script"] (sp_law K) := by
  refine C8.fn0 D.fn sc_law (fun vs H Q E h => ?_) fun cdv A outer s H vs Q E hr h => ?_
  · obtain ⟨sc, ns, rfl, _⟩ := h; rfl
  · obtain ⟨sc, ns, rfl, hsc, hl, q⟩ := h
    have nd := sc_law.nd
    refine ⟨_, (pss_cons (ps_set (i := 1) nd rfl (Or.inl rfl) (C8.pe_c g_law_start hr (by first | decide | exact Nat.le_refl _ | omega) (by rfl) (pa_cons (pv 0) pa_nil)))
      (pss_cons (ps_for PassesOwn.never rfl (pi_range1 rfl T.n_range (pa_cons pe_int pa_nil)) (pg_name (i := 2) nd rfl (Or.inl rfl)) (pss_cons (ps_asg (C8.pe_c g_law_sizes hr (by first | decide | exact Nat.le_refl _ | omega) (by rfl) (pa_cons (pv 1) pa_nil)) (pg_tup rfl (pgs_cons (pg_name (i := 3) nd rfl (Or.inl rfl)) (pgs_cons (pg_name (i := 4) nd rfl (Or.inl rfl)) (pgs_cons (pg_name (i := 5) nd rfl (Or.inl rfl)) pgs_nil)))))
      (pss_cons (ps_set (i := 6) nd rfl (Or.inl rfl) (C8.pe_c g_law_first hr (by first | decide | exact Nat.le_refl _ | omega) (by rfl) (pa_cons (pv 3) (pa_cons (pv 4) (pa_cons (pv 5) pa_nil)))))
      (pss_cons (ps_set (i := 7) nd rfl (Or.inl rfl) (pe_callTy (r := rListOf K) call_list1 (by rfl) T.n_list (by decide +kernel) (pa_cons (pv 5) pa_nil)))
      (pss_one (ps_for PassesOwn.never rfl (pi_range1 rfl T.n_range (pa_cons pe_int pa_nil)) (pg_name (i := 8) nd rfl (Or.inl rfl)) (pss_cons (ps_set (i := 9) nd rfl (Or.inl rfl) (pe_cX g_steady hr (by first | decide | exact Nat.le_refl _ | omega) (by rfl) (fun σ => passAt (W := fun _ _ _ _ => False) LamX.takes0 σ) (pa_cons (pv 3) (pa_cons (pv 4) (pa_cons (pv 7) pa_nil)))))
      (pss_cons (ps_if (PW.pt (pw_or (pt_cmpR (r := rNeD K) (op_neD hr.units) (pv 7) (pv 5) (nomark _)) (pw_or1 (pt_cmpR op_ne (pe_cmpR (r := rEqD K) (op_eqD hr.units) (pv 9) (pe_tup (pa_cons pe_str pa_nil)) (nomark _)) (pe_cmpR op_isN1 (pv 6) pe_non (nomark _)) (nomark _))))) (pss_one (ps_ret pe_bl)) pss_nil)
      (pss_one (ps_if (pt_cmpR op_notN1 (pv 6) pe_non (nomark _)) (pss_cons (ps_if (PW.pt (pw_or (pt_not (pt_val (pe_callB (r := rIsi K) call_isi (by rfl) T.n_isinstance (by decide +kernel) (pa_cons (pv 9) (pa_cons (pe_bltn (v := .ty "tuple") (by rfl) T.n_tuple (by decide +kernel) rfl) pa_nil))))) (pw_or (pt_cmpR op_ne (pe_callB (r := Wd.rLen K) call_len1 (by rfl) T.n_len PySem.boot_len (pa_cons (pv 9) pa_nil)) pe_int (nomark _)) (pw_or1 (pt_cmpR op_ne (pe_ix (r := rIxT K) ix_tup (pv 9) pe_int (fun _ _ => rfl)) pe_str (nomark _)))))) (pss_one (ps_ret pe_bl)) pss_nil)
      (pss_cons (ps_set (i := 10) nd rfl (Or.inl rfl) (pe_ix (r := rIxT K) ix_tup (pv 9) pe_int (fun _ _ => rfl)))
      (pss_cons (ps_if (pt_not (pt_val (C8.pe_c g_law_in_time hr (by first | decide | exact Nat.le_refl _ | omega) (by rfl) (pa_cons (pv 5) (pa_cons (pv 10) (pa_cons (pv 6) pa_nil)))))) (pss_one (ps_ret pe_bl)) pss_nil)
      (pss_cons (ps_set (i := 11) nd rfl (Or.inl rfl) (C8.pe_c g_law_keeper hr (by first | decide | exact Nat.le_refl _ | omega) (by rfl) (pa_cons (pv 4) (pa_cons (pv 10) (pa_cons (pv 6) pa_nil)))))
      (pss_cons (ps_if (PW.pt (pw_or (pt_not (pt_val (C8.pe_c g_law_same hr (by first | decide | exact Nat.le_refl _ | omega) (by rfl) (pa_cons (pe_ix (r := rIxT K) ix_tup (pv 9) pe_int (fun _ _ => rfl)) (pa_cons (C8.pe_c g_law_bite hr (by first | decide | exact Nat.le_refl _ | omega) (by rfl) (pa_cons (pv 3) (pa_cons (pv 11) (pa_cons (pv 6) pa_nil)))) pa_nil))))) (pw_or1 (pt_cmpR op_ne (pe_ix (r := rIxT K) ix_tup (pe_ix (r := rIxT K) ix_tup (pv 9) pe_int (fun _ _ => rfl)) pe_int (fun _ _ => rfl)) (pv 6) (nomark _))))) (pss_one (ps_ret pe_bl)) pss_nil)
      (pss_one (ps_expr (pe_bmK (K := K) rfl PySem.F.plainAttrs_list PySem.F.slot_list_append PySem.F.type_list_append mt_append (pv 10) (pa_cons (pe_lst pa_nil) pa_nil))))))))) pss_nil))))))))))
      (pss_one (ps_ret pe_bl)))), ?_⟩
    walk_at "go"
    refine ⟨noT H, sc, ns, rfl, noT_list hsc, noT_same H, hl, fun H1 S nS s1 d1 => ?_⟩
    walk_at "go"
    refine w_range (by decide) (by decide) (fun i σ H' => ∃ v2 v3 v4 v5 v6 v7 v8 v9 v10 v11 : Option V, σ = [some (.ref sc), some (.ref S), v2, v3, v4, v5, v6, v7, v8, v9, v10, v11] ∧ Dst K (noT H) H' S) ?_ ?_ ?_
    · exact ⟨_, _, _, _, _, _, _, _, _, _, rfl, d1⟩
    · clear d1
      rintro i σ H0 hi' ⟨v2, v3, v4, v5, v6, v7, v8, v9, v10, v11, rfl, d⟩
      walk_at "go"
      refine ⟨noT H, S, rfl, d, fun H2 t W L lo hi b zs d2 et eW tk lo0 lo1 hi1 b0 b1 z0 z1 => ?_⟩
      clear d
      walk_at "go"
      refine g_gtup (SqT.of et) rfl ?_
      walk_at "go"
      have okw : okW lo hi := ⟨lo0, lo1, by omega⟩
      have okb : okB b := ⟨by omega, by omega⟩
      have okt : okT zs := ⟨by omega, by omega, fun z hz => by have := (tk.own z hz).2.2; omega⟩
      have okm : okM hi b zs := ⟨by omega, fun z hz => by have := (tk.own z hz).2.2; omega, by omega, hi1⟩
      have wft : WfT (zs.map (·.2)) := fun t ht => by
        obtain ⟨z, hz, rfl⟩ := List.mem_map.mp ht
        have := (tk.own z hz).2.2
        exact ⟨this.1, this.2.1, by omega⟩
      have wk2 := tk.wk
      clear tk et
      refine ⟨W, L, lo, hi, b, zs, rfl, eW, wk2, wft, z0, z1, by omega, hi1, b0, b1, fun st H3 s3 => ?_, fun n s0 ws0 rc fo wd le H3 s3 => ?_⟩
      · have wk3 := wk2.same s3
        walk_at "go"
        refine g_listOf (SqL.of wk3.at_) ?_
        intro Hd hHd
        have s34 := same_new (o := .lst (zs.map fun z => V.ref z.1)) hHd
        have eH := upd_same (H := H3) (a := Hd) (o := .lst (zs.map fun z => V.ref z.1))
        have s4 := s3.trans s34
        generalize upd H3 Hd (.lst (zs.map fun z => V.ref z.1)) = H4 at s34 eH s4
        have wk4 := wk2.same s4
        have wh4 := wk4.lst eH
        have eW4 := s4 _ _ eW
        have d4 := d2.same s4
        clear s34 eH s4 wk3 wk2 eW d2 s3 hHd
        walk_at "go"
        refine w_range (by decide) (by decide) (fun j σ H' => ∃ v8 v9 v10 v11 : Option V, σ = [some (.ref sc), some (.ref S), some (.int i), some (.ref W), some (.int b), some (.ref L), some .non, some (.ref Hd), v8, v9, v10, v11] ∧ Same H4 H') ?_ ?_ ?_
        · exact ⟨_, _, _, _, rfl, fun _ _ z => z⟩
        · rintro j σ H5 hj ⟨v8, v9, v10, v11, rfl, s5⟩
          walk_at "go"
          refine ⟨W, Hd, lo, hi, b, zs, rfl, SqT.of (s5 _ _ eW4), wh4.same s5, fun bad => (bad okw).elim, fun _ bad => (bad okb).elim, fun _ _ bad => (bad okt).elim, fun _ _ _ bad => (bad okm).elim, fun _ _ _ _ => ⟨fun _ H6 u s6 nu eu => ?_, fun p s' ws' wd' ptp fol hwd _ _ _ _ _ _ _ _ _ _ _ _ _ _ => ?_⟩⟩
          · have s46 := s5.trans s6
            walk_at "go"
            refine g_neWk (wh4.same s46) (wk4.same s46) ?_
            walk_at "go"
            intro z hz
            have sz := same_new (o := .tup [.str "steady"]) hz
            refine g_eqOne (sz _ _ eu) upd_same ?_
            walk_at "go"
            exact ⟨_, _, _, _, rfl, s46.trans sz⟩
          · have no := st _ s' ws' (pth_reach ptp) fol
            rw [no] at hwd
            cases hwd
        · rintro σ H5 ⟨v8, v9, v10, v11, rfl, s5⟩
          walk_at "go"
          exact ⟨_, _, _, _, _, _, _, _, _, _, rfl, d4.same s5⟩
      · have wk3 := wk2.same s3
        walk_at "go"
        refine g_listOf (SqL.of wk3.at_) ?_
        intro Hd hHd
        have s34 := same_new (o := .lst (zs.map fun z => V.ref z.1)) hHd
        have eH := upd_same (H := H3) (a := Hd) (o := .lst (zs.map fun z => V.ref z.1))
        have s4 := s3.trans s34
        generalize upd H3 Hd (.lst (zs.map fun z => V.ref z.1)) = H4 at s34 eH s4
        have wk4 := wk2.same s4
        have wh4 := wk4.lst eH
        have eW4 := s4 _ _ eW
        have d4 := d2.same s4
        clear s34 eH s4 wk3 wk2 eW d2 s3 hHd
        walk_at "go"
        refine w_range (by decide) (by decide) (fun j σ H' => ∃ v8 v9 v10 v11 : Option V, σ = [some (.ref sc), some (.ref S), some (.int i), some (.ref W), some (.int b), some (.ref L), some (.int ((n : Int) + 1)), some (.ref Hd), v8, v9, v10, v11] ∧ Same H4 H') ?_ ?_ ?_
        · exact ⟨_, _, _, _, rfl, fun _ _ z => z⟩
        · rintro j σ H5 hj ⟨v8, v9, v10, v11, rfl, s5⟩
          walk_at "go"
          refine ⟨W, Hd, lo, hi, b, zs, rfl, SqT.of (s5 _ _ eW4), wh4.same s5, fun bad => (bad okw).elim, fun _ bad => (bad okb).elim, fun _ _ bad => (bad okt).elim, fun _ _ _ bad => (bad okm).elim, fun _ _ _ _ => ⟨fun st H6 u s6 nu eu => ?_, fun p s' ws' wd' ptp fol hwd lst pl H6 t R B rs s6 nt et ri nR er eB => ?_⟩⟩
          · exact (wd (st _ _ _ rc fo)).elim
          · have pn : p.length = n + 1 := by
              have l1 := pth_len ptp
              have r1 := pth_reach ptp
              have h1 : ¬ p.length - 1 < n := fun z => by
                rw [le _ _ _ r1 z fol] at hwd
                cases hwd
              have h2 : ¬ n + 1 < p.length := fun z => wd (lst _ _ _ rc z fo)
              omega
            have pi : (p.length : Int) = (n : Int) + 1 := by rw [pn]; rfl
            obtain ⟨al, _⟩ := path_tells wft ptp fol
            obtain ⟨bi1, _⟩ := path_bites okb.1 (by omega) wft ptp fol hwd
            have er2 := er
            rw [show zs.length = (zs.map (·.2)).length from (List.length_map ..).symm] at er
            rw [← er] at al bi1
            have lens : ∀ m ∈ rs.map (·.2), m.length ≤ 10000 := fun m hm => by
              rw [er2] at hm
              have := reps_len m hm
              rw [List.length_append, List.length_singleton] at this
              omega
            have rsl : (rs.map (·.2)).length = zs.length := by rw [← al.len, List.length_map]
            have kd := wordB_kind hwd
            rw [pi] at al bi1 eB
            have s46 := s5.trans s6
            have inc := al.inc wft
            walk_at "go"
            refine g_neWk (wh4.same s46) (wk4.same s46) ?_
            walk_at "go"
            intro z hz
            have sz := same_new (o := .tup [.str "steady"]) hz
            refine g_eqTell kd (sz _ _ et) (ri.same sz).rw_ (sz _ _ eB) upd_same ?_
            have s47 := s46.trans sz
            have s67 := s6.trans sz
            have et7 := sz _ _ et
            have eB7 := sz _ _ eB
            have ri7 := ri.same sz
            generalize upd H6 z (.tup [.str "steady"]) = H7 at sz s47 s67 et7 eB7 ri7
            clear sz et eB ri s46 s6 hz
            walk_at "go"
            refine g_isi (b := true) (.ty "tuple") (ty_tup (SqT.of et7)) (kit_ty (by decide +kernel)) ?_
            walk_at "go"
            refine g_len (.inr (SqT.of et7)) ?_
            walk_at "go"
            refine g_ixT (SqT.of et7) rfl ?_
            walk_at "go"
            refine g_ixT (SqT.of et7) rfl ?_
            walk_at "go"
            refine ⟨L, R, (n : Int) + 1, zs, rs, rfl, wk4.same s47, ri7.rw_, al, wft, lens, by omega, by omega, fun H8 s8 => ?_⟩
            have et8 := s8 _ _ et7
            have eB8 := s8 _ _ eB7
            have ri8 := ri7.same s8
            have s48 := s47.trans s8
            have s68 := s67.trans s8
            clear et7 eB7 ri7 s47 s67 s8
            walk_at "go"
            refine ⟨b, (n : Int) + 1, R, _, _, rfl, by omega, ri8.rw_.rep, fun m hm => inc_pw (inc m hm), by rw [rsl]; omega, by omega, by omega, fun H9 PS s9 hPS ePS => ?_⟩
            have et9 := s9 _ _ et8
            have eB9 := s9 _ _ eB8
            have ri9 := ri8.same s9
            have s49 := s48.trans s9
            have s69 := s68.trans s9
            clear et8 eB8 ri8 s48 s68 s9
            walk_at "go"
            refine g_ixT (SqT.of et9) rfl ?_
            walk_at "go"
            refine use_bite (SqT.of (s49 _ _ eW4)) (SqL.of ePS) lo0 lo1 (by omega) (by omega) (up_asc (fun l q h => nx_gt okb.1 h) _ _ 0) bi1 fun J1 q1 t1 eq1 => ?_
            have et10 := t1 _ _ et9
            have eB10 := t1 _ _ eB9
            have ri10 := ri9.same t1
            have s410 := s49.trans t1
            have s610 := s69.trans t1
            clear et9 eB9 ri9 s49 s69 t1
            walk_at "go"
            refine use_same (n := 1) (dp_bite eB10) (dp_bite eq1) (biteD_ok _) fun J2 t2 => ?_
            have et11 := t2 _ _ et10
            have eB11 := t2 _ _ eB10
            have ri11 := ri10.same t2
            have s411 := s410.trans t2
            have s611 := s610.trans t2
            clear et10 eB10 ri10 s410 s610 t2
            walk_at "go"
            refine g_ixT (SqT.of et11) rfl ?_
            walk_at "go"
            refine g_ixT (SqT.of eB11) rfl ?_
            walk_at "go"
            rw [if_neg (by simp)]
            walk_at "go"
            refine g_tyL ri11.at_ ?_
            walk_at "go"
            intro N hN
            have sN := same_new (o := .lst []) hN
            walk_at "go"
            refine g_append (sN _ _ ri11.at_) (by rw [List.length_map]; have := congrArg List.length er2; rw [List.length_map] at this; rw [List.length_map] at rsl; omega) ?_
            walk_at "go"
            exact ⟨_, _, _, _, rfl, Wd.Same.mut (s411.trans sN) (Wd.Same.back s5 nR)⟩
        · rintro σ H5 ⟨v8, v9, v10, v11, rfl, s5⟩
          walk_at "go"
          exact ⟨_, _, _, _, _, _, _, _, _, _, rfl, d4.same s5⟩
    · rintro σ H' ⟨v2, v3, v4, v5, v6, v7, v8, v9, v10, v11, rfl, d⟩
      walk_at "go"
      exact q _
end
end K13
namespace K13
open PySem PySem.Spec PyProof.Rows L2 Wd
theorem law_at {l : PySem.W.OpenLaw} {w : World} {K : PySem.W.Frag} {h : Heap} {mg : Str → Option Value} {fa : Addr} (X : K.In h) (G : h.Ns mainGlobals mg) (hfa : mg "law" = some (.ref fa))
    {f_is_number : Addr} {oc_is_number kV_is_number dc_is_number pm_is_number cd_is_number ct_is_number : Value} {od_is_number an_is_number : Option Addr} {sl_is_number : Array (Option Value)}
    {f_is_range : Addr} {oc_is_range kV_is_range dc_is_range pm_is_range cd_is_range ct_is_range : Value} {od_is_range an_is_range : Option Addr} {sl_is_range : Array (Option Value)}
    {f_check_window : Addr} {oc_check_window kV_check_window dc_check_window pm_check_window cd_check_window ct_check_window : Value} {od_check_window an_check_window : Option Addr} {sl_check_window : Array (Option Value)}
    {f_check_beat : Addr} {oc_check_beat kV_check_beat dc_check_beat pm_check_beat cd_check_beat ct_check_beat : Value} {od_check_beat an_check_beat : Option Addr} {sl_check_beat : Array (Option Value)}
    {f_check_tasks : Addr} {oc_check_tasks kV_check_tasks dc_check_tasks pm_check_tasks cd_check_tasks ct_check_tasks : Value} {od_check_tasks an_check_tasks : Option Addr} {sl_check_tasks : Array (Option Value)}
    {f_check_searched : Addr} {oc_check_searched kV_check_searched dc_check_searched pm_check_searched cd_check_searched ct_check_searched : Value} {od_check_searched an_check_searched : Option Addr} {sl_check_searched : Array (Option Value)}
    {f_waits_behind : Addr} {oc_waits_behind kV_waits_behind dc_waits_behind pm_waits_behind cd_waits_behind ct_waits_behind : Value} {od_waits_behind an_waits_behind : Option Addr} {sl_waits_behind : Array (Option Value)}
    {f_all_waits_behind : Addr} {oc_all_waits_behind kV_all_waits_behind dc_all_waits_behind pm_all_waits_behind cd_all_waits_behind ct_all_waits_behind : Value} {od_all_waits_behind an_all_waits_behind : Option Addr} {sl_all_waits_behind : Array (Option Value)}
    {f_is_patted : Addr} {oc_is_patted kV_is_patted dc_is_patted pm_is_patted cd_is_patted ct_is_patted : Value} {od_is_patted an_is_patted : Option Addr} {sl_is_patted : Array (Option Value)}
    {f_bite_word : Addr} {oc_bite_word kV_bite_word dc_bite_word pm_bite_word cd_bite_word ct_bite_word : Value} {od_bite_word an_bite_word : Option Addr} {sl_bite_word : Array (Option Value)}
    {f_path_to : Addr} {oc_path_to kV_path_to dc_path_to pm_path_to cd_path_to ct_path_to : Value} {od_path_to an_path_to : Option Addr} {sl_path_to : Array (Option Value)}
    {f_reports_along : Addr} {oc_reports_along kV_reports_along dc_reports_along pm_reports_along cd_reports_along ct_reports_along : Value} {od_reports_along an_reports_along : Option Addr} {sl_reports_along : Array (Option Value)}
    {f_steady : Addr} {oc_steady kV_steady dc_steady pm_steady cd_steady ct_steady : Value} {od_steady an_steady : Option Addr} {sl_steady : Array (Option Value)}
    {f_law_start : Addr} {oc_law_start kV_law_start dc_law_start pm_law_start cd_law_start ct_law_start : Value} {od_law_start an_law_start : Option Addr} {sl_law_start : Array (Option Value)}
    {f_law_drawn : Addr} {oc_law_drawn kV_law_drawn dc_law_drawn pm_law_drawn cd_law_drawn ct_law_drawn : Value} {od_law_drawn an_law_drawn : Option Addr} {sl_law_drawn : Array (Option Value)}
    {f_law_same : Addr} {oc_law_same kV_law_same dc_law_same pm_law_same cd_law_same ct_law_same : Value} {od_law_same an_law_same : Option Addr} {sl_law_same : Array (Option Value)}
    {f_law_bite : Addr} {oc_law_bite kV_law_bite dc_law_bite pm_law_bite cd_law_bite ct_law_bite : Value} {od_law_bite an_law_bite : Option Addr} {sl_law_bite : Array (Option Value)}
    {f_law_keeper : Addr} {oc_law_keeper kV_law_keeper dc_law_keeper pm_law_keeper cd_law_keeper ct_law_keeper : Value} {od_law_keeper an_law_keeper : Option Addr} {sl_law_keeper : Array (Option Value)}
    {f_law_tasks : Addr} {oc_law_tasks kV_law_tasks dc_law_tasks pm_law_tasks cd_law_tasks ct_law_tasks : Value} {od_law_tasks an_law_tasks : Option Addr} {sl_law_tasks : Array (Option Value)}
    {f_law_sizes : Addr} {oc_law_sizes kV_law_sizes dc_law_sizes pm_law_sizes cd_law_sizes ct_law_sizes : Value} {od_law_sizes an_law_sizes : Option Addr} {sl_law_sizes : Array (Option Value)}
    {f_law_choices : Addr} {oc_law_choices kV_law_choices dc_law_choices pm_law_choices cd_law_choices ct_law_choices : Value} {od_law_choices an_law_choices : Option Addr} {sl_law_choices : Array (Option Value)}
    {f_law_later : Addr} {oc_law_later kV_law_later dc_law_later pm_law_later cd_law_later ct_law_later : Value} {od_law_later an_law_later : Option Addr} {sl_law_later : Array (Option Value)}
    {f_law_first : Addr} {oc_law_first kV_law_first dc_law_first pm_law_first cd_law_first ct_law_first : Value} {od_law_first an_law_first : Option Addr} {sl_law_first : Array (Option Value)}
    {f_law_in_time : Addr} {oc_law_in_time kV_law_in_time dc_law_in_time pm_law_in_time cd_law_in_time ct_law_in_time : Value} {od_law_in_time an_law_in_time : Option Addr} {sl_law_in_time : Array (Option Value)}
    {fa0 : Addr} {oc_law kV_law dc_law pm_law cd_law ct_law : Value} {od_law an_law : Option Addr} {sl_law : Array (Option Value)}
    {t_GREATEST_HIGH : Tok}
    {t_GREATEST_BEAT : Tok}
    {t_MOST_TASKS : Tok}
    {t_LONGEST_TASK : Tok}
    {t_MOST_SEARCHED_TASKS : Tok}
    {t_LONGEST_SEARCHED_TASK : Tok}
    {t_GREATEST_SEARCHED_BEAT : Tok}
    {t_GREATEST_SEARCHED_HIGH : Tok}
    {C_W C_T C_B C_M : Addr}
    (a_is_number : PySem.W.nsIn K mainGlobals "is_number" = some (some (.ref f_is_number)))
    (l_is_number : K.lookup f_is_number = some ⟨oc_is_number, od_is_number, .func (PySem.W.fnOf "is_number" "is_number" (C8.fnArgs s_is_number) (C8.fnBody s_is_number) (C8.fnScope s_is_number) .none kV_is_number dc_is_number pm_is_number an_is_number cd_is_number ct_is_number), sl_is_number⟩)
    (c_is_number : PySem.W.codeIn K cd_is_number "is_number" = true)
    (k_is_number : PySem.W.keepIn K (.ref f_is_number) = true)
    (a_is_range : PySem.W.nsIn K mainGlobals "is_range" = some (some (.ref f_is_range)))
    (l_is_range : K.lookup f_is_range = some ⟨oc_is_range, od_is_range, .func (PySem.W.fnOf "is_range" "is_range" (C8.fnArgs s_is_range) (C8.fnBody s_is_range) (C8.fnScope s_is_range) .none kV_is_range dc_is_range pm_is_range an_is_range cd_is_range ct_is_range), sl_is_range⟩)
    (c_is_range : PySem.W.codeIn K cd_is_range "is_range" = true)
    (k_is_range : PySem.W.keepIn K (.ref f_is_range) = true)
    (a_check_window : PySem.W.nsIn K mainGlobals "check_window" = some (some (.ref f_check_window)))
    (l_check_window : K.lookup f_check_window = some ⟨oc_check_window, od_check_window, .func (PySem.W.fnOf "check_window" "check_window" (C8.fnArgs s_check_window) (C8.fnBody s_check_window) (C8.fnScope s_check_window) .none kV_check_window dc_check_window pm_check_window an_check_window cd_check_window ct_check_window), sl_check_window⟩)
    (c_check_window : PySem.W.codeIn K cd_check_window "check_window" = true)
    (k_check_window : PySem.W.keepIn K (.ref f_check_window) = true)
    (a_check_beat : PySem.W.nsIn K mainGlobals "check_beat" = some (some (.ref f_check_beat)))
    (l_check_beat : K.lookup f_check_beat = some ⟨oc_check_beat, od_check_beat, .func (PySem.W.fnOf "check_beat" "check_beat" (C8.fnArgs s_check_beat) (C8.fnBody s_check_beat) (C8.fnScope s_check_beat) .none kV_check_beat dc_check_beat pm_check_beat an_check_beat cd_check_beat ct_check_beat), sl_check_beat⟩)
    (c_check_beat : PySem.W.codeIn K cd_check_beat "check_beat" = true)
    (k_check_beat : PySem.W.keepIn K (.ref f_check_beat) = true)
    (a_check_tasks : PySem.W.nsIn K mainGlobals "check_tasks" = some (some (.ref f_check_tasks)))
    (l_check_tasks : K.lookup f_check_tasks = some ⟨oc_check_tasks, od_check_tasks, .func (PySem.W.fnOf "check_tasks" "check_tasks" (C8.fnArgs s_check_tasks) (C8.fnBody s_check_tasks) (C8.fnScope s_check_tasks) .none kV_check_tasks dc_check_tasks pm_check_tasks an_check_tasks cd_check_tasks ct_check_tasks), sl_check_tasks⟩)
    (c_check_tasks : PySem.W.codeIn K cd_check_tasks "check_tasks" = true)
    (k_check_tasks : PySem.W.keepIn K (.ref f_check_tasks) = true)
    (a_check_searched : PySem.W.nsIn K mainGlobals "check_searched" = some (some (.ref f_check_searched)))
    (l_check_searched : K.lookup f_check_searched = some ⟨oc_check_searched, od_check_searched, .func (PySem.W.fnOf "check_searched" "check_searched" (C8.fnArgs s_check_searched) (C8.fnBody s_check_searched) (C8.fnScope s_check_searched) .none kV_check_searched dc_check_searched pm_check_searched an_check_searched cd_check_searched ct_check_searched), sl_check_searched⟩)
    (c_check_searched : PySem.W.codeIn K cd_check_searched "check_searched" = true)
    (k_check_searched : PySem.W.keepIn K (.ref f_check_searched) = true)
    (a_waits_behind : PySem.W.nsIn K mainGlobals "waits_behind" = some (some (.ref f_waits_behind)))
    (l_waits_behind : K.lookup f_waits_behind = some ⟨oc_waits_behind, od_waits_behind, .func (PySem.W.fnOf "waits_behind" "waits_behind" (C8.fnArgs s_waits_behind) (C8.fnBody s_waits_behind) (C8.fnScope s_waits_behind) .none kV_waits_behind dc_waits_behind pm_waits_behind an_waits_behind cd_waits_behind ct_waits_behind), sl_waits_behind⟩)
    (c_waits_behind : PySem.W.codeIn K cd_waits_behind "waits_behind" = true)
    (k_waits_behind : PySem.W.keepIn K (.ref f_waits_behind) = true)
    (a_all_waits_behind : PySem.W.nsIn K mainGlobals "all_waits_behind" = some (some (.ref f_all_waits_behind)))
    (l_all_waits_behind : K.lookup f_all_waits_behind = some ⟨oc_all_waits_behind, od_all_waits_behind, .func (PySem.W.fnOf "all_waits_behind" "all_waits_behind" (C8.fnArgs s_all_waits_behind) (C8.fnBody s_all_waits_behind) (C8.fnScope s_all_waits_behind) .none kV_all_waits_behind dc_all_waits_behind pm_all_waits_behind an_all_waits_behind cd_all_waits_behind ct_all_waits_behind), sl_all_waits_behind⟩)
    (c_all_waits_behind : PySem.W.codeIn K cd_all_waits_behind "all_waits_behind" = true)
    (k_all_waits_behind : PySem.W.keepIn K (.ref f_all_waits_behind) = true)
    (a_is_patted : PySem.W.nsIn K mainGlobals "is_patted" = some (some (.ref f_is_patted)))
    (l_is_patted : K.lookup f_is_patted = some ⟨oc_is_patted, od_is_patted, .func (PySem.W.fnOf "is_patted" "is_patted" (C8.fnArgs s_is_patted) (C8.fnBody s_is_patted) (C8.fnScope s_is_patted) .none kV_is_patted dc_is_patted pm_is_patted an_is_patted cd_is_patted ct_is_patted), sl_is_patted⟩)
    (c_is_patted : PySem.W.codeIn K cd_is_patted "is_patted" = true)
    (k_is_patted : PySem.W.keepIn K (.ref f_is_patted) = true)
    (a_bite_word : PySem.W.nsIn K mainGlobals "bite_word" = some (some (.ref f_bite_word)))
    (l_bite_word : K.lookup f_bite_word = some ⟨oc_bite_word, od_bite_word, .func (PySem.W.fnOf "bite_word" "bite_word" (C8.fnArgs s_bite_word) (C8.fnBody s_bite_word) (C8.fnScope s_bite_word) .none kV_bite_word dc_bite_word pm_bite_word an_bite_word cd_bite_word ct_bite_word), sl_bite_word⟩)
    (c_bite_word : PySem.W.codeIn K cd_bite_word "bite_word" = true)
    (k_bite_word : PySem.W.keepIn K (.ref f_bite_word) = true)
    (a_path_to : PySem.W.nsIn K mainGlobals "path_to" = some (some (.ref f_path_to)))
    (l_path_to : K.lookup f_path_to = some ⟨oc_path_to, od_path_to, .func (PySem.W.fnOf "path_to" "path_to" (C8.fnArgs s_path_to) (C8.fnBody s_path_to) (C8.fnScope s_path_to) .none kV_path_to dc_path_to pm_path_to an_path_to cd_path_to ct_path_to), sl_path_to⟩)
    (c_path_to : PySem.W.codeIn K cd_path_to "path_to" = true)
    (k_path_to : PySem.W.keepIn K (.ref f_path_to) = true)
    (a_reports_along : PySem.W.nsIn K mainGlobals "reports_along" = some (some (.ref f_reports_along)))
    (l_reports_along : K.lookup f_reports_along = some ⟨oc_reports_along, od_reports_along, .func (PySem.W.fnOf "reports_along" "reports_along" (C8.fnArgs s_reports_along) (C8.fnBody s_reports_along) (C8.fnScope s_reports_along) .none kV_reports_along dc_reports_along pm_reports_along an_reports_along cd_reports_along ct_reports_along), sl_reports_along⟩)
    (c_reports_along : PySem.W.codeIn K cd_reports_along "reports_along" = true)
    (k_reports_along : PySem.W.keepIn K (.ref f_reports_along) = true)
    (a_steady : PySem.W.nsIn K mainGlobals "steady" = some (some (.ref f_steady)))
    (l_steady : K.lookup f_steady = some ⟨oc_steady, od_steady, .func (PySem.W.fnOf "steady" "steady" (C8.fnArgs s_steady) (C8.fnBody s_steady) (C8.fnScope s_steady) .none kV_steady dc_steady pm_steady an_steady cd_steady ct_steady), sl_steady⟩)
    (c_steady : PySem.W.codeIn K cd_steady "steady" = true)
    (k_steady : PySem.W.keepIn K (.ref f_steady) = true)
    (a_law_start : PySem.W.nsIn K mainGlobals "_law_start" = some (some (.ref f_law_start)))
    (l_law_start : K.lookup f_law_start = some ⟨oc_law_start, od_law_start, .func (PySem.W.fnOf "_law_start" "_law_start" (C8.fnArgs s_law_start) (C8.fnBody s_law_start) (C8.fnScope s_law_start) .none kV_law_start dc_law_start pm_law_start an_law_start cd_law_start ct_law_start), sl_law_start⟩)
    (c_law_start : PySem.W.codeIn K cd_law_start "_law_start" = true)
    (k_law_start : PySem.W.keepIn K (.ref f_law_start) = true)
    (a_law_drawn : PySem.W.nsIn K mainGlobals "_law_drawn" = some (some (.ref f_law_drawn)))
    (l_law_drawn : K.lookup f_law_drawn = some ⟨oc_law_drawn, od_law_drawn, .func (PySem.W.fnOf "_law_drawn" "_law_drawn" (C8.fnArgs s_law_drawn) (C8.fnBody s_law_drawn) (C8.fnScope s_law_drawn) .none kV_law_drawn dc_law_drawn pm_law_drawn an_law_drawn cd_law_drawn ct_law_drawn), sl_law_drawn⟩)
    (c_law_drawn : PySem.W.codeIn K cd_law_drawn "_law_drawn" = true)
    (k_law_drawn : PySem.W.keepIn K (.ref f_law_drawn) = true)
    (a_law_same : PySem.W.nsIn K mainGlobals "_law_same" = some (some (.ref f_law_same)))
    (l_law_same : K.lookup f_law_same = some ⟨oc_law_same, od_law_same, .func (PySem.W.fnOf "_law_same" "_law_same" (C8.fnArgs s_law_same) (C8.fnBody s_law_same) (C8.fnScope s_law_same) .none kV_law_same dc_law_same pm_law_same an_law_same cd_law_same ct_law_same), sl_law_same⟩)
    (c_law_same : PySem.W.codeIn K cd_law_same "_law_same" = true)
    (k_law_same : PySem.W.keepIn K (.ref f_law_same) = true)
    (a_law_bite : PySem.W.nsIn K mainGlobals "_law_bite" = some (some (.ref f_law_bite)))
    (l_law_bite : K.lookup f_law_bite = some ⟨oc_law_bite, od_law_bite, .func (PySem.W.fnOf "_law_bite" "_law_bite" (C8.fnArgs s_law_bite) (C8.fnBody s_law_bite) (C8.fnScope s_law_bite) .none kV_law_bite dc_law_bite pm_law_bite an_law_bite cd_law_bite ct_law_bite), sl_law_bite⟩)
    (c_law_bite : PySem.W.codeIn K cd_law_bite "_law_bite" = true)
    (k_law_bite : PySem.W.keepIn K (.ref f_law_bite) = true)
    (a_law_keeper : PySem.W.nsIn K mainGlobals "_law_keeper" = some (some (.ref f_law_keeper)))
    (l_law_keeper : K.lookup f_law_keeper = some ⟨oc_law_keeper, od_law_keeper, .func (PySem.W.fnOf "_law_keeper" "_law_keeper" (C8.fnArgs s_law_keeper) (C8.fnBody s_law_keeper) (C8.fnScope s_law_keeper) .none kV_law_keeper dc_law_keeper pm_law_keeper an_law_keeper cd_law_keeper ct_law_keeper), sl_law_keeper⟩)
    (c_law_keeper : PySem.W.codeIn K cd_law_keeper "_law_keeper" = true)
    (k_law_keeper : PySem.W.keepIn K (.ref f_law_keeper) = true)
    (a_law_tasks : PySem.W.nsIn K mainGlobals "_law_tasks" = some (some (.ref f_law_tasks)))
    (l_law_tasks : K.lookup f_law_tasks = some ⟨oc_law_tasks, od_law_tasks, .func (PySem.W.fnOf "_law_tasks" "_law_tasks" (C8.fnArgs s_law_tasks) (C8.fnBody s_law_tasks) (C8.fnScope s_law_tasks) .none kV_law_tasks dc_law_tasks pm_law_tasks an_law_tasks cd_law_tasks ct_law_tasks), sl_law_tasks⟩)
    (c_law_tasks : PySem.W.codeIn K cd_law_tasks "_law_tasks" = true)
    (k_law_tasks : PySem.W.keepIn K (.ref f_law_tasks) = true)
    (a_law_sizes : PySem.W.nsIn K mainGlobals "_law_sizes" = some (some (.ref f_law_sizes)))
    (l_law_sizes : K.lookup f_law_sizes = some ⟨oc_law_sizes, od_law_sizes, .func (PySem.W.fnOf "_law_sizes" "_law_sizes" (C8.fnArgs s_law_sizes) (C8.fnBody s_law_sizes) (C8.fnScope s_law_sizes) .none kV_law_sizes dc_law_sizes pm_law_sizes an_law_sizes cd_law_sizes ct_law_sizes), sl_law_sizes⟩)
    (c_law_sizes : PySem.W.codeIn K cd_law_sizes "_law_sizes" = true)
    (k_law_sizes : PySem.W.keepIn K (.ref f_law_sizes) = true)
    (a_law_choices : PySem.W.nsIn K mainGlobals "_law_choices" = some (some (.ref f_law_choices)))
    (l_law_choices : K.lookup f_law_choices = some ⟨oc_law_choices, od_law_choices, .func (PySem.W.fnOf "_law_choices" "_law_choices" (C8.fnArgs s_law_choices) (C8.fnBody s_law_choices) (C8.fnScope s_law_choices) .none kV_law_choices dc_law_choices pm_law_choices an_law_choices cd_law_choices ct_law_choices), sl_law_choices⟩)
    (c_law_choices : PySem.W.codeIn K cd_law_choices "_law_choices" = true)
    (k_law_choices : PySem.W.keepIn K (.ref f_law_choices) = true)
    (a_law_later : PySem.W.nsIn K mainGlobals "_law_later" = some (some (.ref f_law_later)))
    (l_law_later : K.lookup f_law_later = some ⟨oc_law_later, od_law_later, .func (PySem.W.fnOf "_law_later" "_law_later" (C8.fnArgs s_law_later) (C8.fnBody s_law_later) (C8.fnScope s_law_later) .none kV_law_later dc_law_later pm_law_later an_law_later cd_law_later ct_law_later), sl_law_later⟩)
    (c_law_later : PySem.W.codeIn K cd_law_later "_law_later" = true)
    (k_law_later : PySem.W.keepIn K (.ref f_law_later) = true)
    (a_law_first : PySem.W.nsIn K mainGlobals "_law_first" = some (some (.ref f_law_first)))
    (l_law_first : K.lookup f_law_first = some ⟨oc_law_first, od_law_first, .func (PySem.W.fnOf "_law_first" "_law_first" (C8.fnArgs s_law_first) (C8.fnBody s_law_first) (C8.fnScope s_law_first) .none kV_law_first dc_law_first pm_law_first an_law_first cd_law_first ct_law_first), sl_law_first⟩)
    (c_law_first : PySem.W.codeIn K cd_law_first "_law_first" = true)
    (k_law_first : PySem.W.keepIn K (.ref f_law_first) = true)
    (a_law_in_time : PySem.W.nsIn K mainGlobals "_law_in_time" = some (some (.ref f_law_in_time)))
    (l_law_in_time : K.lookup f_law_in_time = some ⟨oc_law_in_time, od_law_in_time, .func (PySem.W.fnOf "_law_in_time" "_law_in_time" (C8.fnArgs s_law_in_time) (C8.fnBody s_law_in_time) (C8.fnScope s_law_in_time) .none kV_law_in_time dc_law_in_time pm_law_in_time an_law_in_time cd_law_in_time ct_law_in_time), sl_law_in_time⟩)
    (c_law_in_time : PySem.W.codeIn K cd_law_in_time "_law_in_time" = true)
    (k_law_in_time : PySem.W.keepIn K (.ref f_law_in_time) = true)
    (a_law : PySem.W.nsIn K mainGlobals "law" = some (some (.ref fa0)))
    (l_law : K.lookup fa0 = some ⟨oc_law, od_law, .func (PySem.W.fnOf "law" "law" (C8.fnArgs s_law) (C8.fnBody s_law) (C8.fnScope s_law) .none kV_law dc_law pm_law an_law cd_law ct_law), sl_law⟩)
    (c_law : PySem.W.codeIn K cd_law "law" = true)
    (k_law : PySem.W.keepIn K (.ref fa0) = true)
    (z_isinstance : PySem.W.nsIn K mainGlobals "isinstance" = some none)
    (z_len : PySem.W.nsIn K mainGlobals "len" = some none)
    (z_int : PySem.W.nsIn K mainGlobals "int" = some none)
    (z_bool : PySem.W.nsIn K mainGlobals "bool" = some none)
    (z_range : PySem.W.nsIn K mainGlobals "range" = some none)
    (z_list : PySem.W.nsIn K mainGlobals "list" = some none)
    (z_tuple : PySem.W.nsIn K mainGlobals "tuple" = some none)
    (z_str : PySem.W.nsIn K mainGlobals "str" = some none)
    (z_max : PySem.W.nsIn K mainGlobals "max" = some none)
    (z_min : PySem.W.nsIn K mainGlobals "min" = some none)
    (z_zip : PySem.W.nsIn K mainGlobals "zip" = some none)
    (q_GREATEST_HIGH : PySem.W.nsIn K mainGlobals "GREATEST_HIGH" = some (some (.int 1000 t_GREATEST_HIGH)))
    (q_GREATEST_BEAT : PySem.W.nsIn K mainGlobals "GREATEST_BEAT" = some (some (.int 60 t_GREATEST_BEAT)))
    (q_MOST_TASKS : PySem.W.nsIn K mainGlobals "MOST_TASKS" = some (some (.int 4 t_MOST_TASKS)))
    (q_LONGEST_TASK : PySem.W.nsIn K mainGlobals "LONGEST_TASK" = some (some (.int 60 t_LONGEST_TASK)))
    (q_MOST_SEARCHED_TASKS : PySem.W.nsIn K mainGlobals "MOST_SEARCHED_TASKS" = some (some (.int 2 t_MOST_SEARCHED_TASKS)))
    (q_LONGEST_SEARCHED_TASK : PySem.W.nsIn K mainGlobals "LONGEST_SEARCHED_TASK" = some (some (.int 8 t_LONGEST_SEARCHED_TASK)))
    (q_GREATEST_SEARCHED_BEAT : PySem.W.nsIn K mainGlobals "GREATEST_SEARCHED_BEAT" = some (some (.int 6 t_GREATEST_SEARCHED_BEAT)))
    (q_GREATEST_SEARCHED_HIGH : PySem.W.nsIn K mainGlobals "GREATEST_SEARCHED_HIGH" = some (some (.int 24 t_GREATEST_SEARCHED_HIGH)))
    (aEW : PySem.W.nsIn K mainGlobals "BadWindow" = some (some (.ref C_W)))
    (xEW : PySem.W.excIn K C_W [.type "ValueError", .type "Exception", .type "BaseException", .type "object"] "ValueError.__new__" = true)
    (kEW : PySem.W.keepIn K (.ref C_W) = true)
    (bEW : PySem.W.subIn K (.ref C_W) (.type "BaseException") = some true)
    (tEW : PySem.W.typeIn K (.ref C_W) = some (.type "type"))
    (aET : PySem.W.nsIn K mainGlobals "BadBeat" = some (some (.ref C_T)))
    (xET : PySem.W.excIn K C_T [.type "ValueError", .type "Exception", .type "BaseException", .type "object"] "ValueError.__new__" = true)
    (kET : PySem.W.keepIn K (.ref C_T) = true)
    (bET : PySem.W.subIn K (.ref C_T) (.type "BaseException") = some true)
    (tET : PySem.W.typeIn K (.ref C_T) = some (.type "type"))
    (aEB : PySem.W.nsIn K mainGlobals "BadTasks" = some (some (.ref C_B)))
    (xEB : PySem.W.excIn K C_B [.type "ValueError", .type "Exception", .type "BaseException", .type "object"] "ValueError.__new__" = true)
    (kEB : PySem.W.keepIn K (.ref C_B) = true)
    (bEB : PySem.W.subIn K (.ref C_B) (.type "BaseException") = some true)
    (tEB : PySem.W.typeIn K (.ref C_B) = some (.type "type"))
    (aEM : PySem.W.nsIn K mainGlobals "TooMuch" = some (some (.ref C_M)))
    (xEM : PySem.W.excIn K C_M [.type "ValueError", .type "Exception", .type "BaseException", .type "object"] "ValueError.__new__" = true)
    (kEM : PySem.W.keepIn K (.ref C_M) = true)
    (bEM : PySem.W.subIn K (.ref C_M) (.type "BaseException") = some true)
    (tEM : PySem.W.typeIn K (.ref C_M) = some (.type "type")) :
    ∃ fd : FuncData, (∀ (s : Shared) (v : Value), BindsTo s fd ⟨[v], []⟩ [("_law_script", v)]) ∧ ∀ base : Heap, K.In base → base.Ns mainGlobals mg → FnOk l.prog w K mg base C8.CX0 6 fa fd ["_law_script"] (sp_law K) := by
  have e := hfa.symm.trans (PySem.W.mg_of X G a_law)
  cases e
  have D_is_number : C8.Def K mg "is_number" s_is_number f_is_number _ := ⟨⟨_, _, _, _, _, _, _, _, _, _, rfl, l_is_number, c_is_number⟩, PySem.W.mg_of X G a_is_number, k_is_number⟩
  have B_is_number := C8.Fun.binds (ps := ["value"]) D_is_number.fn rfl fun _ _ _ _ _ _ us hl => match us, hl with | [_], _ => rfl
  have D_is_range : C8.Def K mg "is_range" s_is_range f_is_range _ := ⟨⟨_, _, _, _, _, _, _, _, _, _, rfl, l_is_range, c_is_range⟩, PySem.W.mg_of X G a_is_range, k_is_range⟩
  have B_is_range := C8.Fun.binds (ps := ["least", "most", "limit"]) D_is_range.fn rfl fun _ _ _ _ _ _ us hl => match us, hl with | [_, _, _], _ => rfl
  have D_check_window : C8.Def K mg "check_window" s_check_window f_check_window _ := ⟨⟨_, _, _, _, _, _, _, _, _, _, rfl, l_check_window, c_check_window⟩, PySem.W.mg_of X G a_check_window, k_check_window⟩
  have B_check_window := C8.Fun.binds (ps := ["window"]) D_check_window.fn rfl fun _ _ _ _ _ _ us hl => match us, hl with | [_], _ => rfl
  have D_check_beat : C8.Def K mg "check_beat" s_check_beat f_check_beat _ := ⟨⟨_, _, _, _, _, _, _, _, _, _, rfl, l_check_beat, c_check_beat⟩, PySem.W.mg_of X G a_check_beat, k_check_beat⟩
  have B_check_beat := C8.Fun.binds (ps := ["beat"]) D_check_beat.fn rfl fun _ _ _ _ _ _ us hl => match us, hl with | [_], _ => rfl
  have D_check_tasks : C8.Def K mg "check_tasks" s_check_tasks f_check_tasks _ := ⟨⟨_, _, _, _, _, _, _, _, _, _, rfl, l_check_tasks, c_check_tasks⟩, PySem.W.mg_of X G a_check_tasks, k_check_tasks⟩
  have B_check_tasks := C8.Fun.binds (ps := ["tasks"]) D_check_tasks.fn rfl fun _ _ _ _ _ _ us hl => match us, hl with | [_], _ => rfl
  have D_check_searched : C8.Def K mg "check_searched" s_check_searched f_check_searched _ := ⟨⟨_, _, _, _, _, _, _, _, _, _, rfl, l_check_searched, c_check_searched⟩, PySem.W.mg_of X G a_check_searched, k_check_searched⟩
  have B_check_searched := C8.Fun.binds (ps := ["window", "beat", "tasks"]) D_check_searched.fn rfl fun _ _ _ _ _ _ us hl => match us, hl with | [_, _, _], _ => rfl
  have D_waits_behind : C8.Def K mg "waits_behind" s_waits_behind f_waits_behind _ := ⟨⟨_, _, _, _, _, _, _, _, _, _, rfl, l_waits_behind, c_waits_behind⟩, PySem.W.mg_of X G a_waits_behind, k_waits_behind⟩
  have B_waits_behind := C8.Fun.binds (ps := ["task", "wait"]) D_waits_behind.fn rfl fun _ _ _ _ _ _ us hl => match us, hl with | [_, _], _ => rfl
  have D_all_waits_behind : C8.Def K mg "all_waits_behind" s_all_waits_behind f_all_waits_behind _ := ⟨⟨_, _, _, _, _, _, _, _, _, _, rfl, l_all_waits_behind, c_all_waits_behind⟩, PySem.W.mg_of X G a_all_waits_behind, k_all_waits_behind⟩
  have B_all_waits_behind := C8.Fun.binds (ps := ["tasks", "waits"]) D_all_waits_behind.fn rfl fun _ _ _ _ _ _ us hl => match us, hl with | [_, _], _ => rfl
  have D_is_patted : C8.Def K mg "is_patted" s_is_patted f_is_patted _ := ⟨⟨_, _, _, _, _, _, _, _, _, _, rfl, l_is_patted, c_is_patted⟩, PySem.W.mg_of X G a_is_patted, k_is_patted⟩
  have B_is_patted := C8.Fun.binds (ps := ["beat", "gap", "waits"]) D_is_patted.fn rfl fun _ _ _ _ _ _ us hl => match us, hl with | [_, _, _], _ => rfl
  have D_bite_word : C8.Def K mg "bite_word" s_bite_word f_bite_word _ := ⟨⟨_, _, _, _, _, _, _, _, _, _, rfl, l_bite_word, c_bite_word⟩, PySem.W.mg_of X G a_bite_word, k_bite_word⟩
  have B_bite_word := C8.Fun.binds (ps := ["window", "beat", "gap", "waits"]) D_bite_word.fn rfl fun _ _ _ _ _ _ us hl => match us, hl with | [_, _, _, _], _ => rfl
  have D_path_to : C8.Def K mg "path_to" s_path_to f_path_to _ := ⟨⟨_, _, _, _, _, _, _, _, _, _, rfl, l_path_to, c_path_to⟩, PySem.W.mg_of X G a_path_to, k_path_to⟩
  have B_path_to := C8.Fun.binds (ps := ["ahead", "step"]) D_path_to.fn rfl fun _ _ _ _ _ _ us hl => match us, hl with | [_, _], _ => rfl
  have D_reports_along : C8.Def K mg "reports_along" s_reports_along f_reports_along _ := ⟨⟨_, _, _, _, _, _, _, _, _, _, rfl, l_reports_along, c_reports_along⟩, PySem.W.mg_of X G a_reports_along, k_reports_along⟩
  have B_reports_along := C8.Fun.binds (ps := ["tasks", "path"]) D_reports_along.fn rfl fun _ _ _ _ _ _ us hl => match us, hl with | [_, _], _ => rfl
  have D_steady : C8.Def K mg "steady" s_steady f_steady _ := ⟨⟨_, _, _, _, _, _, _, _, _, _, rfl, l_steady, c_steady⟩, PySem.W.mg_of X G a_steady, k_steady⟩
  have B_steady := C8.Fun.binds (ps := ["window", "beat", "tasks"]) D_steady.fn rfl fun _ _ _ _ _ _ us hl => match us, hl with | [_, _, _], _ => rfl
  have D_law_start : C8.Def K mg "_law_start" s_law_start f_law_start _ := ⟨⟨_, _, _, _, _, _, _, _, _, _, rfl, l_law_start, c_law_start⟩, PySem.W.mg_of X G a_law_start, k_law_start⟩
  have B_law_start := C8.Fun.binds (ps := ["_law_script"]) D_law_start.fn rfl fun _ _ _ _ _ _ us hl => match us, hl with | [_], _ => rfl
  have D_law_drawn : C8.Def K mg "_law_drawn" s_law_drawn f_law_drawn _ := ⟨⟨_, _, _, _, _, _, _, _, _, _, rfl, l_law_drawn, c_law_drawn⟩, PySem.W.mg_of X G a_law_drawn, k_law_drawn⟩
  have B_law_drawn := C8.Fun.binds (ps := ["_law_state", "_law_many"]) D_law_drawn.fn rfl fun _ _ _ _ _ _ us hl => match us, hl with | [_, _], _ => rfl
  have D_law_same : C8.Def K mg "_law_same" s_law_same f_law_same _ := ⟨⟨_, _, _, _, _, _, _, _, _, _, rfl, l_law_same, c_law_same⟩, PySem.W.mg_of X G a_law_same, k_law_same⟩
  have B_law_same := C8.Fun.binds (ps := ["_law_found", "_law_due"]) D_law_same.fn rfl fun _ _ _ _ _ _ us hl => match us, hl with | [_, _], _ => rfl
  have D_law_bite : C8.Def K mg "_law_bite" s_law_bite f_law_bite _ := ⟨⟨_, _, _, _, _, _, _, _, _, _, rfl, l_law_bite, c_law_bite⟩, PySem.W.mg_of X G a_law_bite, k_law_bite⟩
  have B_law_bite := C8.Fun.binds (ps := ["_law_window", "_law_pats", "_law_end"]) D_law_bite.fn rfl fun _ _ _ _ _ _ us hl => match us, hl with | [_, _, _], _ => rfl
  have D_law_keeper : C8.Def K mg "_law_keeper" s_law_keeper f_law_keeper _ := ⟨⟨_, _, _, _, _, _, _, _, _, _, rfl, l_law_keeper, c_law_keeper⟩, PySem.W.mg_of X G a_law_keeper, k_law_keeper⟩
  have B_law_keeper := C8.Fun.binds (ps := ["_law_beat", "_law_reports_here", "_law_end"]) D_law_keeper.fn rfl fun _ _ _ _ _ _ us hl => match us, hl with | [_, _, _], _ => rfl
  have D_law_tasks : C8.Def K mg "_law_tasks" s_law_tasks f_law_tasks _ := ⟨⟨_, _, _, _, _, _, _, _, _, _, rfl, l_law_tasks, c_law_tasks⟩, PySem.W.mg_of X G a_law_tasks, k_law_tasks⟩
  have B_law_tasks := C8.Fun.binds (ps := ["_law_state", "_law_most", "_law_gap"]) D_law_tasks.fn rfl fun _ _ _ _ _ _ us hl => match us, hl with | [_, _, _], _ => rfl
  have D_law_sizes : C8.Def K mg "_law_sizes" s_law_sizes f_law_sizes _ := ⟨⟨_, _, _, _, _, _, _, _, _, _, rfl, l_law_sizes, c_law_sizes⟩, PySem.W.mg_of X G a_law_sizes, k_law_sizes⟩
  have B_law_sizes := C8.Fun.binds (ps := ["_law_state"]) D_law_sizes.fn rfl fun _ _ _ _ _ _ us hl => match us, hl with | [_], _ => rfl
  have D_law_choices : C8.Def K mg "_law_choices" s_law_choices f_law_choices _ := ⟨⟨_, _, _, _, _, _, _, _, _, _, rfl, l_law_choices, c_law_choices⟩, PySem.W.mg_of X G a_law_choices, k_law_choices⟩
  have B_law_choices := C8.Fun.binds (ps := ["_law_tasks_here", "_law_ages"]) D_law_choices.fn rfl fun _ _ _ _ _ _ us hl => match us, hl with | [_, _], _ => rfl
  have D_law_later : C8.Def K mg "_law_later" s_law_later f_law_later _ := ⟨⟨_, _, _, _, _, _, _, _, _, _, rfl, l_law_later, c_law_later⟩, PySem.W.mg_of X G a_law_later, k_law_later⟩
  have B_law_later := C8.Fun.binds (ps := ["_law_window", "_law_state", "_law_row", "_law_looks"]) D_law_later.fn rfl fun _ _ _ _ _ _ us hl => match us, hl with | [_, _, _, _], _ => rfl
  have D_law_first : C8.Def K mg "_law_first" s_law_first f_law_first _ := ⟨⟨_, _, _, _, _, _, _, _, _, _, rfl, l_law_first, c_law_first⟩, PySem.W.mg_of X G a_law_first, k_law_first⟩
  have B_law_first := C8.Fun.binds (ps := ["_law_window", "_law_beat", "_law_tasks_here"]) D_law_first.fn rfl fun _ _ _ _ _ _ us hl => match us, hl with | [_, _, _], _ => rfl
  have D_law_in_time : C8.Def K mg "_law_in_time" s_law_in_time f_law_in_time _ := ⟨⟨_, _, _, _, _, _, _, _, _, _, rfl, l_law_in_time, c_law_in_time⟩, PySem.W.mg_of X G a_law_in_time, k_law_in_time⟩
  have B_law_in_time := C8.Fun.binds (ps := ["_law_tasks_here", "_law_reports_here", "_law_end"]) D_law_in_time.fn rfl fun _ _ _ _ _ _ us hl => match us, hl with | [_, _, _], _ => rfl
  have T : Txt K mg C_W C_T C_B C_M := ⟨PySem.W.mg_none_of X G z_isinstance, PySem.W.mg_none_of X G z_len, PySem.W.mg_none_of X G z_int, PySem.W.mg_none_of X G z_bool, PySem.W.mg_none_of X G z_range, PySem.W.mg_none_of X G z_list, PySem.W.mg_none_of X G z_tuple, PySem.W.mg_none_of X G z_str, PySem.W.mg_none_of X G z_max, PySem.W.mg_none_of X G z_min, PySem.W.mg_none_of X G z_zip, ⟨_, PySem.W.mg_of X G q_GREATEST_HIGH⟩, ⟨_, PySem.W.mg_of X G q_GREATEST_BEAT⟩, ⟨_, PySem.W.mg_of X G q_MOST_TASKS⟩, ⟨_, PySem.W.mg_of X G q_LONGEST_TASK⟩, ⟨_, PySem.W.mg_of X G q_MOST_SEARCHED_TASKS⟩, ⟨_, PySem.W.mg_of X G q_LONGEST_SEARCHED_TASK⟩, ⟨_, PySem.W.mg_of X G q_GREATEST_SEARCHED_BEAT⟩, ⟨_, PySem.W.mg_of X G q_GREATEST_SEARCHED_HIGH⟩, PySem.W.mg_of X G aEW, xEW, kEW, bEW, tEW, PySem.W.mg_of X G aET, xET, kET, bET, tET, PySem.W.mg_of X G aEB, xEB, kEB, bEB, tEB, PySem.W.mg_of X G aEM, xEM, kEM, bEM, tEM⟩
  have D_law : C8.Def K mg "law" s_law _ _ := ⟨⟨_, _, _, _, _, _, _, _, _, _, rfl, l_law, c_law⟩, PySem.W.mg_of X G a_law, k_law⟩
  refine ⟨PySem.W.fnOf "law" "law" (C8.fnArgs s_law) (C8.fnBody s_law) (C8.fnScope s_law) .none kV_law dc_law pm_law an_law cd_law ct_law, fun s u => .of_eq rfl, fun base KB GB => ?_⟩
  have g0 := ok_is_number (P := l.prog) (w := w) (base := base) T D_is_number B_is_number
  have g1 := ok_is_range T D_is_range B_is_range g0
  have g2 := ok_check_window T D_check_window B_check_window g1
  have g3 := ok_check_beat T D_check_beat B_check_beat g0
  have g4 := ok_check_tasks T D_check_tasks B_check_tasks g1
  have g5 := ok_check_searched (P := l.prog) (w := w) (base := base) T D_check_searched B_check_searched
  have g6 := ok_waits_behind (P := l.prog) (w := w) (base := base) T D_waits_behind B_waits_behind
  have g7 := ok_all_waits T D_all_waits_behind B_all_waits_behind g6
  have g8 := ok_is_patted (P := l.prog) (w := w) (base := base) T D_is_patted B_is_patted
  have g9 := ok_bite_word T D_bite_word B_bite_word g8
  have g10 := ok_path_to (P := l.prog) (w := w) (base := base) T D_path_to B_path_to
  have g11 := ok_reports (P := l.prog) (w := w) (base := base) T D_reports_along B_reports_along
  have g12 := ok_steady T D_steady B_steady g2 g3 g4 g5 g7 g9 g8 g10 g11
  have h1 := ok_start (P := l.prog) (w := w) (base := base) T D_law_start B_law_start
  have h2 := ok_drawn (P := l.prog) (w := w) (base := base) T D_law_drawn B_law_drawn
  have h3 := ok_tasks T D_law_tasks B_law_tasks h2
  have h4 := ok_sizes T D_law_sizes B_law_sizes h2 h3
  have h5 := ok_choices (P := l.prog) (w := w) (base := base) T D_law_choices B_law_choices
  have h6 := ok_later (P := l.prog) (w := w) (base := base) T D_law_later B_law_later
  have h7 := ok_first T D_law_first B_law_first h5 h6
  have h8 := ok_in_time (P := l.prog) (w := w) (base := base) T D_law_in_time B_law_in_time
  have h9 := ok_keeper (P := l.prog) (w := w) (base := base) T D_law_keeper B_law_keeper
  have ha := ok_bite (P := l.prog) (w := w) (base := base) T D_law_bite B_law_bite
  have hb := ok_same (P := l.prog) (w := w) (base := base) T D_law_same B_law_same 2
  exact ok_law T D_law h1 h4 h7 h8 h9 ha hb g12
theorem walk {l : PySem.W.OpenLaw} {q : Program} {loose : List Str} {XP : (Str → Option Value) → Heap → Prop} {YP : World → Heap → Prop} {d : DefRec} {K : Params → PySem.W.Frag} (hn : l.most = some 63) (hdf : d.params.defaults = [])
    (hY : ∀ (w : World) (h : Heap), YP w h → (K w.params).In h)
    (F : ∀ (w : World) (mg : Str → Option Value) (fa : Addr) (h : Heap), (K w.params).In h → h.Ns mainGlobals mg → mg d.name = some (.ref fa) →
      ∃ fd : FuncData, (∀ (s : Shared) (v : Value), BindsTo s fd ⟨[v], []⟩ [("_law_script", v)]) ∧ ∀ base : Heap, (K w.params).In base → base.Ns mainGlobals mg → FnOk l.prog w (K w.params) mg base C8.CX0 6 fa fd ["_law_script"] (sp_law (K w.params))) :
    PySem.W.WalkO q loose XP YP l.row.toRowW d [] (fun f vs => PySem.call f vs) :=
  L2.walk_ofK (n := 63) (k := 6) (CX := C8.CX0) (sp := sp_law) hn (by decide) hdf ⟨rfl, by decide, by decide⟩ hY F (fun K H a ns hl _ hS => ⟨a, ns, rfl, hS, hl, fun _ => rfl⟩) fun _ _ _ _ z => z
end K13
open PySem PySem.W PyProof.Rows
set_option maxRecDepth 100000 in
set_option maxHeartbeats 0 in
theorem PySem.Challenge.cw_windowdog_k13_whole_tasks_never_bitten_holds : PySem.Challenge.rw_windowdog_k13_whole_tasks_never_bitten.Holds := by
  w_on; o_law; k_head; (case hw => w_witness2)
  k_fill
  refine K13.walk (l := PySem.Challenge.rw_windowdog_k13_whole_tasks_never_bitten) rfl rfl (fun w h Y => PySem.W.kIn_of Y) ?F
  case F =>
    intro w mg fa h KX G hmg
    refine' K13.law_at KX G hmg ?a_is_number ?l_is_number ?c_is_number ?k_is_number ?a_is_range ?l_is_range ?c_is_range ?k_is_range ?a_check_window ?l_check_window ?c_check_window ?k_check_window ?a_check_beat ?l_check_beat ?c_check_beat ?k_check_beat ?a_check_tasks ?l_check_tasks ?c_check_tasks ?k_check_tasks ?a_check_searched ?l_check_searched ?c_check_searched ?k_check_searched ?a_waits_behind ?l_waits_behind ?c_waits_behind ?k_waits_behind ?a_all_waits_behind ?l_all_waits_behind ?c_all_waits_behind ?k_all_waits_behind ?a_is_patted ?l_is_patted ?c_is_patted ?k_is_patted ?a_bite_word ?l_bite_word ?c_bite_word ?k_bite_word ?a_path_to ?l_path_to ?c_path_to ?k_path_to ?a_reports_along ?l_reports_along ?c_reports_along ?k_reports_along ?a_steady ?l_steady ?c_steady ?k_steady ?a_law_start ?l_law_start ?c_law_start ?k_law_start ?a_law_drawn ?l_law_drawn ?c_law_drawn ?k_law_drawn ?a_law_same ?l_law_same ?c_law_same ?k_law_same ?a_law_bite ?l_law_bite ?c_law_bite ?k_law_bite ?a_law_keeper ?l_law_keeper ?c_law_keeper ?k_law_keeper ?a_law_tasks ?l_law_tasks ?c_law_tasks ?k_law_tasks ?a_law_sizes ?l_law_sizes ?c_law_sizes ?k_law_sizes ?a_law_choices ?l_law_choices ?c_law_choices ?k_law_choices ?a_law_later ?l_law_later ?c_law_later ?k_law_later ?a_law_first ?l_law_first ?c_law_first ?k_law_first ?a_law_in_time ?l_law_in_time ?c_law_in_time ?k_law_in_time ?a_law ?l_law ?c_law ?k_law ?z_isinstance ?z_len ?z_int ?z_bool ?z_range ?z_list ?z_tuple ?z_str ?z_max ?z_min ?z_zip ?q_GREATEST_HIGH ?q_GREATEST_BEAT ?q_MOST_TASKS ?q_LONGEST_TASK ?q_MOST_SEARCHED_TASKS ?q_LONGEST_SEARCHED_TASK ?q_GREATEST_SEARCHED_BEAT ?q_GREATEST_SEARCHED_HIGH ?aEW ?xEW ?kEW ?bEW ?tEW ?aET ?xET ?kET ?bET ?tET ?aEB ?xEB ?kEB ?bEB ?tEB ?aEM ?xEM ?kEM ?bEM ?tEM
    (case a_is_number => k_is)
    (case l_is_number => k_is)
    (case c_is_number => k_is)
    (case k_is_number => k_is)
    (case a_is_range => k_is)
    (case l_is_range => k_is)
    (case c_is_range => k_is)
    (case k_is_range => k_is)
    (case a_check_window => k_is)
    (case l_check_window => k_is)
    (case c_check_window => k_is)
    (case k_check_window => k_is)
    (case a_check_beat => k_is)
    (case l_check_beat => k_is)
    (case c_check_beat => k_is)
    (case k_check_beat => k_is)
    (case a_check_tasks => k_is)
    (case l_check_tasks => k_is)
    (case c_check_tasks => k_is)
    (case k_check_tasks => k_is)
    (case a_check_searched => k_is)
    (case l_check_searched => k_is)
    (case c_check_searched => k_is)
    (case k_check_searched => k_is)
    (case a_waits_behind => k_is)
    (case l_waits_behind => k_is)
    (case c_waits_behind => k_is)
    (case k_waits_behind => k_is)
    (case a_all_waits_behind => k_is)
    (case l_all_waits_behind => k_is)
    (case c_all_waits_behind => k_is)
    (case k_all_waits_behind => k_is)
    (case a_is_patted => k_is)
    (case l_is_patted => k_is)
    (case c_is_patted => k_is)
    (case k_is_patted => k_is)
    (case a_bite_word => k_is)
    (case l_bite_word => k_is)
    (case c_bite_word => k_is)
    (case k_bite_word => k_is)
    (case a_path_to => k_is)
    (case l_path_to => k_is)
    (case c_path_to => k_is)
    (case k_path_to => k_is)
    (case a_reports_along => k_is)
    (case l_reports_along => k_is)
    (case c_reports_along => k_is)
    (case k_reports_along => k_is)
    (case a_steady => k_is)
    (case l_steady => k_is)
    (case c_steady => k_is)
    (case k_steady => k_is)
    (case a_law_start => k_is)
    (case l_law_start => k_is)
    (case c_law_start => k_is)
    (case k_law_start => k_is)
    (case a_law_drawn => k_is)
    (case l_law_drawn => k_is)
    (case c_law_drawn => k_is)
    (case k_law_drawn => k_is)
    (case a_law_same => k_is)
    (case l_law_same => k_is)
    (case c_law_same => k_is)
    (case k_law_same => k_is)
    (case a_law_bite => k_is)
    (case l_law_bite => k_is)
    (case c_law_bite => k_is)
    (case k_law_bite => k_is)
    (case a_law_keeper => k_is)
    (case l_law_keeper => k_is)
    (case c_law_keeper => k_is)
    (case k_law_keeper => k_is)
    (case a_law_tasks => k_is)
    (case l_law_tasks => k_is)
    (case c_law_tasks => k_is)
    (case k_law_tasks => k_is)
    (case a_law_sizes => k_is)
    (case l_law_sizes => k_is)
    (case c_law_sizes => k_is)
    (case k_law_sizes => k_is)
    (case a_law_choices => k_is)
    (case l_law_choices => k_is)
    (case c_law_choices => k_is)
    (case k_law_choices => k_is)
    (case a_law_later => k_is)
    (case l_law_later => k_is)
    (case c_law_later => k_is)
    (case k_law_later => k_is)
    (case a_law_first => k_is)
    (case l_law_first => k_is)
    (case c_law_first => k_is)
    (case k_law_first => k_is)
    (case a_law_in_time => k_is)
    (case l_law_in_time => k_is)
    (case c_law_in_time => k_is)
    (case k_law_in_time => k_is)
    (case a_law => k_is)
    (case l_law => k_is)
    (case c_law => k_is)
    (case k_law => k_is)
    (case z_isinstance => k_is)
    (case z_len => k_is)
    (case z_int => k_is)
    (case z_bool => k_is)
    (case z_range => k_is)
    (case z_list => k_is)
    (case z_tuple => k_is)
    (case z_str => k_is)
    (case z_max => k_is)
    (case z_min => k_is)
    (case z_zip => k_is)
    (case q_GREATEST_HIGH => k_is)
    (case q_GREATEST_BEAT => k_is)
    (case q_MOST_TASKS => k_is)
    (case q_LONGEST_TASK => k_is)
    (case q_MOST_SEARCHED_TASKS => k_is)
    (case q_LONGEST_SEARCHED_TASK => k_is)
    (case q_GREATEST_SEARCHED_BEAT => k_is)
    (case q_GREATEST_SEARCHED_HIGH => k_is)
    (case aEW => k_is)
    (case xEW => k_exc)
    (case kEW => k_is)
    (case bEW => k_is)
    (case tEW => k_is)
    (case aET => k_is)
    (case xET => k_exc)
    (case kET => k_is)
    (case bET => k_is)
    (case tET => k_is)
    (case aEB => k_is)
    (case xEB => k_exc)
    (case kEB => k_is)
    (case bEB => k_is)
    (case tEB => k_is)
    (case aEM => k_is)
    (case xEM => k_exc)
    (case kEM => k_is)
    (case bEM => k_is)
    (case tEM => k_is)
