import PyProof.Rows.All
import Wide.All
import OpenK.AllK
import Wide.FinOn
import HandS.ForMost
import HandS.ForExc
import HandS.Codes
import HandS.Lambda
import HandS.EndTab
import HandS.IsInst
import HandS.ExcIs
import HandS.Wide
import HandS.SetFor
import HandS.TupMul
import HandS.Conv
import HandS.Zip
import KE.SortData
import KE.KDflt
import HandS.Walk
import HandS.WideBits
import HandS.Rev
import HandS.TupSets
import KE.KDictKeyed
import KE.KDictWalk
import KE.KDictSum
import HandS.TupAny
import PySem.Challenge.RW_windowdog_k05_whole_judged_right
set_option Elab.async false
set_option linter.all false
set_option maxRecDepth 100000
set_option maxHeartbeats 4000000
/-! The readings step by step; heaps in which one list (the drawing's) changes. -/
namespace Wd
open PySem PySem.Spec PyProof.Rows L2

/-! ### rules -/
section
variable {X : Cx} {a b c d : Expr} {ta tb tc td : TE} {pos : Pos}
def tChain3 (r r' r2 : R2) (ta tb tc td : TE) : TE := fun σ H Q => ta σ H fun x H1 => tb σ H1 fun y H2 => r x y H2 fun z H3 => ∃ k, z = .bl k ∧
  (if k = true then tc σ H3 fun w' H4 => r' y w' H4 fun z2 H5 => ∃ k2, z2 = .bl k2 ∧ (if k2 = true then td σ H5 fun w2 H6 => r2 w' w2 H6 Q else Q (.bl false) H5) else Q (.bl false) H3)
theorem pe_chain3 {op op' op2 : CmpOp} {r r' r2 : R2} (ho : OpR X (compareOp op) r) (ho' : OpR X (compareOp op') r') (ho2 : OpR X (compareOp op2) r2) (ha : PE X a ta) (hb : PE X b tb) (hc : PE X c tc) (hd : PE X d td)
    (hm : lastMarks [op, op', op2] [b, c, d] = false := by with_unfolding_all rfl) : PE X (.Compare a [op, op', op2] [b, c, d] pos) (tChain3 r r' r2 ta tb tc td) := by
  refine ⟨fun pins s σ H Q I h => ?_⟩
  refine Compare_chain (thn (ha.run pins s σ H _ I h) fun v s1 ⟨x, H1, I1, r1, q1⟩ => chain_link (thn (hb.run pins s1 σ H1 _ I1 q1) fun u s2 ⟨y, H2, I2, r2, q2⟩ =>
    thn (ho pins s2 σ H2 x y v u _ I2 r1 r2 q2) fun d s3 ⟨z, H3, I3, r3, k, e, q3⟩ => ?_)) hm
  subst e
  cases r3
  refine wpAny_truthy_bool ?_
  cases k with
  | false => exact ite_ff ⟨.bl false, H3, I3, rfl, q3⟩
  | true =>
    refine ite_tt (chain_link (thn (hc.run pins s3 σ H3 _ I3 q3) fun w' s4 ⟨z', H4, I4, r4, q4⟩ => thn (ho' pins s4 σ H4 y z' u w' _ I4 r2 r4 q4) fun d5 s5 ⟨z5, H5, I5, r5, k5, e5, q5⟩ => ?_))
    subst e5
    cases r5
    refine wpAny_truthy_bool ?_
    cases k5 with
    | false => exact ite_ff ⟨.bl false, H5, I5, rfl, q5⟩
    | true => exact ite_tt (chain_last (thn (hd.run pins s5 σ H5 _ I5 q5) fun w6 s6 ⟨z6, H6, I6, r6, q6⟩ => ho2 pins s6 σ H6 z' z6 w' w6 Q I6 r4 r6 q6))
end

section
variable {X : Cx} {K : PySem.W.Frag} {name : Str} {T id : String} {r : V → List V → Hp → VK → Prop} {o e : Expr} {es : List Expr} {to : TE} {t : TA} {apos cpos : Pos}
theorem pe_bmK (hK : X.K = K) (pa : PlainAttrs T) (slot : Slot T name id) (hty : typeOf (.builtin id) = pure (.type "method_descriptor")) (hm : MtR X id r) (ho : PE X o to) (ha : PA X (e :: es) t)
    (hbase : attributeBase o name X.env (eval o X.env) = eval o X.env := by rfl)
    (hfew : ((backTo cpos (starEach (e :: es) X.env)).all (fun x => !x.1) && (backToKw cpos (keywordEach [] X.env)).all (fun x => x.1.isSome)
      && decide ((e :: es).length + ([] : List Keyword).length + (if ([] : List Keyword).isEmpty then 0 else 1) < 30)) = true := by rfl)
    (hline : (apos.endLine == cpos.line) = true := by rfl) (hs : starEach (e :: es) X.env = (false, eval e X.env) :: starEach es X.env := by rfl) (hplain : (backTo cpos (starEach es X.env)).any (·.1) = false := by rfl) : PE X (.Call (.Attribute o name apos) (e :: es) [] cpos) (tBM K T r to t) := by
  subst hK; exact pe_bm pa slot hty hm ho ha hbase hfew hline hs hplain
theorem pe_bm0K (hK : X.K = K) (pa : PlainAttrs T) (slot : Slot T name id) (hty : typeOf (.builtin id) = pure (.type "method_descriptor")) (hm : MtR X id r) (ho : PE X o to)
    (hbase : attributeBase o name X.env (eval o X.env) = eval o X.env := by rfl) (hline : (apos.endLine == cpos.line) = true := by rfl) : PE X (.Call (.Attribute o name apos) [] [] cpos) (tBM0 K T r to) := by
  subst hK; exact pe_bm0 pa slot hty hm ho hbase hline
end

/-- a def of the module that may let an exception out -/
structure CalX (P : Program) (w : World) (K : PySem.W.Frag) (mg : Str → Option Value) (base : Heap) (k : Nat) (x : Str) (sp : Sp) : Prop where
  ex : ∃ (f : Addr) (fd : FuncData) (ps : List Str), FnOk P w K mg base (L2.CX P w) k f fd ps sp ∧ mg x = some (.ref f) ∧ PySem.W.keepIn K (.ref f) = true ∧ Binds K fd ps []
section
variable {X : Cx} {k j : Nat} {x : Str} {sp : Sp} {p pos : Pos} {e : Expr} {es : List Expr} {t : TA} {E : L2.St → XK}
theorem pe_cX (c : CalX X.prog X.w X.K X.mg X.base k x sp) (hr : Room j X.A) (hk : k ≤ j) (hg : Gl X x) (hx : ∀ σ, PassesAt (L2.CX X.prog X.w) X σ (E σ)) (ha : PA X (e :: es) t)
    (hdb : (x == ("__debug__" : Str)) = false := by decide) (he : starEach (e :: es) X.env = (false, eval e X.env) :: starEach es X.env := by rfl) (hpl : (backTo pos (starEach es X.env)).any (·.1) = false := by rfl) :
    PE X (.Call (.Name x p) (e :: es) [] pos) (tCallS sp E t) := by
  obtain ⟨f, fd, ps, F, hm, kp, b⟩ := c.ex
  exact pe_callS F (hr.mono hk) hg hm kp b hx ha hdb he hpl
end
section
variable {P : Program} {w : World} {K : PySem.W.Frag} {mg : Str → Option Value} {base : Heap}
/-- a def by its body, which may let an exception out -/
theorem calX {x : Str} {st : Stmt} {f : Addr} {fd : FuncData} {N ps : List Str} {k : Nat} {sp : Sp} (F : C8.Def K mg x st f fd) (b : Binds K fd ps []) (S : FnScope N ps (C8.fnScope st)) (len : ∀ vs H Q E, sp vs H Q E → vs.length = ps.length)
    (hbody : ∀ (cdv : Value) (A : Around) (outer : List Env) (s : Shared) (H : Hp) (vs : List V) (Q : VK) (E : XK), Room k (A.deeper (envOfC x (C8.fnScope st) s.heap.objs.size f cdv)) → sp vs H Q E →
      ∃ t, PSs (cxOf (L2.CX P w) P w K mg base N x (C8.fnScope st) f cdv A outer s H E) (C8.fnBody st) t ∧ t { nx := fun _ H' => Q .non H', rt := Q } (L2.start N vs) H) : CalX P w K mg base (k + 1) x sp := by
  refine ⟨f, fd, ps, ?_, F.mgf, F.kp, b⟩
  obtain ⟨oc, od, dV, kV, doc, pm, an, cdv, ct, osl, rfl, lk, hcd⟩ := F.fn.ex
  exact fn_of lk hcd S len fun A outer s H vs Q E hr hsp => hbody cdv A outer s H vs Q E hr hsp
end

/-! ### list.count of flat items -/
section
variable {X : Cx}
theorem count_eqU {x : V} : ∀ {xs : List V} {us : List Value}, Vals xs us → xs.all flatV = true → us.countP (eqU x) = xs.countP fun y => eqV y x
  | _, _, .nil, _ => rfl
  | y :: xs, u :: us, .cons r t, f => by
    rw [List.all_cons, Bool.and_eq_true] at f
    rw [List.countP_cons, List.countP_cons, eqU_of r f.1, count_eqU t f.2]
def rCntV (K : PySem.W.Frag) : V → List V → Hp → VK → Prop := fun x xs H Q => ∃ (p : Addr) (ys : List V) (y : V), x = .ref p ∧ xs = [y] ∧ SqL K H p ys ∧ flatV y = true ∧ ys.all flatV = true ∧ Q (.int ((ys.countP fun z => eqV z y : Nat) : Int)) H
theorem mt_lcountV : MtR X "list.count" (rCntV X.K) := by
  intro pins s σ H x xs v us Q I rx rxs h
  obtain ⟨p, ys, y, rfl, rfl, hs, fy, fys, q⟩ := h
  cases rx
  obtain ⟨u, rfl, ru⟩ := rxs.one
  obtain ⟨its, rv, ⟨⟨cls, dd, data, sl⟩, n, ho, hc, hdn, hd⟩, hlen⟩ := I.list hs
  simp only at hc hd
  subst hc hd
  refine call_meets PySem.F.slot_list_count ⟨_, ho, rfl⟩ PySem.F.entry_list_count (PySem.F.args_list_count_2 _ _)
    (SeqAt.list_countAt p its.toArray n dd sl u (eqU y)) ⟨ho, fun u' hu' => mem_eqAt ru fy rv fys u' (by simpa using hu'), ?_⟩
  have ec : its.toArray.toList.countP (eqU y) = ys.countP fun z => eqV z y := count_eqU rv fys
  refine ⟨.int (ys.countP fun z => eqV z y : Nat), H, I.tok _, ⟨s.toks, ?_⟩, q⟩
  show Value.int ((its.toArray.toList.countP (eqU y) : Nat) : Int) s.toks = Value.int ((ys.countP fun z => eqV z y : Nat) : Int) s.toks
  rw [ec]
end

/-! ### isinstance of a caught error, its class told by the reading -/
def rIsE2 (K : PySem.W.Frag) (cls : Value) (d : Option Addr) (a : Addr) : List V → Hp → VK → Prop := fun xs H Q => ∃ (D : Addr) (c : V) (cv : Value) (b : Bool), cls = .ref D ∧ d = none ∧ ExcC K D ∧ xs = [.ref a, c] ∧ (∀ u, RelV c u → u = cv) ∧ PySem.W.kitOne K (.ref D) cv = some b ∧ Q (.bl b) H
theorem call_isE2 {X : Cx} {a : Addr} {cls : Value} {d : Option Addr} {oe : Obj} {pn : List (Addr × Obj)} (hz : Zc cls d oe) (hf : ∃ vs, oe.data = .fields vs) : CallR (X.suite a ((a, oe) :: pn)) (.builtin "isinstance") (rIsE2 X.K cls d a) := by
  intro pins s σ H xs us Q I r h
  obtain ⟨D, c, cv, b, rfl, rfl, C, e, hcv, hk, q⟩ := h
  exact call_isE C hz hf pins s σ H xs us Q I r ⟨c, cv, b, e, hcv, hk, q⟩

/-- where an exception is, the slots are as many as the names -/
theorem takes_len {X : Cx} {W : WX} (t : Takes X W) : Takes X (fun c d σ H => σ.length = X.N.length → W c d σ H) := fun u s' x => by
  obtain ⟨a, B, sI, pins, σ, H, cls, d, e, I, x1, x2, x3, x4, x5, x6, q⟩ := x
  exact t u s' ⟨a, B, sI, pins, σ, H, cls, d, e, I, x1, x2, x3, x4, x5, x6, q I.len⟩

/-! ### built-ins by name -/
def rLen (K : PySem.W.Frag) : List V → Hp → VK → Prop := fun xs H Q => ∃ p ys, xs = [.ref p] ∧ (SqL K H p ys ∨ SqT K H p ys) ∧ Q (.int ys.length) H
theorem call_len1 {X : Cx} : CallR X (.builtin "len") (rLen X.K) := call_len_seq
def rListOf (K : PySem.W.Frag) : List V → Hp → VK → Prop := fun xs H Q => ∃ p ys, xs = [.ref p] ∧ (SqL K H p ys ∨ SqT K H p ys) ∧ ∀ l, H l = none → Q (.ref l) (upd H l (.lst ys))
theorem call_list1 {X : Cx} : CallR X (.type "list") (rListOf X.K) := call_list_of
def rMax2 : List V → Hp → VK → Prop := fun xs H Q => ∃ i j, xs = [.int i, .int j] ∧ Q (.int (if j > i then j else i)) H
theorem call_max1 {X : Cx} (hc : X.calm = true) : CallR X (.builtin "max") rMax2 := call_max2 hc
def rMin2 : List V → Hp → VK → Prop := fun xs H Q => ∃ i j, xs = [.int i, .int j] ∧ Q (.int (if j < i then j else i)) H
theorem call_min1 {X : Cx} (hc : X.calm = true) : CallR X (.builtin "min") rMin2 := call_min2 hc
def rInt1 : List V → Hp → VK → Prop := fun xs H Q => (∃ i, xs = [.int i] ∧ Q (.int i) H) ∨ ∃ k, xs = [.bl k] ∧ Q (.int (if k then 1 else 0)) H
theorem call_intB {X : Cx} : CallR X (.type "int") rInt1 := call_int1

def rIsN : R2 := fun x y H Q => y = .non ∧ Q (.bl (decide (x = .non))) H
theorem op_isN1 {X : Cx} : OpR X (compareOp .Is) rIsN := op_isN
def rNotN : R2 := fun x y H Q => y = .non ∧ Q (.bl (!decide (x = .non))) H
theorem op_notN1 {X : Cx} : OpR X (compareOp .IsNot) rNotN := op_notN

/-! ### steps -/
section
variable {σ : L2.St} {H : Hp} {Q : VK} {QB : Bool → Hp → Prop} {QA : List V → Hp → Prop} {i : Nat} {v x y : V} {ta tb tc te : TE} {t u : TT} {ts us : TS} {D : Ends} {n m : Int} {K : PySem.W.Frag} {r r' r2 : R2}
theorem g_var (h : σ[i]? = some (some v)) (q : Q v H) : tVar i σ H Q := ⟨v, h, q⟩
theorem g_c (q : Q v H) : tC v σ H Q := q
theorem g_op (h : ta σ H fun x H1 => tb σ H1 fun y H2 => r x y H2 Q) : tOp r ta tb σ H Q := h
theorem g_un {r : V → Hp → VK → Prop} (h : ta σ H fun x H1 => r x H1 Q) : tUn r ta σ H Q := h
theorem g_I0 {g : Int → Int → V} (q : Q (g n m) H) : rI0 g (.int n) (.int m) H Q := ⟨n, m, rfl, rfl, q⟩
theorem g_I {C : Int → Int → Prop} {g : Int → Int → V} (c : C n m) (q : Q (g n m) H) : rI C g (.int n) (.int m) H Q := ⟨n, m, rfl, rfl, c, q⟩
theorem g_U {g : Int → V} (q : Q (g n) H) : rU g (.int n) H Q := ⟨n, rfl, q⟩
theorem g_eqI (q : Q (.bl (decide (n = m))) H) : rEq (.int n) (.int m) H Q := ⟨rfl, by
  have e : decide (V.int n = V.int m) = decide (n = m) := by by_cases h : n = m <;> simp [h]
  rw [e]; exact q⟩
theorem g_neI (q : Q (.bl (!decide (n = m))) H) : rNe (.int n) (.int m) H Q := ⟨rfl, by
  have e : decide (V.int n = V.int m) = decide (n = m) := by by_cases h : n = m <;> simp [h]
  rw [e]; exact q⟩
theorem g_eqS {a b : Str} (q : Q (.bl (decide (a = b))) H) : rEq (.str a) (.str b) H Q := ⟨rfl, by
  have e : decide (V.str a = V.str b) = decide (a = b) := by by_cases h : a = b <;> simp [h]
  rw [e]; exact q⟩
theorem g_neS {a b : Str} (q : Q (.bl (!decide (a = b))) H) : rNe (.str a) (.str b) H Q := ⟨rfl, by
  have e : decide (V.str a = V.str b) = decide (a = b) := by by_cases h : a = b <;> simp [h]
  rw [e]; exact q⟩
theorem g_eqB {a b : Bool} (q : Q (.bl (a == b)) H) : rEq (.bl a) (.bl b) H Q := ⟨rfl, by
  have e : decide (V.bl a = V.bl b) = (a == b) := by cases a <;> cases b <;> rfl
  rw [e]; exact q⟩
theorem g_neB {a b : Bool} (q : Q (.bl (a != b)) H) : rNe (.bl a) (.bl b) H Q := ⟨rfl, by
  have e : (!decide (V.bl a = V.bl b)) = (a != b) := by cases a <;> cases b <;> rfl
  rw [e]; exact q⟩
theorem g_isN (q : Q (.bl (decide (x = .non))) H) : rIsN x .non H Q := ⟨rfl, q⟩
theorem g_notN (q : Q (.bl (!decide (x = .non))) H) : rNotN x .non H Q := ⟨rfl, q⟩
theorem g_test (h : te σ H fun x H' => ∃ k, x = .bl k ∧ QB k H') : tTest te σ H QB := h
theorem g_tB (h : te σ H fun x H' => ∃ k, x = .bl k ∧ QB k H') : tB te σ H QB := h
theorem g_bl {b : Bool} (q : QB b H) : ∃ k, V.bl b = .bl k ∧ QB k H := ⟨b, rfl, q⟩
theorem g_and (h : t σ H fun c H1 => if c = true then u σ H1 QB else QB false H1) : tAnd t u σ H QB := h
theorem g_or (h : t σ H fun c H1 => if c = true then QB true H1 else u σ H1 QB) : tOr t u σ H QB := h
theorem g_not (h : t σ H fun c H1 => QB (!c) H1) : tNot t σ H QB := h
theorem g_andV (h : ta σ H fun x H1 => ∃ c, x = .bl c ∧ if c = true then tb σ H1 Q else Q (.bl false) H1) : tAndV ta tb σ H Q := h
theorem g_orV (h : ta σ H fun x H1 => ∃ c, x = .bl c ∧ if c = true then Q (.bl true) H1 else tb σ H1 Q) : tOrV ta tb σ H Q := h
theorem g_notV (h : ta σ H fun x H1 => ∃ c, x = .bl c ∧ Q (.bl (!c)) H1) : tNotV ta σ H Q := h
theorem g_blI {b : Bool} {p : Bool → Prop} (q : p b) : ∃ k, V.bl b = .bl k ∧ p k := ⟨b, rfl, q⟩
theorem g_if (h : t σ H fun c H1 => if c = true then ta σ H1 Q else tb σ H1 Q) : tIf t ta tb σ H Q := h
theorem g_chain (h : ta σ H fun x H1 => tb σ H1 fun y H2 => r x y H2 fun z H3 => ∃ k, z = .bl k ∧ (if k = true then tc σ H3 fun w' H4 => r' y w' H4 Q else Q (.bl false) H3)) : tChain r r' ta tb tc σ H Q := h
theorem g_chain3 {td : TE} (h : ta σ H fun x H1 => tb σ H1 fun y H2 => r x y H2 fun z H3 => ∃ k, z = .bl k ∧
  (if k = true then tc σ H3 fun w' H4 => r' y w' H4 fun z2 H5 => ∃ k2, z2 = .bl k2 ∧ (if k2 = true then td σ H5 fun w2 H6 => r2 w' w2 H6 Q else Q (.bl false) H5) else Q (.bl false) H3)) : tChain3 r r' r2 ta tb tc td σ H Q := h
theorem g_nil (q : QA [] H) : tNil σ H QA := q
theorem g_cons {tr : TA} (h : ta σ H fun x H1 => tr σ H1 fun xs H2 => QA (x :: xs) H2) : tCons ta tr σ H QA := h
theorem g_tup {tr : TA} (h : tr σ H fun xs H1 => xs.length ≤ sizeLine ∧ ∀ p, H1 p = none → Q (.ref p) (upd H1 p (.tup xs))) : tTup tr σ H Q := h
theorem g_lst {tr : TA} (h : tr σ H fun xs H1 => xs.length ≤ sizeLine ∧ ∀ p, H1 p = none → Q (.ref p) (upd H1 p (.lst xs))) : tLst tr σ H Q := h
theorem g_CB {r : List V → Hp → VK → Prop} {tr : TA} (h : tr σ H fun vs H1 => r vs H1 Q) : tCB r tr σ H Q := h
theorem g_call {sp : Sp} {dvs : List V} {E : XK} {tr : TA} (h : tr σ H fun vs H1 => sp (vs ++ dvs) H1 Q E) : tCall sp dvs E tr σ H Q := h
theorem g_callS {sp : Sp} {E : L2.St → XK} {tr : TA} (h : tr σ H fun vs H1 => sp vs H1 Q (E σ)) : tCallS sp E tr σ H Q := h
theorem g_bm {T : String} {r : V → List V → Hp → VK → Prop} {tr : TA} (h : ta σ H fun x H1 => tyV K T x H1 ∧ tr σ H1 fun xs H2 => r x xs H2 Q) : tBM K T r ta tr σ H Q := h
theorem g_bm0 {T : String} {r : V → List V → Hp → VK → Prop} (h : ta σ H fun x H1 => tyV K T x H1 ∧ r x [] H1 Q) : tBM0 K T r ta σ H Q := h
theorem g_sl {r : V → Option Int → Option Int → Hp → VK → Prop} {tl th : TO} (h : te σ H fun x H1 => tl σ H1 fun l H2 => th σ H2 fun u H3 => r x l u H3 Q) : tSl r te tl th σ H Q := h
theorem g_part {QO : Option Int → Hp → Prop} (h : te σ H fun x H1 => ∃ i, x = .int i ∧ QO (some i) H1) : tPart te σ H QO := h
theorem g_part1 {p : Int → Prop} (h : p n) : ∃ i, V.int n = .int i ∧ p i := ⟨n, rfl, h⟩
theorem g_noPart {QO : Option Int → Hp → Prop} (h : QO none H) : tNoPart σ H QO := h
-- statements
theorem g_seq {a : L2.St → Hp → Prop} {b : VK} {c d : L2.St → Hp → Prop} (h : ts ⟨us ⟨a, b, c, d⟩, b, c, d⟩ σ H) : tSeq ts us ⟨a, b, c, d⟩ σ H := h
theorem g_fit {xs : List V} {R : Addr → Prop} (hl : Nat.ble xs.length 1000 = true) (q : ∀ p, H p = none → R p) : xs.length ≤ sizeLine ∧ ∀ p, H p = none → R p := ⟨Nat.le_trans (Nat.le_of_ble_eq_true hl) (by decide), q⟩
theorem g_next (h : D.nx σ H) : tNext D σ H := h
theorem g_asg {g : TG} (h : te σ H fun x H1 => g x σ H1 D.nx) : tAsg te g D σ H := h
theorem g_name {Qg : L2.St → Hp → Prop} (h : Qg (σ.set i (some v)) H) : gName i v σ H Qg := h
theorem g_sub {to ti : TE} {t : TSet} {Qg : L2.St → Hp → Prop} (h : to σ H fun o H1 => ti σ H1 fun i H2 => t o i v H2 fun H3 => Qg σ H3) : gSub to ti t v σ H Qg := h
theorem g_gnil {Qg : L2.St → Hp → Prop} (h : Qg σ H) : gNil [] σ H Qg := ⟨rfl, h⟩
theorem g_gcons {tg : TG} {ug : TGs} {vs : List V} {Qg : L2.St → Hp → Prop} (h : tg v σ H fun σ' H' => ug vs σ' H' Qg) : gCons tg ug (v :: vs) σ H Qg := ⟨v, vs, rfl, h⟩
theorem g_drop (h : te σ H fun _ H1 => D.nx σ H1) : tDrop te D σ H := h
theorem g_ret (h : te σ H D.rt) : tRet te D σ H := h
theorem g_retN (h : D.rt .non H) : tRetN D σ H := h
theorem g_brk (h : D.bk σ H) : tBreak D σ H := h
theorem g_cont (h : D.ct σ H) : tCont D σ H := h
theorem g_ifS (h : t σ H fun b H1 => if b = true then ts D σ H1 else us D σ H1) : tIfS t ts us D σ H := h
theorem g_nx {a : L2.St → Hp → Prop} {b : VK} {c d : L2.St → Hp → Prop} (h : a σ H) : Ends.nx ⟨a, b, c, d⟩ σ H := h
theorem g_bk {a : L2.St → Hp → Prop} {b : VK} {c d : L2.St → Hp → Prop} (h : c σ H) : Ends.bk ⟨a, b, c, d⟩ σ H := h
theorem g_ct {a : L2.St → Hp → Prop} {b : VK} {c d : L2.St → Hp → Prop} (h : d σ H) : Ends.ct ⟨a, b, c, d⟩ σ H := h
theorem g_rt {a : L2.St → Hp → Prop} {b : VK} {c d : L2.St → Hp → Prop} (h : b v H) : Ends.rt ⟨a, b, c, d⟩ v H := h
theorem g_rng1 {tr : TA} {R : It → Hp → Prop} (h : tr σ H fun vs H1 => ∃ j : Int, vs = [.int j] ∧ -(2 ^ 62) ≤ j ∧ j < 2 ^ 62 ∧ R (Itr 0 j.toNat) H1) : iRng1 tr σ H R := h
theorem g_rng2 {tr : TA} {R : It → Hp → Prop} (h : tr σ H fun vs H1 => ∃ i j : Int, vs = [.int i, .int j] ∧ (-(2 ^ 62) ≤ i ∧ i < 2 ^ 62 ∧ -(2 ^ 62) ≤ j ∧ j < 2 ^ 62) ∧ R (Itr i (j - i).toNat) H1) : iRng2 tr σ H R := h
theorem g_iList {R : It → Hp → Prop} (h : te σ H fun x H1 => ∃ a, x = .ref a ∧ (∃ xs, SqL K H1 a xs) ∧ R (Itl K a) H1) : iList K te σ H R := h
theorem g_iTup {R : It → Hp → Prop} (h : te σ H fun x H1 => ∃ a, x = .ref a ∧ (∃ xs, SqT K H1 a xs) ∧ R (Itt K a) H1) : iTup K te σ H R := h
def ForEnd (g : TG) (tb : TS) (a : L2.St → Hp → Prop) (b : VK) (σ : L2.St) (J : It) (H1 : Hp) : Prop := ∃ W : Nat → Nat → L2.St → Hp → Prop, (∃ m, W 0 m σ H1) ∧ ∀ i m σ H, W i m σ H →
  (J.stop i H ∧ a σ H) ∨ (J.go i H ∧ ∃ N : L2.St → Hp → Prop, (∀ σ' H', N σ' H' → ∃ m', m' < m ∧ W (i + 1) m' σ' H') ∧ ∀ x H', J.yld i H x H' → g x σ H' fun σ2 H2 => tb ⟨N, b, a, N⟩ σ2 H2)
theorem g_for {a : L2.St → Hp → Prop} {b : VK} {c d : L2.St → Hp → Prop} {wi : TI} {g : TG} {tb : TS} (h : wi σ H (ForEnd g tb a b σ)) : tFor wi g tb ⟨a, b, c, d⟩ σ H := h
theorem w_list {a : L2.St → Hp → Prop} {b : VK} {g : TG} {tb : TS} {p : Addr} {xs : List V} (Pv : Nat → L2.St → Hp → Prop) (h0 : Pv 0 σ H) (hl : ∀ i σ H, i ≤ xs.length → Pv i σ H → SqL K H p xs)
    (hs : ∀ i x σ H, xs[i]? = some x → Pv i σ H → g x σ H fun σ2 H2 => tb ⟨Pv (i + 1), b, a, Pv (i + 1)⟩ σ2 H2) (hd : ∀ σ H, Pv xs.length σ H → a σ H) : ∃ q, V.ref p = .ref q ∧ (∃ xs, SqL K H q xs) ∧ ForEnd g tb a b σ (Itl K q) H :=
  ⟨p, rfl, ⟨xs, hl 0 σ H (Nat.zero_le _) h0⟩, for_list (D := ⟨a, b, fun _ _ => False, fun _ _ => False⟩) Pv h0 hl hs hd⟩
theorem w_tup {a : L2.St → Hp → Prop} {b : VK} {g : TG} {tb : TS} {p : Addr} {xs : List V} (Pv : Nat → L2.St → Hp → Prop) (h0 : Pv 0 σ H) (hl : ∀ i σ H, i ≤ xs.length → Pv i σ H → SqT K H p xs)
    (hs : ∀ i x σ H, xs[i]? = some x → Pv i σ H → g x σ H fun σ2 H2 => tb ⟨Pv (i + 1), b, a, Pv (i + 1)⟩ σ2 H2) (hd : ∀ σ H, Pv xs.length σ H → a σ H) : ∃ q, V.ref p = .ref q ∧ (∃ xs, SqT K H q xs) ∧ ForEnd g tb a b σ (Itt K q) H :=
  ⟨p, rfl, ⟨xs, hl 0 σ H (Nat.zero_le _) h0⟩, for_tup (D := ⟨a, b, fun _ _ => False, fun _ _ => False⟩) Pv h0 hl hs hd⟩
/-- range(n) -/
theorem w_range {a : L2.St → Hp → Prop} {b : VK} {g : TG} {tb : TS} {n : Int} (h1 : -(2 ^ 62) ≤ n) (h2 : n < 2 ^ 62) (Pv : Nat → L2.St → Hp → Prop) (h0 : Pv 0 σ H)
    (hs : ∀ i σ H, i < n.toNat → Pv i σ H → g (.int i) σ H fun σ2 H2 => tb ⟨Pv (i + 1), b, a, Pv (i + 1)⟩ σ2 H2) (hd : ∀ σ H, Pv n.toNat σ H → a σ H) :
    ∃ j : Int, [V.int n] = [.int j] ∧ -(2 ^ 62) ≤ j ∧ j < 2 ^ 62 ∧ ForEnd g tb a b σ (Itr 0 j.toNat) H :=
  ⟨n, rfl, h1, h2, for_range (D := ⟨a, b, fun _ _ => False, fun _ _ => False⟩) Pv h0 (fun i σ H hi p => by have q := hs i σ H hi p; rw [Int.zero_add]; exact q) hd⟩
theorem w_while {a : L2.St → Hp → Prop} {b : VK} {c d : L2.St → Hp → Prop} {tc : TT} {tb : TS} (Pv : L2.St → Hp → Prop) (μ : L2.St → Hp → Nat) (h0 : Pv σ H)
    (hs : ∀ σ H, Pv σ H → tc σ H fun b' H1 => if b' = true then tb ⟨fun σ' H' => Pv σ' H' ∧ μ σ' H' < μ σ H, b, a, fun σ' H' => Pv σ' H' ∧ μ σ' H' < μ σ H⟩ σ H1 else a σ H1)
    (mono : ∀ σ H Q Q', (∀ b H1, Q b H1 → Q' b H1) → tc σ H Q → tc σ H Q') : tWhile tc tb ⟨a, b, c, d⟩ σ H := while_by Pv μ h0 hs mono
theorem g_itT {b : Bool} {A B : Prop} (h : b = true) (q : A) : if b = true then A else B := by rw [h]; exact iteT q
theorem g_itF {b : Bool} {A B : Prop} (h : b = false) (q : B) : if b = true then A else B := by rw [h]; exact iteF q
theorem g_ite {c : Prop} [Decidable c] {A B : Prop} (h1 : c → A) (h2 : ¬ c → B) : if decide c = true then A else B := by
  by_cases h : c
  · rw [decide_eq_true h]; exact iteT (h1 h)
  · rw [decide_eq_false h]; exact iteF (h2 h)
theorem g_iteN {c : Prop} [Decidable c] {A B : Prop} (h1 : ¬ c → A) (h2 : c → B) : if (!decide c) = true then A else B := by
  by_cases h : c
  · rw [decide_eq_true h]; exact iteF (h2 h)
  · rw [decide_eq_false h]; exact iteT (h1 h)
theorem g_len {p : Addr} {xs : List V} (h : SqL K H p xs ∨ SqT K H p xs) (q : Q (.int xs.length) H) : rLen K [.ref p] H Q := ⟨p, xs, rfl, h, q⟩
theorem g_ixL {p : Addr} {xs : List V} (h : SqL K H p xs) (ha : atI xs n = some v) (q : Q v H) : rIxL K (.ref p) (.int n) H Q := ⟨p, xs, n, v, rfl, rfl, h, ha, q⟩
theorem g_ixT {p : Addr} {xs : List V} (h : SqT K H p xs) (ha : atI xs n = some v) (q : Q v H) : rIxT K (.ref p) (.int n) H Q := ⟨p, xs, n, v, rfl, rfl, h, ha, q⟩
theorem g_setL {p : Addr} {xs : List V} {j : Nat} {q : Hp → Prop} (h : H p = some (.lst xs)) (hj : ixN xs.length n = some j) (k : q (upd H p (.lst (xs.set j v)))) : rSetL (.ref p) (.int n) v H q := ⟨p, xs, n, j, rfl, rfl, h, hj, k⟩
theorem mulW_small {i j : Int} (h1 : 0 ≤ i) (h2 : i < 2147483648) (h3 : 0 ≤ j) (h4 : j < 2147483648) : CMulW i j := wide_mul (a := 31) (b := 31) (by show _ < 2147483648; omega) (by show _ < 2147483648; omega) (by decide) (by decide) (by decide)
theorem divW_small {i j : Int} (h1 : 0 < j) (h2 : j < 10 ^ 38) : CDivW i j := wide_div (b := 127) h1 (by show _ < (2 : Nat) ^ 127; omega) (by decide) (by decide)
theorem g_append {p : Addr} {xs : List V} (h : H p = some (.lst xs)) (hl : xs.length < 100000) (q : Q .non (upd H p (.lst (xs ++ [v])))) : rAppend (.ref p) [v] H Q := ⟨p, xs, v, rfl, rfl, h, Nat.lt_of_lt_of_le hl (by decide), q⟩
theorem g_tyL {p : Addr} {xs : List V} {R : Prop} (h : H p = some (.lst xs)) (q : R) : tyV K "list" (.ref p) H ∧ R := ⟨.inl ⟨rfl, _, SqL.of h⟩, q⟩
theorem g_listOf {p : Addr} {xs : List V} (h : SqL K H p xs) (q : ∀ l, H l = none → Q (.ref l) (upd H l (.lst xs))) : rListOf K [.ref p] H Q := ⟨p, xs, rfl, .inl h, q⟩
theorem g_listOfT {p : Addr} {xs : List V} (h : SqT K H p xs) (q : ∀ l, H l = none → Q (.ref l) (upd H l (.lst xs))) : rListOf K [.ref p] H Q := ⟨p, xs, rfl, .inr h, q⟩
theorem g_int1B {b : Bool} (q : Q (.int (if b then 1 else 0)) H) : rInt1 [.bl b] H Q := .inr ⟨b, rfl, q⟩
theorem g_gtup {p : Addr} {xs : List V} {k : Nat} {tg : TGs} {Qg : L2.St → Hp → Prop} (h : SqT K H p xs) (hl : xs.length = k) (q : tg xs σ H Qg) : gTup K k tg (.ref p) σ H Qg := ⟨p, xs, rfl, h, hl, q⟩
theorem g_isi {c : V} {tv uv : Value} {b : Bool} (h1 : ClsV c uv) (h2 : TyX K H x tv) (h3 : PySem.W.kitOne K tv uv = some b) (q : Q (.bl b) H) : rIsi K [x, c] H Q := ⟨x, c, tv, uv, b, rfl, h1, h2, h3, q⟩
theorem g_max2 (q : Q (.int (if m > n then m else n)) H) : rMax2 [.int n, .int m] H Q := ⟨n, m, rfl, q⟩
theorem g_min2 (q : Q (.int (if m < n then m else n)) H) : rMin2 [.int n, .int m] H Q := ⟨n, m, rfl, q⟩
end

/-! ### heaps in which the list at S changes -/
def Frm (S : Addr) (H H' : Hp) : Prop := ∀ b o, b ≠ S → H b = some o → H' b = some o
theorem Frm.refl (S : Addr) (H : Hp) : Frm S H H := fun _ _ _ h => h
theorem Frm.trans {S : Addr} {H H1 H2 : Hp} (a : Frm S H H1) (b : Frm S H1 H2) : Frm S H H2 := fun c o n h => b c o n (a c o n h)
theorem Frm.of {S : Addr} {H H' : Hp} (e : Same H H') : Frm S H H' := fun b o _ h => e b o h
theorem Frm.set {S : Addr} {H : Hp} {o : HO} : Frm S H (upd H S o) := fun b u n h => by rw [upd_ne n]; exact h
theorem same_new {H : Hp} {p : Addr} {o : HO} (h : H p = none) : Same H (upd H p o) := fun b u e => by rw [upd_ne (ne_of_none e h)]; exact e
/-- what may be read at a, whatever becomes of S -/
def ScL (K : PySem.W.Frag) (S : Addr) (H : Hp) (a : Addr) (xs : List V) : Prop := (a ≠ S ∧ Rd H a (.lst xs)) ∨ ∀ H', SqL K H' a xs
theorem ScL.sq {K : PySem.W.Frag} {S : Addr} {H : Hp} {a : Addr} {xs : List V} (h : ScL K S H a xs) : SqL K H a xs := by
  rcases h with ⟨_, h⟩ | h
  · exact .inl h
  · exact h H
theorem ScL.frm {K : PySem.W.Frag} {S : Addr} {H H' : Hp} {a : Addr} {xs : List V} (h : ScL K S H a xs) (f : Frm S H H') : ScL K S H' a xs := by
  rcases h with ⟨n, h⟩ | h
  · refine .inl ⟨n, ?_⟩
    rcases h with h | ⟨o, h⟩
    · exact .inl (f _ _ n h)
    · exact .inr ⟨o, f _ _ n h⟩
  · exact .inr h
theorem ScL.of {K : PySem.W.Frag} {S : Addr} {H H' : Hp} {a : Addr} {xs : List V} (h : SqL K H a xs) (e : Same H H') (n : H S = none) : ScL K S H' a xs := by
  rcases h with h | h
  · rcases h with h | ⟨o, h⟩
    · exact .inl ⟨ne_of_none h n, .inl (e _ _ h)⟩
    · exact .inl ⟨ne_of_none h n, .inr ⟨o, e _ _ h⟩⟩
  · exact .inr fun H' => .inr h
/-- the drawing's state at S; what B tracks stands as it stood -/
def Dst (K : PySem.W.Frag) (B H : Hp) (S : Addr) : Prop := ∃ (sc : Addr) (ns : List Int) (c m r : Int), H S = some (.lst [.ref sc, .int c, .int m, .int r]) ∧ ScL K S B sc (ns.map V.int) ∧ Frm S B H ∧ ns.length ≤ 63 ∧ 0 ≤ c ∧ 0 ≤ m ∧ m < 2147483647
theorem Dst.same {K : PySem.W.Frag} {B H H' : Hp} {S : Addr} (d : Dst K B H S) (e : Same H H') : Dst K B H' S := by
  obtain ⟨sc, ns, c, m, r, h1, h2, h3, h4⟩ := d
  exact ⟨sc, ns, c, m, r, e _ _ h1, h2, h3.trans (.of e), h4⟩
theorem Dst.has {K : PySem.W.Frag} {B H : Hp} {S : Addr} (d : Dst K B H S) : H S ≠ none := by
  obtain ⟨sc, ns, c, m, r, h1, _⟩ := d
  rw [h1]; exact fun z => nomatch z
theorem Dst.ne {K : PySem.W.Frag} {B H : Hp} {S p : Addr} (d : Dst K B H S) (h : H p = none) : p ≠ S := fun e => d.has (e ▸ h)
theorem Dst.fresh {K : PySem.W.Frag} {B H : Hp} {S p : Addr} (d : Dst K B H S) (h : H p = none) : B p = none := by
  have n := d.ne h
  obtain ⟨sc, ns, c, m, r, h1, h2, h3, h4⟩ := d
  cases e : B p with
  | none => rfl
  | some o => rw [h3 p o n e] at h; cases h
/-- a thing that B does not know changes -/
theorem Dst.mut {K : PySem.W.Frag} {B H : Hp} {S p : Addr} {o : HO} (d : Dst K B H S) (n : p ≠ S) (h : B p = none) : Dst K B (upd H p o) S := by
  obtain ⟨sc, ns, c, m, r, h1, h2, h3, h4⟩ := d
  refine ⟨sc, ns, c, m, r, ?_, h2, fun b u hb e => ?_, h4⟩
  · rw [upd_ne n.symm]; exact h1
  · rw [upd_ne (ne_of_none e h)]; exact h3 b u hb e
theorem Frm.mut {S p : Addr} {H H' : Hp} {o : HO} (f : Frm S H H') (h : H p = none) : Frm S H (upd H' p o) := fun b u n e => by
  rw [upd_ne (ne_of_none e h)]; exact f b u n e
theorem Frm.new {S p : Addr} {H : Hp} {o : HO} (h : H p = none) : Frm S H (upd H p o) := .of (same_new h)
theorem Frm.back {S p : Addr} {H H' : Hp} (f : Frm S H H') (n : p ≠ S) (h : H' p = none) : H p = none := by
  cases e : H p with
  | none => rfl
  | some o => rw [f p o n e] at h; cases h
theorem Same.back {H H' : Hp} {p : Addr} (f : Same H H') (h : H' p = none) : H p = none := by
  cases e : H p with
  | none => rfl
  | some o => rw [f p o e] at h; cases h
theorem Same.mut {H H' : Hp} {p : Addr} {o : HO} (f : Same H H') (h : H p = none) : Same H (upd H' p o) := fun b u e => by
  rw [upd_ne (ne_of_none e h)]; exact f b u e
theorem pow_small {i j : Int} (h0 : 0 ≤ j) (h1 : j ≤ 1000) (h2 : i.natAbs < 2 ^ 32) : CPow i j := ⟨h0, by omega, Nat.lt_trans h2 (by decide)⟩
theorem atI_mem {xs : List V} {z : Int} (h0 : 0 ≤ z) (h1 : z < xs.length) : ∃ x, x ∈ xs ∧ atI xs z = some x := by
  have hl : z.toNat < xs.length := by omega
  exact ⟨xs[z.toNat], List.getElem_mem hl, at_of (j := z.toNat) (by omega) (List.getElem?_eq_getElem hl)⟩
theorem map_at {ns : List Int} {i : Nat} {x : V} (h : (ns.map V.int)[i]? = some x) : ∃ n, ns[i]? = some n ∧ x = V.int n := by
  rw [List.getElem?_map] at h
  cases hq : ns[i]? with
  | none => rw [hq] at h; cases h
  | some z => rw [hq] at h; exact ⟨z, rfl, (Option.some.inj h).symm⟩
/-- what stands beside S -/
def Live (S : Addr) (H : Hp) (L : List (Addr × HO)) : Prop := ∀ p ∈ L, p.1 ≠ S ∧ H p.1 = some p.2
theorem Live.nil {S : Addr} {H : Hp} : Live S H [] := fun _ h => (List.not_mem_nil h).elim
theorem Live.frm {S : Addr} {H H' : Hp} {L : List (Addr × HO)} (l : Live S H L) (f : Frm S H H') : Live S H' L := fun p h => ⟨(l p h).1, f _ _ (l p h).1 (l p h).2⟩
theorem Live.cons {S : Addr} {H : Hp} {L : List (Addr × HO)} {a : Addr} {o : HO} (l : Live S H L) (n : a ≠ S) (h : H a = some o) : Live S H ((a, o) :: L) := fun p hp => by
  rcases List.mem_cons.mp hp with e | e
  · subst e; exact ⟨n, h⟩
  · exact l p e
theorem Live.get {S : Addr} {H : Hp} {L : List (Addr × HO)} (l : Live S H L) (i : Nat) {a : Addr} {o : HO} (h : L[i]? = some (a, o)) : H a = some o := (l _ (List.mem_of_getElem? h)).2
theorem Live.ne {S : Addr} {H : Hp} {L : List (Addr × HO)} (l : Live S H L) (i : Nat) {a : Addr} {o : HO} (h : L[i]? = some (a, o)) : a ≠ S := (l _ (List.mem_of_getElem? h)).1
/-- a new object is laid -/
theorem Live.new {S : Addr} {H : Hp} {L : List (Addr × HO)} {p : Addr} {o : HO} (l : Live S H L) (hp : H p = none) (hS : H S ≠ none) : Live S (upd H p o) ((p, o) :: L) :=
  (l.frm (.of (same_new hp))).cons (fun e => hS (e ▸ hp)) upd_same

/-! ### == of data -/
section
variable {K : PySem.W.Frag} {H : Hp} {Q : VK}
theorem dpAll_ints : ∀ ns : List Int, DpAll K H (ns.map V.int) (ns.map PyData.int)
  | [] => .nil
  | n :: ns => .cons (.int n) (dpAll_ints ns)
theorem dp_ints {a : Addr} {ns : List Int} (h : SqL K H a (ns.map V.int)) : Dp K H (.ref a) (.list (ns.map PyData.int)) := .lst h (dpAll_ints ns)
theorem eqvAll_ints : ∀ ns ms : List Int, PyData.eqvAll (ns.map PyData.int) (ms.map PyData.int) = decide (ns = ms)
  | [], [] => by simp [PyData.eqvAll]
  | [], _ :: _ => by simp [PyData.eqvAll]
  | _ :: _, [] => by simp [PyData.eqvAll]
  | n :: ns, m :: ms => by
    have ih := eqvAll_ints ns ms
    simp only [List.map_cons, PyData.eqvAll, ih, PyData.eqv]
    by_cases h1 : n = m <;> by_cases h2 : ns = ms <;> simp [h1, h2]
theorem eqv_ints (ns ms : List Int) : PyData.eqv (.list (ns.map PyData.int)) (.list (ms.map PyData.int)) = decide (ns = ms) := by
  rw [PyData.eqv]; exact eqvAll_ints ns ms
theorem g_eqLI {a b : Addr} {ns ms : List Int} (h1 : SqL K H a (ns.map V.int)) (h2 : SqL K H b (ms.map V.int)) (q : Q (.bl (decide (ns = ms))) H) : rEqD K (.ref a) (.ref b) H Q :=
  ⟨_, _, dp_ints h1, dp_ints h2, PySem.W.ke_shaped_ints ns, PySem.W.ke_shaped_ints ms, by rw [eqv_ints]; exact q⟩
theorem g_neLI {a b : Addr} {ns ms : List Int} (h1 : SqL K H a (ns.map V.int)) (h2 : SqL K H b (ms.map V.int)) (q : Q (.bl (!decide (ns = ms))) H) : rNeD K (.ref a) (.ref b) H Q :=
  ⟨_, _, dp_ints h1, dp_ints h2, PySem.W.ke_shaped_ints ns, PySem.W.ke_shaped_ints ms, by rw [eqv_ints]; exact q⟩
end
section
variable {σ : L2.St} {H : Hp}
/-- a while, by an invariant that bears its measure -/
theorem w_loop {a : L2.St → Hp → Prop} {b : VK} {c d : L2.St → Hp → Prop} {tc : TT} {tb : TS} (Pv : Nat → L2.St → Hp → Prop) (m0 : Nat) (h0 : Pv m0 σ H)
    (hs : ∀ m σ H, Pv m σ H → tc σ H fun b' H1 => if b' = true then ∃ N : L2.St → Hp → Prop, (∀ σ' H', N σ' H' → ∃ m', m' < m ∧ Pv m' σ' H') ∧ tb ⟨N, b, a, N⟩ σ H1 else a σ H1) : tWhile tc tb ⟨a, b, c, d⟩ σ H := ⟨Pv, ⟨m0, h0⟩, hs⟩
end
section
variable {K : PySem.W.Frag} {H : Hp} {Q : VK}
theorem g_slL {a : Addr} {xs : List V} {lo hi : Option Int} (h : SqL K H a xs) (q : ∀ p, H p = none → Q (.ref p) (upd H p (.lst (cutV xs lo hi)))) : rSlL K (.ref a) lo hi H Q := ⟨a, xs, rfl, h, q⟩
theorem cut1 (xs : List V) : cutV xs (some 1) none = xs.drop 1 := by
  unfold cutV
  rw [show (some (1 : Int)) = some ((1 : Nat) : Int) from rfl, HT.sIx_nat, HT.sIx_none]
  cases xs with
  | nil => rfl
  | cons x xs =>
    have e : min 1 (x :: xs).length = 1 := by simp
    rw [e]
    show List.take ((x :: xs).length - 1) xs = xs
    simp
end
theorem tup_same {K : PySem.W.Frag} {H H' : Hp} {a : Addr} {xs : List V} (e : Same H H') (h : SqT K H a xs) : SqT K H' a xs := by
  rcases h with (h | ⟨o, h⟩) | h
  · exact .inl (.inl (e _ _ h))
  · exact .inl (.inr ⟨o, e _ _ h⟩)
  · exact .inr h

/-! ### data: kinds, and as they stand later -/
section
variable {K : PySem.W.Frag} {H H' : Hp} {Q : VK} {σ : L2.St}
theorem ty_list {a : Addr} {xs : List V} (h : SqL K H a xs) : TyX K H (.ref a) (.type "list") := by
  rcases h with (h | ⟨o, h⟩) | h
  · exact .base (.lst h)
  · exact .base (.frz h)
  · obtain ⟨o, items, n, h1, h2, _⟩ := h
    exact .kList h1 h2
theorem ty_tup {a : Addr} {xs : List V} (h : SqT K H a xs) : TyX K H (.ref a) (.type "tuple") := by
  rcases h with (h | ⟨o, h⟩) | h
  · exact .base (.tup h)
  · exact .fTuple h
  · obtain ⟨o, items, n, h1, h2, _⟩ := h
    exact .kTuple h1 h2
theorem list_same {a : Addr} {xs : List V} (e : Same H H') (h : SqL K H a xs) : SqL K H' a xs := e.seq h
mutual
theorem Dp_same (e : Same H H') : ∀ (d : PyData) (v : V), Dp K H v d → Dp K H' v d
  | .none, _, h => by cases h; exact .non
  | .bool b, _, h => by cases h; exact .bl b
  | .int i, _, h => by cases h; exact .int i
  | .str x, _, h => by cases h; exact .str x
  | .list ds, _, h => by
    cases h with
    | lst hs ha => exact .lst (list_same e hs) (DpAll_same e ds _ ha)
  | .tuple ds, _, h => by
    cases h with
    | tup hs ha => exact .tup (tup_same e hs) (DpAll_same e ds _ ha)
  | .dict _, _, h => by cases h
theorem DpAll_same (e : Same H H') : ∀ (ds : List PyData) (vs : List V), DpAll K H vs ds → DpAll K H' vs ds
  | [], _, h => by cases h; exact .nil
  | d :: ds, _, h => by
    cases h with
    | cons h1 h2 => exact .cons (Dp_same e d _ h1) (DpAll_same e ds _ h2)
end
theorem DpAll.len : ∀ {vs : List V} {ds : List PyData}, DpAll K H vs ds → vs.length = ds.length
  | [], [], _ => rfl
  | _ :: _, _ :: _, .cons _ h => by rw [List.length_cons, List.length_cons, DpAll.len h]
theorem DpAll.at : ∀ {vs : List V} {ds : List PyData} {i : Nat} {d : PyData}, DpAll K H vs ds → ds[i]? = some d → ∃ v, vs[i]? = some v ∧ Dp K H v d
  | _, _, 0, d, .cons h _, e => by cases e; exact ⟨_, rfl, h⟩
  | _, _, i + 1, d, .cons _ h, e => DpAll.at (i := i) h e
/-- small data of the four flat kinds, lists and tuples, at most so deep -/
inductive OkD : Nat → PyData → Prop
  | non {n : Nat} : OkD n .none
  | bl {n : Nat} (b : Bool) : OkD n (.bool b)
  | int {n : Nat} (i : Int) : OkD n (.int i)
  | str {n : Nat} (x : Str) : OkD n (.str x)
  | lst {n : Nat} {ds : List PyData} : ds.length ≤ 100000 → (∀ d ∈ ds, OkD n d) → OkD (n + 1) (.list ds)
  | tup {n : Nat} {ds : List PyData} : ds.length ≤ 100000 → (∀ d ∈ ds, OkD n d) → OkD (n + 1) (.tuple ds)
theorem g_isiT {x : V} {tp : Addr} {cs : List V} {t : Value} {us : List Value} {b : Bool} (hT : H tp = some (.tup cs)) (hc : Paired ClsV cs us) (ty : TyX K H x t) (hk : PySem.W.kitAny K t us = some b) (q : Q (.bl b) H) : rIsiT K [x, .ref tp] H Q :=
  ⟨x, tp, cs, t, us, b, rfl, hT, hc, ty, hk, q⟩
/-- t is one of two built-in types, or none of them -/
theorem kit2 {t a b : String} {r1 r2 : Bool} (h1 : kitB t a = some r1) (h2 : kitB t b = some r2) : PySem.W.kitAny K (.type t) [.type a, .type b] = some (r1 || r2) := by
  refine kitAny_cons (kit_ty h1) (fun e => ?_) (fun e => by rw [e]; rfl)
  rw [e]
  exact kitAny_cons (kit_ty h2) (fun e2 => by rw [e2]; rfl) (fun e2 => by rw [e2]; rfl)
theorem g_isiB {x c : V} {tn cn : String} {b : Bool} (h1 : ClsV c (.type cn)) (h2 : TyX K H x (.type tn)) (h3 : kitB tn cn = some b) (q : Q (.bl b) H) : rIsi K [x, c] H Q := ⟨x, c, .type tn, .type cn, b, rfl, h1, h2, kit_ty h3, q⟩
def LcEnd (g : TG) (tt : TT) (te : TE) (vs : List Nat) (σ : L2.St) (Q : VK) (J : It) (H1 : Hp) : Prop := ∀ D, H1 D = none → ∃ W : Nat → Nat → Hp → Prop, (∃ m, W 0 m (upd H1 D (.lst []))) ∧ ∀ i m H, W i m H →
  (J.stop i H ∧ Q (.ref D) H) ∨ (J.go i H ∧ ∃ Nx : Hp → Prop, (∀ H', Nx H' → ∃ m', m' < m ∧ W (i + 1) m' H') ∧ ∀ x H', J.yld i H x H' → g x (wipe σ vs) H' fun σ2 H2 => wipe σ2 vs = wipe σ vs ∧ tt σ2 H2 fun b H3 =>
    if b = true then te σ2 H3 fun y H4 => ∃ acc, H4 D = some (.lst acc) ∧ acc.length < sizeLine ∧ Nx (upd H4 D (.lst (acc ++ [y]))) else Nx H3)
theorem g_lc {wi : TI} {g : TG} {tt : TT} {te : TE} {vs : List Nat} (h : wi σ H (LcEnd g tt te vs σ Q)) : tLc wi g tt te vs σ H Q := h
theorem g_yes {QB : Bool → Hp → Prop} (q : QB true H) : tYes σ H QB := q
theorem w_lcRange {g : TG} {tt : TT} {te : TE} {vs : List Nat} {n : Int} (h1 : -(2 ^ 62) ≤ n) (h2 : n < 2 ^ 62) (Pv : Addr → Nat → Hp → Prop) (h0 : ∀ D, H D = none → Pv D 0 (upd H D (.lst [])))
    (hs : ∀ D i H', H D = none → i < n.toNat → Pv D i H' → g (.int i) (wipe σ vs) H' fun σ2 H2 => wipe σ2 vs = wipe σ vs ∧ tt σ2 H2 fun b H3 =>
      if b = true then te σ2 H3 fun y H4 => ∃ acc, H4 D = some (.lst acc) ∧ acc.length < sizeLine ∧ Pv D (i + 1) (upd H4 D (.lst (acc ++ [y]))) else Pv D (i + 1) H3) (hd : ∀ D H', H D = none → Pv D n.toNat H' → Q (.ref D) H') :
    ∃ j : Int, [V.int n] = [.int j] ∧ -(2 ^ 62) ≤ j ∧ j < 2 ^ 62 ∧ LcEnd g tt te vs σ Q (Itr 0 j.toNat) H :=
  ⟨n, rfl, h1, h2, fun D hD => lc_range (Pv D) (h0 D hD) (fun i H' hi p => by have q := hs D i H' hD hi p; rw [Int.zero_add]; exact q) (fun H' p => hd D H' hD p)⟩
end

/-! ### tables of code objects beside the drawing -/
/-- H without its tables -/
def noT (H : Hp) : Hp := fun b => match H b with
  | some (.tbl _) => none
  | o => o
theorem noT_some {H : Hp} {b : Addr} {o : HO} (h : noT H b = some o) : H b = some o ∧ ∀ ps, o ≠ .tbl ps := by
  unfold noT at h
  split at h
  · cases h
  · rename_i n
    exact ⟨h, fun ps e => n ps (by rw [h, e])⟩
theorem noT_of {H : Hp} {b : Addr} {o : HO} (h : H b = some o) (n : ∀ ps, o ≠ .tbl ps) : noT H b = some o := by
  unfold noT
  split
  · rename_i ps e
    rw [h] at e
    exact absurd (Option.some.inj e) (n ps)
  · exact h
theorem noT_same (H : Hp) : Same (noT H) H := fun _ _ h => (noT_some h).1
theorem noT_list {K : PySem.W.Frag} {H : Hp} {a : Addr} {xs : List V} (h : SqL K H a xs) : SqL K (noT H) a xs := by
  rcases h with (h | ⟨o, h⟩) | h
  · exact .inl (.inl (noT_of h (fun _ z => nomatch z)))
  · exact .inl (.inr ⟨o, noT_of h (fun _ z => nomatch z)⟩)
  · exact .inr h
/-- all but S and the tables stays -/
theorem Dst.ext {K : PySem.W.Frag} {H0 H H' : Hp} {S : Addr} (d : Dst K (noT H0) H S) (e : LamX.ExtN H H') : Dst K (noT H0) H' S := by
  obtain ⟨sc, ns, c, m, r, h1, h2, h3, h4⟩ := d
  exact ⟨sc, ns, c, m, r, e _ _ h1 (fun _ z => nomatch z), h2, fun b o n h => e _ _ (h3 b o n h) (noT_some h).2, h4⟩
theorem tabs_frm {K : PySem.W.Frag} {B H H' : Hp} {S : Addr} {T : List (Addr × Str)} (t : LamX.Tabs T H) (d : Dst K B H S) (f : Frm S H H') : LamX.Tabs T H' := fun p hp => by
  obtain ⟨sc, ns, c, m, r, hS, _⟩ := d
  obtain ⟨ps, h1, h2, h3⟩ := t p hp
  refine ⟨ps, f _ _ (ne_of h1 hS (fun z => nomatch z)) h1, h2, fun pos cv hc => ?_⟩
  obtain ⟨c', e1, e2⟩ := h3 pos cv hc
  exact ⟨c', e1, f _ _ (ne_of e2 hS (fun z => nomatch z)) e2⟩
theorem tabs_same {H H' : Hp} {T : List (Addr × Str)} (t : LamX.Tabs T H) (e : Same H H') : LamX.Tabs T H' := t.ext e
section
variable {P : Program} {w : World} {K : PySem.W.Frag} {mg : Str → Option Value} {base : Heap}
/-- a def whose code object is told -/
theorem fn_code {k : Nat} {f : Addr} {name qual : Str} {params : Arguments} {body : List Stmt} {scope : Scope} {dV kV doc pm cdv ct oc : Value} {an od : Option Addr} {osl : Array (Option Value)} {N ps : List Str} {sp : Sp}
    (lk : K.lookup f = some ⟨oc, od, .func (PySem.W.fnOf name qual params body scope dV kV doc pm an cdv ct), osl⟩) (hcd : PySem.W.codeIn K cdv qual = true) (S : FnScope N ps scope) (len : ∀ vs H Q E, sp vs H Q E → vs.length = ps.length)
    (hbody : ∀ (A : Around) (outer : List Env) (s : Shared) (H : Hp) (vs : List V) (Q : VK) (E : XK), Room k (A.deeper (envOfC qual scope s.heap.objs.size f cdv)) → sp vs H Q E →
      ∃ t, PSs (cxOf C8.CX0 P w K mg base N qual scope f cdv A outer s H E).nox body t ∧ t { nx := fun _ H' => Q .non H', rt := Q } (L2.start N vs) H) :
    FnOk P w K mg base C8.CX0 (k + 1) f (PySem.W.fnOf name qual params body scope dV kV doc pm an cdv ct) ps sp :=
  fn_of lk hcd S len fun A outer s H vs Q E hr hsp => (hbody A outer s H vs Q E hr hsp).elim fun t h => ⟨t, h.1.nox, h.2⟩
end
theorem g_lam {T : List (Addr × Str)} {TT : (XK → Hp → VK → Prop) → Hp → VK → Prop} {t : XK → TE} {σ : L2.St} {H : Hp} {Q : VK} (h : LamX.Tabs T H) (q : ∀ H1, LamX.ExtN H H1 → LamX.Tabs T H1 → TT (fun E H' Q' => t E σ H' Q') H1 Q) : LamX.tLam T TT t σ H Q := ⟨h, q⟩
end Wd
local macro_rules | `(tactic| walk_at "go") => `(tactic| repeat (first
  | with_reducible refine Wd.g_seq ?_
  | ((with_reducible show L2.Ends.nx _ _ _); (with_reducible refine Wd.g_nx ?_))
  | with_reducible refine Wd.g_asg ?_
  | ((with_reducible refine' Wd.g_var ?h1 ?_); (case h1 => exact rfl))
  | with_reducible refine Wd.g_c ?_
  | with_reducible refine Wd.g_op ?_
  | with_reducible refine Wd.g_un ?_
  | with_reducible refine Wd.g_I0 ?_
  | with_reducible refine Wd.g_U ?_
  | with_reducible refine Wd.g_eqI ?_
  | with_reducible refine Wd.g_neI ?_
  | with_reducible refine Wd.g_eqS ?_
  | with_reducible refine Wd.g_neS ?_
  | with_reducible refine Wd.g_eqB ?_
  | with_reducible refine Wd.g_neB ?_
  | with_reducible refine Wd.g_isN ?_
  | with_reducible refine Wd.g_notN ?_
  | with_reducible refine Wd.g_lc ?_
  | with_reducible refine Wd.g_yes ?_
  | with_reducible refine Wd.g_test ?_
  | with_reducible refine Wd.g_tB ?_
  | with_reducible refine Wd.g_bl ?_
  | with_reducible refine Wd.g_blI ?_
  | with_reducible refine Wd.g_and ?_
  | with_reducible refine Wd.g_or ?_
  | with_reducible refine Wd.g_not ?_
  | with_reducible refine Wd.g_andV ?_
  | with_reducible refine Wd.g_orV ?_
  | with_reducible refine Wd.g_notV ?_
  | with_reducible refine Wd.g_if ?_
  | with_reducible refine Wd.g_chain ?_
  | with_reducible refine Wd.g_chain3 ?_
  | with_reducible refine Wd.g_nil ?_
  | with_reducible refine Wd.g_cons ?_
  | with_reducible refine Wd.g_tup ?_
  | with_reducible refine Wd.g_lst ?_
  | with_reducible refine Wd.g_CB ?_
  | with_reducible refine Wd.g_call ?_
  | with_reducible refine Wd.g_callS ?_
  | with_reducible refine Wd.g_bm ?_
  | with_reducible refine Wd.g_bm0 ?_
  | with_reducible refine Wd.g_sl ?_
  | with_reducible refine Wd.g_part ?_
  | with_reducible refine Wd.g_part1 ?_
  | with_reducible refine Wd.g_noPart ?_
  | with_reducible refine Wd.g_next ?_
  | with_reducible refine Wd.g_name ?_
  | with_reducible refine Wd.g_sub ?_
  | with_reducible refine Wd.g_gnil ?_
  | with_reducible refine Wd.g_gcons ?_
  | with_reducible refine Wd.g_drop ?_
  | with_reducible refine Wd.g_ret ?_
  | with_reducible refine Wd.g_retN ?_
  | with_reducible refine Wd.g_brk ?_
  | with_reducible refine Wd.g_cont ?_
  | with_reducible refine Wd.g_ifS ?_
  | ((with_reducible show L2.Ends.bk _ _ _); (with_reducible refine Wd.g_bk ?_))
  | ((with_reducible show L2.Ends.ct _ _ _); (with_reducible refine Wd.g_ct ?_))
  | ((with_reducible show L2.Ends.rt _ _ _); (with_reducible refine Wd.g_rt ?_))
  | with_reducible refine Wd.g_for ?_
  | with_reducible refine Wd.g_rng1 ?_
  | with_reducible refine Wd.g_rng2 ?_
  | with_reducible refine Wd.g_iList ?_
  | with_reducible refine Wd.g_iTup ?_
  | ((with_reducible refine Wd.g_fit ?h1 ?_); (case h1 => exact rfl))
  | with_reducible refine Wd.g_max2 ?_
  | with_reducible refine Wd.g_min2 ?_
  | with_reducible refine Wd.g_int1B ?_
  | with_reducible refine L2.iteT ?_
  | with_reducible refine L2.iteF ?_
  | ((with_reducible refine Wd.g_itT ?h1 ?_); (case h1 => exact rfl))
  | ((with_reducible refine Wd.g_itF ?h1 ?_); (case h1 => exact rfl))))
/-! Plans as data; tuples that are repeated, made of lists; lists within comprehensions. -/
namespace Wd
open PySem PySem.Spec PyProof.Rows L2

/-! ### t * k, k from 0 on -/
theorem mul_once (l : Addr) (items : Array Value) (n : Nat) (dd : Option Addr) (sl : Array (Option Value)) (u : Tok) :
    Meets (Builtin.«tuple.__mul__» ⟨[.ref l, .int 1 u], []⟩) (fun _ R s => s.heap.get? l = some { cls := .type "tuple", dict := dd, data := .seq items n, slots := sl } ∧ R (.ok (.ret (Value.ref l))) s) :=
  .of_wp fun prog w A R s h => by
    obtain ⟨hp, g, d, tk, os⟩ := s
    obtain ⟨hl, q⟩ := h
    have one := AutoSeq1.idx_int
    wp_walk using AutoSeq1.wpAny_loadPart' hl
    exact ⟨_, rfl, q⟩
theorem mul_none (l : Addr) (items : Array Value) (n : Nat) (dd : Option Addr) (sl : Array (Option Value)) (u : Tok) (h2 : items.isEmpty = false) :
    Meets (Builtin.«tuple.__mul__» ⟨[.ref l, .int 0 u], []⟩) (fun _ R s => s.heap.get? l = some { cls := .type "tuple", dict := dd, data := .seq items n, slots := sl } ∧
      R (.ok (.ret (Value.ref s.heap.objs.size))) { s with heap := s.heap.push { cls := Value.type "tuple", data := Data.seq #[] }, toks := s.toks }) :=
  .of_wp fun prog w A R s h => by
    obtain ⟨hp, g, d, tk, os⟩ := s
    obtain ⟨hl, q⟩ := h
    have one := AutoSeq1.idx_int
    wp_walk using AutoSeq1.wpAny_loadPart' hl
    exact ⟨_, rfl, q⟩
def rRepU (K : PySem.W.Frag) : R2 := fun x y H Q => ∃ (l : Addr) (k : Int) (xs : List V), x = .ref l ∧ y = .int k ∧ SqT K H l xs ∧ xs ≠ [] ∧ 0 ≤ k ∧ k ≤ 1000 ∧ xs.length ≤ 1000 ∧ (k = 1 → Q (.ref l) H) ∧
  (k ≠ 1 → ∀ p, H p = none → Q (.ref p) (upd H p (.tup (List.replicate k.toNat xs).flatten)))
section
variable {X : Cx}
theorem op_repU : OpR X (binaryOp .Mult) (rRepU X.K) := by
  intro pins s σ H x y v u Q I rx ry h
  obtain ⟨l, k, xs, rfl, rfl, hT, hne, h0, h1, hz, q1, q2⟩ := h
  by_cases c2 : 2 ≤ k
  · exact op_repT pins s σ H _ _ _ _ Q I rx ry ⟨l, k, xs, rfl, rfl, hT, hne, c2, h1, hz, q2 (by omega)⟩
  · cases rx
    obtain ⟨t, rfl⟩ := ry
    obtain ⟨its, r, ⟨⟨cls, dd, data, sl⟩, ho, hc, n, hd⟩, hs⟩ := I.tuple hT
    simp only at hc hd
    subst hc hd
    have c01 : k = 0 ∨ k = 1 := by omega
    rcases c01 with rfl | rfl
    · have hem : its.toArray.isEmpty = false := by
        cases r with
        | nil => exact absurd rfl hne
        | cons _ _ => rfl
      refine wpAny_binaryOp_repeat_ref (T := "tuple") (U := "int") (by decide) ⟨_, ho, rfl⟩ (fun s' => typeIs_int s' 0 t) noFill_tuple_mul F.fills_int_mul F.slot_int_rmul repeat_tuple F.slot_int_index.lookup (call_meets F.slot_int_rmul (typeIs_int s 0 t) F.entry_int_rmul (F.args_int_rmul_2 _ _)
        (int_rmul_tuple 0 t l its.toArray n dd sl) ⟨ho, rfl, ⟨_, ho, rfl⟩, call_meets F.slot_tuple_mul ⟨_, ho, rfl⟩ F.entry_tuple_mul (F.args_tuple_mul_2 _ _) (mul_none l its.toArray n dd sl t hem) ⟨ho, ?_⟩⟩)
      refine ⟨.ref s.heap.objs.size, _, I.laid (t' := s.toks) (o := .tup []) (fun b ob z => Heap.get?_push_of_some _ z) (Nat.le_refl _) ?_, rfl, q2 (by decide) _ (I.hok.fresh (Nat.le_refl _))⟩
      exact ⟨Nat.zero_le _, [], .nil, IsTup.new _ _⟩
    · refine wpAny_binaryOp_repeat_ref (T := "tuple") (U := "int") (by decide) ⟨_, ho, rfl⟩ (fun s' => typeIs_int s' 1 t) noFill_tuple_mul F.fills_int_mul F.slot_int_rmul repeat_tuple F.slot_int_index.lookup (call_meets F.slot_int_rmul (typeIs_int s 1 t) F.entry_int_rmul (F.args_int_rmul_2 _ _)
        (int_rmul_tuple 1 t l its.toArray n dd sl) ⟨ho, rfl, ⟨_, ho, rfl⟩, call_meets F.slot_tuple_mul ⟨_, ho, rfl⟩ F.entry_tuple_mul (F.args_tuple_mul_2 _ _) (mul_once l its.toArray n dd sl t) ⟨ho, ?_⟩⟩)
      exact ⟨.ref l, H, I, rfl, q1 rfl⟩
end

/-! ### more steps -/
def rTupOf (K : PySem.W.Frag) : List V → Hp → VK → Prop := fun xs H Q => ∃ p ys, xs = [.ref p] ∧ ((SqL K H p ys ∧ ∀ l, H l = none → Q (.ref l) (upd H l (.tup ys))) ∨ (SqT K H p ys ∧ Q (.ref p) H))
theorem call_tuple1 {X : Cx} : CallR X (.type "tuple") (rTupOf X.K) := call_tuple_of
section
variable {K : PySem.W.Frag} {H H' : Hp} {Q : VK} {σ : L2.St} {x : V}
theorem g_tupOf {p : Addr} {ys : List V} (h : SqL K H p ys) (q : ∀ l, H l = none → Q (.ref l) (upd H l (.tup ys))) : rTupOf K [.ref p] H Q := ⟨p, ys, rfl, .inl ⟨h, q⟩⟩
theorem g_inT {p : Addr} {xs : List V} (h : SqT K H p xs) (fx : flatV x = true) (fs : xs.all flatV = true) (q : Q (.bl (inV x xs)) H) : rIn K false x (.ref p) H Q := ⟨p, xs, rfl, .inr h, fx, fs, q⟩
theorem g_notInT {p : Addr} {xs : List V} (h : SqT K H p xs) (fx : flatV x = true) (fs : xs.all flatV = true) (q : Q (.bl (!inV x xs)) H) : rIn K true x (.ref p) H Q := ⟨p, xs, rfl, .inr h, fx, fs, q⟩
theorem g_sum {a : Addr} {ns : List Int} (h : SqL K H a (ns.map V.int)) (q : Q (.int ns.sum) H) : rSum K [.ref a] H Q := ⟨a, ns, rfl, h, q⟩
theorem g_pop {l : Addr} {xs : List V} {y : V} (h : H l = some (.lst xs)) (hy : xs[xs.length - 1]? = some y) (q : Q y (upd H l (.lst xs.dropLast))) : rPop (.ref l) [] H Q := ⟨l, xs, y, rfl, rfl, h, hy, q⟩
theorem w_lcTup {g : TG} {tt : TT} {te : TE} {vs : List Nat} {p : Addr} {xs : List V} (hp : SqT K H p xs) (Pv : Addr → Nat → Hp → Prop) (h0 : ∀ D, H D = none → Pv D 0 (upd H D (.lst []))) (hl : ∀ D i H', H D = none → i ≤ xs.length → Pv D i H' → SqT K H' p xs)
    (hs : ∀ D i y H', H D = none → xs[i]? = some y → Pv D i H' → g y (wipe σ vs) H' fun σ2 H2 => wipe σ2 vs = wipe σ vs ∧ tt σ2 H2 fun b H3 =>
      if b = true then te σ2 H3 fun y H4 => ∃ acc, H4 D = some (.lst acc) ∧ acc.length < sizeLine ∧ Pv D (i + 1) (upd H4 D (.lst (acc ++ [y]))) else Pv D (i + 1) H3) (hd : ∀ D H', H D = none → Pv D xs.length H' → Q (.ref D) H') :
    ∃ q, V.ref p = .ref q ∧ (∃ xs, SqT K H q xs) ∧ LcEnd g tt te vs σ Q (Itt K q) H :=
  ⟨p, rfl, ⟨xs, hp⟩, fun D hD => lc_tup (Pv D) (h0 D hD) (fun i H' hi q => hl D i H' hD hi q) (fun i y H' hy q => hs D i y H' hD hy q) (fun H' q => hd D H' hD q)⟩
/-- the end of a comprehension's turn -/
theorem g_lcput {D : Addr} {acc : List V} {y : V} {N : Hp → Prop} (h : H D = some (.lst acc)) (hl : acc.length < 100000) (q : N (upd H D (.lst (acc ++ [y])))) : ∃ acc, H D = some (.lst acc) ∧ acc.length < sizeLine ∧ N (upd H D (.lst (acc ++ [y]))) := ⟨acc, h, Nat.lt_of_lt_of_le hl (by decide), q⟩
end

/-! ### plans -/
inductive Pl where
  | pat
  | work (a b : Int)
  | row (ps : List Pl)
  | either (ps : List Pl)
  | loop (a b : Int) (p : Pl)
/-- tuples stay -/
def KeepT (H H' : Hp) : Prop := ∀ b xs, H b = some (.tup xs) → H' b = some (.tup xs)
theorem KeepT.refl (H : Hp) : KeepT H H := fun _ _ h => h
theorem KeepT.trans {H H1 H2 : Hp} (a : KeepT H H1) (b : KeepT H1 H2) : KeepT H H2 := fun c xs h => b c xs (a c xs h)
theorem keepT_same {H H' : Hp} (e : Same H H') : KeepT H H' := fun b xs h => e b _ h
theorem keepT_new {H : Hp} {p : Addr} {o : HO} (h : H p = none) : KeepT H (upd H p o) := keepT_same (same_new h)
theorem keepT_lst {H : Hp} {p : Addr} {o : HO} {xs : List V} (h : H p = some (.lst xs)) : KeepT H (upd H p o) := fun b ys e => by rw [upd_ne (ne_of e h (fun z => nomatch z))]; exact e
theorem keepT_frm {K : PySem.W.Frag} {B H H' : Hp} {S : Addr} (d : Dst K B H S) (f : Frm S H H') : KeepT H H' := fun b xs h => by
  obtain ⟨sc, ns, c, m, r, hS, _⟩ := d
  exact f b _ (ne_of h hS (fun z => nomatch z)) h
mutual
inductive PlA (H : Hp) : V → Pl → Prop
  | pat {a : Addr} : H a = some (.tup [.str "pat"]) → PlA H (.ref a) .pat
  | work {a : Addr} {x y : Int} : H a = some (.tup [.str "work", .int x, .int y]) → PlA H (.ref a) (.work x y)
  | row {a b : Addr} {vs : List V} {ps : List Pl} : H a = some (.tup [.str "row", .ref b]) → H b = some (.tup vs) → PlAs H vs ps → PlA H (.ref a) (.row ps)
  | either {a b : Addr} {vs : List V} {ps : List Pl} : H a = some (.tup [.str "either", .ref b]) → H b = some (.tup vs) → PlAs H vs ps → PlA H (.ref a) (.either ps)
  | loop {a : Addr} {x y : Int} {u : V} {p : Pl} : H a = some (.tup [.str "loop", .int x, .int y, u]) → PlA H u p → PlA H (.ref a) (.loop x y p)
inductive PlAs (H : Hp) : List V → List Pl → Prop
  | nil : PlAs H [] []
  | cons {v : V} {vs : List V} {p : Pl} {ps : List Pl} : PlA H v p → PlAs H vs ps → PlAs H (v :: vs) (p :: ps)
end
mutual
theorem PlA_keep {H H' : Hp} (e : KeepT H H') : ∀ (p : Pl) (v : V), PlA H v p → PlA H' v p
  | .pat, _, h => by cases h with | pat h => exact .pat (e _ _ h)
  | .work _ _, _, h => by cases h with | work h => exact .work (e _ _ h)
  | .row ps, _, h => by cases h with | row h1 h2 h3 => exact .row (e _ _ h1) (e _ _ h2) (PlAs_keep e ps _ h3)
  | .either ps, _, h => by cases h with | either h1 h2 h3 => exact .either (e _ _ h1) (e _ _ h2) (PlAs_keep e ps _ h3)
  | .loop _ _ p, _, h => by cases h with | loop h1 h2 => exact .loop (e _ _ h1) (PlA_keep e p _ h2)
theorem PlAs_keep {H H' : Hp} (e : KeepT H H') : ∀ (ps : List Pl) (vs : List V), PlAs H vs ps → PlAs H' vs ps
  | [], _, h => by cases h; exact .nil
  | p :: ps, _, h => by cases h with | cons h1 h2 => exact .cons (PlA_keep e p _ h1) (PlAs_keep e ps _ h2)
end
theorem PlAs.len {H : Hp} : ∀ {vs : List V} {ps : List Pl}, PlAs H vs ps → vs.length = ps.length
  | [], [], _ => rfl
  | _ :: _, _ :: _, .cons _ h => by rw [List.length_cons, List.length_cons, PlAs.len h]
theorem PlAs.at {H : Hp} : ∀ {vs : List V} {ps : List Pl} {i : Nat} {v : V}, PlAs H vs ps → vs[i]? = some v → ∃ p, ps[i]? = some p ∧ PlA H v p
  | _, _, 0, _, .cons h _, e => by cases e; exact ⟨_, rfl, h⟩
  | _, _, i + 1, _, .cons _ h, e => PlAs.at (i := i) h e
theorem PlAs.snoc {H : Hp} : ∀ {vs : List V} {ps : List Pl} {v : V} {p : Pl}, PlAs H vs ps → PlA H v p → PlAs H (vs ++ [v]) (ps ++ [p])
  | _, _, _, _, .nil, h => .cons h .nil
  | _, _, _, _, .cons a b, h => .cons a (PlAs.snoc b h)
theorem PlAs.rep {H : Hp} {v : V} {p : Pl} (h : PlA H v p) : ∀ n : Nat, PlAs H (List.replicate n [v]).flatten (List.replicate n p)
  | 0 => .nil
  | n + 1 => .cons h (PlAs.rep h n)
mutual
/-- how many tuples are plans; how deep; how many loops within one another; its bounds as they should be -/
def cnt : Pl → Nat
  | .pat => 1
  | .work _ _ => 1
  | .row ps => 1 + cnts ps
  | .either ps => 1 + cnts ps
  | .loop _ _ p => 1 + cnt p
def cnts : List Pl → Nat
  | [] => 0
  | p :: ps => cnt p + cnts ps
end
mutual
def okP : Nat → Nat → Pl → Prop
  | _, _, .pat => True
  | _, _, .work a b => 0 ≤ a ∧ a ≤ b ∧ b ≤ 1000
  | 0, _, .row _ => False
  | d + 1, l, .row ps => 0 < ps.length ∧ ps.length ≤ 20 ∧ okPs d l ps
  | 0, _, .either _ => False
  | d + 1, l, .either ps => 0 < ps.length ∧ ps.length ≤ 20 ∧ okPs d l ps
  | 0, _, .loop _ _ _ => False
  | _ + 1, 0, .loop _ _ _ => False
  | d + 1, l + 1, .loop a b p => 0 ≤ a ∧ a ≤ b ∧ b ≤ 9 ∧ okP d l p
def okPs : Nat → Nat → List Pl → Prop
  | _, _, [] => True
  | d, l, p :: ps => okP d l p ∧ okPs d l ps
end
theorem okPs_at {d l : Nat} : ∀ {ps : List Pl} {i : Nat} {p : Pl}, okPs d l ps → ps[i]? = some p → okP d l p
  | _ :: _, 0, _, h, e => by cases e; exact h.1
  | _ :: ps, i + 1, _, h, e => okPs_at (ps := ps) (i := i) h.2 e
theorem okPs_snoc {d l : Nat} : ∀ {ps : List Pl} {p : Pl}, okPs d l ps → okP d l p → okPs d l (ps ++ [p])
  | [], _, _, h => ⟨h, trivial⟩
  | _ :: ps, _, h1, h => ⟨h1.1, okPs_snoc h1.2 h⟩
theorem okPs_rep {d l : Nat} {p : Pl} (h : okP d l p) : ∀ n : Nat, okPs d l (List.replicate n p)
  | 0 => trivial
  | n + 1 => ⟨h, okPs_rep h n⟩
theorem cnt_pos : ∀ p : Pl, 1 ≤ cnt p
  | .pat => Nat.le_refl 1
  | .work _ _ => Nat.le_refl 1
  | .row _ => Nat.le_add_right 1 _
  | .either _ => Nat.le_add_right 1 _
  | .loop _ _ _ => Nat.le_add_right 1 _
theorem small_lt {n : Nat} (h : n < 100000) : n < sizeLine := Nat.lt_of_lt_of_le h (by decide)
end Wd
/-! zip; comprehensions over lists. -/
namespace Wd
open PySem PySem.Spec PyProof.Rows L2
section
variable {σ : L2.St} {H : Hp} {Q : VK} {K : PySem.W.Frag}
theorem w_zip {a : L2.St → Hp → Prop} {b : VK} {g : TG} {tb : TS} {p r : Addr} {xs ys : List V} (hl : xs.length = ys.length) (Pv : Nat → L2.St → Hp → Prop) (h0 : Pv 0 σ H) (hq : ∀ i σ H, Pv i σ H → SqL K H p xs ∧ SqL K H r ys)
    (hs : ∀ i x y T σ H, xs[i]? = some x → ys[i]? = some y → Pv i σ H → H T = none → g (.ref T) σ (upd H T (.tup [x, y])) fun σ2 H2 => tb ⟨Pv (i + 1), b, a, Pv (i + 1)⟩ σ2 H2) (hd : ∀ σ H, Pv xs.length σ H → a σ H) :
    ∃ a' b' xs ys, [V.ref p, .ref r] = [V.ref a', .ref b'] ∧ SqL K H a' xs ∧ SqL K H b' ys ∧ ForEnd g tb a b σ (Itz K a' b') H :=
  ⟨p, r, xs, ys, rfl, (hq 0 σ H h0).1, (hq 0 σ H h0).2, RZ.for_zipL (D := ⟨a, b, fun _ _ => False, fun _ _ => False⟩) hl Pv h0 hq hs hd⟩
theorem w_lcZip {g : TG} {tt : TT} {te : TE} {vs : List Nat} {p r : Addr} {xs ys : List V} (hl : xs.length = ys.length) (hp : SqL K H p xs) (hr : SqL K H r ys) (Pv : Addr → Nat → Hp → Prop) (h0 : ∀ D, H D = none → Pv D 0 (upd H D (.lst [])))
    (hq : ∀ D i H', H D = none → Pv D i H' → SqL K H' p xs ∧ SqL K H' r ys)
    (hs : ∀ D i x y T H', H D = none → xs[i]? = some x → ys[i]? = some y → Pv D i H' → H' T = none → g (.ref T) (wipe σ vs) (upd H' T (.tup [x, y])) fun σ2 H2 => wipe σ2 vs = wipe σ vs ∧ tt σ2 H2 fun b H3 =>
      if b = true then te σ2 H3 fun y H4 => ∃ acc, H4 D = some (.lst acc) ∧ acc.length < sizeLine ∧ Pv D (i + 1) (upd H4 D (.lst (acc ++ [y]))) else Pv D (i + 1) H3) (hd : ∀ D H', H D = none → Pv D xs.length H' → Q (.ref D) H') :
    ∃ a' b' xs ys, [V.ref p, .ref r] = [V.ref a', .ref b'] ∧ SqL K H a' xs ∧ SqL K H b' ys ∧ LcEnd g tt te vs σ Q (Itz K a' b') H := by
  refine ⟨p, r, xs, ys, rfl, hp, hr, fun D hD => ?_⟩
  refine ⟨fun i m H' => m = xs.length - i ∧ i ≤ xs.length ∧ Pv D i H', ⟨xs.length, by simp, Nat.zero_le _, h0 D hD⟩, ?_⟩
  rintro i m H' ⟨rfl, hi, pv⟩
  obtain ⟨qx, qy⟩ := hq D i H' hD pv
  by_cases hlt : i < xs.length
  · have hx : xs[i]? = some xs[i] := List.getElem?_eq_getElem hlt
    have hlt2 : i < ys.length := by omega
    have hy : ys[i]? = some ys[i] := List.getElem?_eq_getElem hlt2
    refine .inr ⟨⟨xs, ys, _, _, qx, qy, hx, hy⟩, Pv D (i + 1), fun H' p' => ⟨xs.length - (i + 1), by omega, rfl, hlt, p'⟩, fun v H'' y => ?_⟩
    obtain ⟨T, x', y', rfl, hT, rfl, f1, f2⟩ := y
    exact hs D i x' y' T H' hD (f1 xs qx) (f2 ys qy) pv hT
  · have e : i = xs.length := by omega
    subst e
    exact .inl ⟨⟨xs, ys, qx, qy, Or.inl (Nat.le_refl _)⟩, hd D H' hD pv⟩
theorem w_lcList {g : TG} {tt : TT} {te : TE} {vs : List Nat} {p : Addr} {xs : List V} (hp : SqL K H p xs) (Pv : Addr → Nat → Hp → Prop) (h0 : ∀ D, H D = none → Pv D 0 (upd H D (.lst []))) (hl : ∀ D i H', H D = none → i ≤ xs.length → Pv D i H' → SqL K H' p xs)
    (hs : ∀ D i y H', H D = none → xs[i]? = some y → Pv D i H' → g y (wipe σ vs) H' fun σ2 H2 => wipe σ2 vs = wipe σ vs ∧ tt σ2 H2 fun b H3 =>
      if b = true then te σ2 H3 fun y H4 => ∃ acc, H4 D = some (.lst acc) ∧ acc.length < sizeLine ∧ Pv D (i + 1) (upd H4 D (.lst (acc ++ [y]))) else Pv D (i + 1) H3) (hd : ∀ D H', H D = none → Pv D xs.length H' → Q (.ref D) H') :
    ∃ q, V.ref p = .ref q ∧ (∃ xs, SqL K H q xs) ∧ LcEnd g tt te vs σ Q (Itl K q) H :=
  ⟨p, rfl, ⟨xs, hp⟩, fun D hD => lc_list (Pv D) (h0 D hD) (fun i H' hi q => hl D i H' hD hi q) (fun i y H' hy q => hs D i y H' hD hy q) (fun H' q => hd D H' hD q)⟩
theorem g_zip {ta : TA} {R : It → Hp → Prop} (h : ta σ H fun vs H1 => ∃ a b xs ys, vs = [.ref a, .ref b] ∧ SqL K H1 a xs ∧ SqL K H1 b ys ∧ R (Itz K a b) H1) : iZip K ta σ H R := h
end
end Wd
/-! sorted of data; self.a, self.b = .. -/
namespace Wd
open PySem PySem.Spec PyProof.Rows L2
def rSortD (K : PySem.W.Frag) : List V → Hp → VK → Prop := fun vs H Q => ∃ (a : Addr) (ps : List (V × PyData)), vs = [.ref a] ∧ SqL K H a (ps.map (·.1)) ∧ (∀ p ∈ ps, Dp K H p.1 p.2) ∧ PySem.W.AllAlike (ps.map (·.2)) ∧ PySem.W.Sortable (ps.map (·.2)) ∧ (∀ p ∈ ps, p.2.depth ≤ 10) ∧
  ∀ p, H p = none → Q (.ref p) (upd H p (.lst ((ps.mergeSort (PySem.W.dataLe false (·.2))).map (·.1))))
theorem each_vals : ∀ {ps : List (V × PyData)} {us : List Value}, Vals (ps.map (·.1)) us → PySem.W.EachIs (fun v (b : V × PyData) => RelV b.1 v) us ps
  | [], _, .nil => .nil
  | p :: ps, _, .cons r t => .cons r (each_vals t)
theorem vals_each : ∀ {ps : List (V × PyData)} {us : List Value}, PySem.W.EachIs (fun v (b : V × PyData) => RelV b.1 v) us ps → Vals (ps.map (·.1)) us
  | [], _, .nil => .nil
  | p :: ps, _, .cons r t => .cons r (vals_each t)
theorem each_reads {X : Cx} {pins : List (Addr × Obj)} {σ : L2.St} {H : Hp} {s : Shared} (I : Inv X pins σ H s) : ∀ {ps : List (V × PyData)} {us : List Value}, (∀ p ∈ ps, Dp X.K H p.1 p.2) → Vals (ps.map (·.1)) us → PySem.W.EachIs (fun v (b : V × PyData) => ∃ as, Reads s.heap v b.2 as) us ps
  | [], _, _, .nil => .nil
  | p :: ps, _, h, .cons r t => .cons (Dp.reads I p.2 p.1 _ (h p List.mem_cons_self) r) (each_reads I (fun y hy => h y (List.mem_cons_of_mem _ hy)) t)
section
variable {X : Cx}
theorem cr_sortedD (hu : X.A.units + 64 < cLine) : CallR X (.builtin "sorted") (rSortD X.K) := by
  intro pins s σ H vs us Q I r h
  obtain ⟨a, ps, rfl, hs, hd, hal, hk, hdep, q⟩ := h
  obtain ⟨its, rv, hl, hz⟩ := I.list hs
  obtain ⟨u, rfl, ru⟩ := vals1 r
  obtain rfl : u = Value.ref a := ru
  have hlen : ps.length ≤ sizeLine := by rw [List.length_map] at hz; exact hz
  refine PySem.W.sorted_data (vs := its) (bs := ps) (enc := (·.2)) (R := fun v b => RelV b.1 v) hl.isList (each_vals rv) (each_reads I hd rv) hal hk hlen (fun b hb => by have := hdep b hb; omega) fun out ho hout => ?_
  obtain ⟨n, hn⟩ := sortedAll_at s.heap its out.toArray
  have hv := vals_each hout
  refine ⟨.ref (s.heap.objs.size + 1), _, I.laid (t' := s.toks) (fun b o z => sortedAll_old z) (Nat.le_succ _) (o := .lst ((ps.mergeSort (PySem.W.dataLe false (·.2))).map (·.1))) ⟨?_, out, n, hv, hn⟩, rfl, q _ (I.hok.fresh (Nat.le_succ _))⟩
  rw [List.length_map, List.length_mergeSort]
  exact hlen
theorem pe_fldK {K : PySem.W.Frag} {e : Expr} {f : Str} {pos : Pos} {ta : TE} (hK : X.K = K) (he : PE X e ta) (hb : attributeBase e f X.env (eval e X.env) = eval e X.env) : PE X (.Attribute e f pos) (tFld K ta f) := by
  subst hK; exact pe_fld he hb
/-- an attribute as a target -/
def gAtt (K : PySem.W.Frag) (to : TE) (f : Str) : TG := fun y σ H Q => to σ H fun x H2 => ∃ a C dx fs, x = .ref a ∧ H2 a = some (.ins C dx fs) ∧ Cls K C ∧ NoAttr K C f ∧ fs.length < 1000 ∧ Q σ (upd H2 a (.ins C dx (putF f y fs)))
theorem pg_att {o : Expr} {f : Str} {pos : Pos} {to : TE} (ho : PE X o to)
    (ha : ∀ v, assign (.Attribute o f pos) X.env v = (do
      let ov ← holding [v] (eval o X.env)
      standAt pos.atName
      holding [v, ov] (setAttr ov f v)
      release [v, ov] []) := by intro _; rfl) : PG X (.Attribute o f pos) (gAtt X.K to f) := by
  refine ⟨fun pins s σ H v u Q I r h => ?_⟩
  rw [ha]
  refine wpAny_bind (wpAny_holding (thn (ho.run pins s σ H _ I h) fun ov s1 ⟨x, H1, I1, rx, a, C, dx, fs, ex, ea, c, n, l, q⟩ => ?_))
  subst ex
  obtain rfl : ov = Value.ref a := rx
  refine wpAny_bind (wpAny_standAt (wpAny_bind (wpAny_holding (setattr_ok I1 ea c n l r fun s2 I2 => ?_))))
  exact wpAny_release ⟨σ, _, I2, q⟩
end
end Wd
/-! Lambdas that stand in the heap: kept in lists, called from a comprehension; a parameter with a default. -/
namespace LamY
open PySem PySem.Spec PySem.Calls PyProof.Rows L2 LamX
/-- the object at f is a lambda, its defaults dV, its code at c' -/
def LamO (f : Addr) (q : Str) (params : Arguments) (body : Expr) (scope : Scope) (cl : List (Str × Addr)) (dV : Value) (c' : Addr) : HO :=
  .ext fun h => ∃ doc pm ctv : Value, h.get? f = some (PySem.W.kdv_obj "<lambda>" q params (.expr body) scope cl dV doc pm c' ctv)
theorem lamO_ne {f : Addr} {q : Str} {params : Arguments} {body : Expr} {scope : Scope} {cl : List (Str × Addr)} {dV : Value} {c' : Addr} (ps : Array Value) : LamO f q params body scope cl dV c' ≠ .tbl ps := fun z => by
  unfold LamO at z; cases z
section
variable {X : Cx} {pins : List (Addr × Obj)} {σ : L2.St} {H : Hp} {s : Shared}
/-- a code object more in the table -/
theorem tabs_more {T : List (Addr × Str)} {P c' : Addr} {q : Str} {ps : Array Value} {pos : Pos} (hT : Tabs T H) (hu : ∀ p ∈ T, p.1 = P → p.2 = q) (hP : H P = some (.tbl ps)) (ht : TriplesOk ps.toList)
    (ha : ∀ (p' : Pos) (cv : Value), codeAmong p' ps.toList = some cv → ∃ c, cv = .ref c ∧ H c = some (CodeO c q)) (nC : H c' = none) :
    ExtN H (upd (upd H P (.tbl (ps ++ #[rawInt pos.line, rawInt pos.col, .ref c']))) c' (CodeO c' q)) ∧ Tabs T (upd (upd H P (.tbl (ps ++ #[rawInt pos.line, rawInt pos.col, .ref c']))) c' (CodeO c' q)) := by
  generalize hpn : ps ++ #[rawInt pos.line, rawInt pos.col, .ref c'] = pn
  have X1 : ExtN H (upd (upd H P (.tbl pn)) c' (CodeO c' q)) := fun b o e n => by
    have b1 : b ≠ c' := ne_of_none e nC
    have b2 : b ≠ P := fun z => by subst z; rw [hP] at e; exact n ps (Option.some.inj e).symm
    rw [upd_ne b1, upd_ne b2]; exact e
  refine ⟨X1, fun p hp => ?_⟩
  by_cases hb : p.1 = P
  · have el : pn.toList = ps.toList ++ [rawInt pos.line, rawInt pos.col, .ref c'] := by rw [← hpn]; simp
    rw [hu p hp hb, hb]
    refine ⟨pn, ?_, ?_, fun p' cv hcv => ?_⟩
    · rw [upd_ne (ne_of_none hP nC)]; exact upd_same
    · rw [el]; exact TriplesOk_snoc _ _ _ _ ht
    · rw [el] at hcv
      rcases among_app _ ht hcv with z | z
      · exact (ha p' cv z).elim fun c0 e => ⟨c0, e.1, X1 _ _ e.2 codeO_ne⟩
      · exact ⟨c', z, upd_same⟩
  · obtain ⟨qs, a1, a2, a3⟩ := hT p hp
    refine ⟨qs, ?_, a2, fun p' cv hcv => (a3 p' cv hcv).elim fun c0 e => ⟨c0, e.1, X1 _ _ e.2 codeO_ne⟩⟩
    rw [upd_ne (ne_of_none a1 nC), upd_ne hb]; exact a1
/-- the lambda is made, and stands -/
theorem make_lam {T : List (Addr × Str)} {c P : Addr} {params : Arguments} {body : Expr} {scope : Scope} {pos : Pos} {dV : Value} {E Q : Value → Shared → Prop}
    (I : Inv X pins σ H s) (TB : TabB X.base X.mg c P) (hcode : X.env.code = .ref c) (hm : (P, X.env.qual ++ "<lambda>") ∈ T) (hu : ∀ p ∈ T, p.1 = P → p.2 = X.env.qual ++ "<lambda>") (hT : Tabs T H)
    (hfree : ∀ y ∈ scope.names, y.2 = .free → ∃ c, X.env.cells.lookup y.1 = some c)
    (h : ∀ (f c' : Addr) (H1 : Hp) (s' : Shared), Inv X pins σ (upd H1 f (LamO f (X.env.qual ++ "<lambda>") params body scope (cloFrom X.env.cells scope.names []) dV c')) s' → ExtN H H1 → Tabs T H1 → H1 f = none →
      H1 c' = some (CodeO c' (X.env.qual ++ "<lambda>")) → Q (.ref f) s') :
    wpAny (model X.prog X.w) X.A (makeTail "<lambda>" (X.env.qual ++ "<lambda>") params (.expr body) scope X.env dV .none none pos pos.line) Q E s := by
  obtain ⟨ps, hP, ht, ha⟩ := hT _ hm
  have bP : s.heap.BuiltinsAt X.mg P := TB.bm.keeps I.bk
  have gP : s.heap.get? P = some { cls := .none, data := .fields ps } := I.hok P _ hP
  have gN := I.mod.glob.keeps I.bk
  have cH := TB.code.keeps I.bk
  cases hc : codeAmong pos ps.toList with
  | some cv =>
    obtain ⟨c', e, hco⟩ := ha pos cv hc
    subst e
    refine PySem.W.kdv_makeTailHit (mg := X.mg) (P := P) (ps := ps) (closure_ok hfree) I.ok.glob gN hcode cH gP ht hc bP fun ctv doc h' tk hx hsz => ?_
    have I1 : Inv X pins σ H { s with heap := h', toks := tk } := I.kept hx
    have nf : H h'.objs.size = none := I.hok.fresh hsz
    have I2 := I1.laid (t' := tk) (o := LamO h'.objs.size (X.env.qual ++ "<lambda>") params body scope (cloFrom X.env.cells scope.names []) dV c') (fun b o e => Heap.get?_push_of_some (PySem.W.kdv_obj "<lambda>" (X.env.qual ++ "<lambda>") params (.expr body) scope (cloFrom X.env.cells scope.names []) dV doc ((X.mg "__name__").getD .none) c' ctv) e) (Nat.le_refl _)
      ⟨⟨doc, _, ctv, Heap.get?_push_size _ rfl⟩, ⟨_, Heap.get?_push_size _ rfl⟩, fun h1 h2 ⟨a, b, c, e⟩ k => ⟨a, b, c, k _ e⟩⟩
    exact h _ c' H _ I2 (ExtN.refl H) hT nf hco
  | none =>
    refine PySem.W.kdv_makeTail (mg := X.mg) (P := P) (ps := ps) (closure_ok hfree) I.ok.glob gN hcode cH gP ht hc TB.gP bP fun c' ctv doc h' tk hx hge hlt hrec htb => ?_
    obtain ⟨c2, oc, vs, t, e2, hoc, hd, hv⟩ := hrec
    cases e2
    have nC : H c' = none := I.hok.fresh hge
    have I1 := inv_table (t' := tk) (more := #[rawInt pos.line, rawInt pos.col, .ref c']) (h' := h') I hP (fun b o hb e => hx b o hb e) htb hge ⟨oc, vs, t, hoc, hd, hv⟩
    obtain ⟨x1, t1⟩ := tabs_more (pos := pos) hT hu hP ht ha nC
    have hco := upd_same (H := upd H P (.tbl (ps ++ #[rawInt pos.line, rawInt pos.col, .ref c']))) (a := c') (o := CodeO c' (X.env.qual ++ "<lambda>"))
    generalize upd (upd H P (.tbl (ps ++ #[rawInt pos.line, rawInt pos.col, .ref c']))) c' (CodeO c' (X.env.qual ++ "<lambda>")) = H1 at I1 x1 t1 hco
    have I2 := I1.laid (t' := tk) (o := LamO h'.objs.size (X.env.qual ++ "<lambda>") params body scope (cloFrom X.env.cells scope.names []) dV c') (fun b o e => Heap.get?_push_of_some (PySem.W.kdv_obj "<lambda>" (X.env.qual ++ "<lambda>") params (.expr body) scope (cloFrom X.env.cells scope.names []) dV doc ((X.mg "__name__").getD .none) c' ctv) e) (Nat.le_refl _)
      ⟨⟨doc, _, ctv, Heap.get?_push_size _ rfl⟩, ⟨_, Heap.get?_push_size _ rfl⟩, fun h1 h2 ⟨a, b, c, e⟩ k => ⟨a, b, c, k _ e⟩⟩
    exact h _ c' H1 _ I2 x1 t1 (I1.hok.fresh (Nat.le_refl _)) hco
def tLamS (T : List (Addr × Str)) (q : Str) (params : Arguments) (body : Expr) (scope : Scope) (cl : List (Str × Addr)) : TE := fun _ H Q => Tabs T H ∧ ∀ (H1 : Hp) (f c' : Addr), ExtN H H1 → Tabs T H1 → H1 f = none → H1 c' = some (CodeO c' q) →
  Q (.ref f) (upd H1 f (LamO f q params body scope cl .none c'))
/-- lambda: body, as a value -/
theorem pe_lamS {T : List (Addr × Str)} {c P : Addr} {params : Arguments} {body : Expr} {scope : Scope} {pos : Pos} (TB : TabB X.base X.mg c P) (hcode : X.env.code = .ref c) (hm : (P, X.env.qual ++ "<lambda>") ∈ T) (hu : ∀ p ∈ T, p.1 = P → p.2 = X.env.qual ++ "<lambda>")
    (hfree : ∀ y ∈ scope.names, y.2 = .free → X.env.scope.names.lookup y.1 = some .cell ∨ X.env.scope.names.lookup y.1 = some .free) (hdef : defaultsOf params X.env = ([], [])) :
    PE X (.Lambda params body scope pos) (tLamS T (X.env.qual ++ "<lambda>") params body scope (cloFrom X.env.cells scope.names [])) := by
  refine ⟨fun pins s σ H Q I h => PySem.W.kla_eval hdef ?_⟩
  rw [makeFunction_eq]
  simp only [List.zip_nil_right, List.filterMap_nil, List.isEmpty_nil, if_true, pure_bind]
  exact make_lam I TB hcode hm hu h.1 (fun y hy e => (hfree y hy e).elim (fun k => I.ok.has _ (.inl k)) fun k => I.ok.has _ (.inr k)) fun f c' H1 s' I1 x t n hc => ⟨.ref f, _, I1, rfl, h.2 H1 f c' x t n hc⟩
def tLamD (T : List (Addr × Str)) (q : Str) (params : Arguments) (body : Expr) (scope : Scope) (cl : List (Str × Addr)) (n : Int) : TE := fun _ H Q => Tabs T H ∧ ∀ (H1 : Hp) (f c' D : Addr), ExtN H H1 → Tabs T H1 → H1 f = none → H1 c' = some (CodeO c' q) →
  H D = none → H1 D = some (.tup [.int n]) → Q (.ref f) (upd H1 f (LamO f q params body scope cl (.ref D) c'))
/-- lambda x=n: body, as a value -/
theorem pe_lamD {T : List (Addr × Str)} {c P : Addr} {params : Arguments} {body : Expr} {scope : Scope} {pos p1 : Pos} {n : Int} {k1 : Nat} (TB : TabB X.base X.mg c P) (hcode : X.env.code = .ref c) (hm : (P, X.env.qual ++ "<lambda>") ∈ T) (hu : ∀ p ∈ T, p.1 = P → p.2 = X.env.qual ++ "<lambda>")
    (hfree : ∀ y ∈ scope.names, y.2 = .free → X.env.scope.names.lookup y.1 = some .cell ∨ X.env.scope.names.lookup y.1 = some .free) (hd : params.defaults = [.Constant (.int n) k1 p1]) (hk : params.kw_defaults = []) :
    PE X (.Lambda params body scope pos) (tLamD T (X.env.qual ++ "<lambda>") params body scope (cloFrom X.env.cells scope.names []) n) := by
  refine ⟨fun pins s σ H Q I h => PySem.W.kdv_lam (by rw [hd]; rfl) hk ?_⟩
  rw [hd]
  refine PySem.W.kdv_all1 (thn ((pe_int (X := X) (i := n)).run pins s σ H (fun v H1 => v = .int n ∧ H1 = H) I ⟨rfl, rfl⟩) fun u s1 ⟨v, H1, I1, r, e1, e2⟩ => PySem.W.kdv_all0 ?_)
  subst e1 e2
  rw [makeFunction_eq]
  simp only [List.zip_nil_right, List.filterMap_nil, List.isEmpty_nil, List.isEmpty_cons, Bool.false_eq_true, if_false, if_true, pure_bind]
  refine wpAny_bind (wpAny_newTextTuple ?_)
  have nD : H1 s1.heap.objs.size = none := I1.hok.fresh (Nat.le_refl _)
  have I2 := I1.laid (t' := s1.toks) (o := .tup [.int n]) (fun b o e => Heap.get?_push_of_some { cls := .type "tuple", data := .seq [u].toArray } e) (Nat.le_refl _) ⟨by show 1 ≤ sizeLine; decide, [u], .cons r .nil, ⟨_, Heap.get?_push_size _ rfl, rfl, _, rfl⟩⟩
  have x1 : ExtN H1 (upd H1 s1.heap.objs.size (.tup [.int n])) := .of fun b o e => by rw [upd_ne (ne_of_none e nD)]; exact e
  exact make_lam I2 TB hcode hm hu (h.1.ext fun b o e => by rw [upd_ne (ne_of_none e nD)]; exact e) (fun y hy e => (hfree y hy e).elim (fun k => I1.ok.has _ (.inl k)) fun k => I1.ok.has _ (.inr k))
    fun f c' H3 s' I3 x t nf hc => ⟨.ref f, _, I3, rfl, h.2 H3 f c' _ (x1.trans x) t nf hc nD (x _ _ upd_same fun _ z => nomatch z)⟩
end
/-! ### a lambda called -/
/-- its names: none of its own but parameters whose names the def knows not -/
structure LamD (N : List Str) (sc scope : Scope) (bs : List Str) : Prop where
  kind : scope.kind = .function
  co : scope.isCoroutine = false
  gen : scope.isGenerator = false
  own : ∀ y ∈ scope.names, y.2 ≠ .cell ∧ (y.2 = .local → y.1 ∉ N)
  free : ∀ y ∈ scope.names, y.2 = .free → sc.names.lookup y.1 = some .cell ∨ sc.names.lookup y.1 = some .free
  par : ∀ y ∈ bs, scope.names.lookup y = some .local
def lamDB (N : List Str) (sc scope : Scope) (bs : List Str) : Bool :=
  decide (scope.kind = .function) && !scope.isCoroutine && !scope.isGenerator && (scope.names.all fun y => !decide (y.2 = .cell) && (!decide (y.2 = .local) || !decide (y.1 ∈ N)) && (!decide (y.2 = .free) || decide (sc.names.lookup y.1 = some .cell) || decide (sc.names.lookup y.1 = some .free))) &&
    bs.all fun y => decide (scope.names.lookup y = some .local)
theorem lamD_by {N : List Str} {sc scope : Scope} {bs : List Str} (h : lamDB N sc scope bs = true) : LamD N sc scope bs := by
  unfold lamDB at h
  simp only [Bool.and_eq_true, Bool.or_eq_true, Bool.not_eq_true', decide_eq_true_eq, decide_eq_false_iff_not, List.all_eq_true] at h
  obtain ⟨⟨⟨⟨h1, h2⟩, h3⟩, h4⟩, h5⟩ := h
  refine ⟨h1, h2, h3, fun y hy => ⟨(h4 y hy).1.1, fun e => (h4 y hy).1.2.elim (fun z => absurd e z) id⟩, fun y hy e => ?_, h5⟩
  rcases (h4 y hy).2 with (z | z) | z
  · exact absurd e z
  · exact .inl z
  · exact .inr z
section
variable {X : Cx} {pins : List (Addr × Obj)} {σ : L2.St} {H HZ : Hp} {s s1 : Shared}
theorem LamD.has {N : List Str} {scope : Scope} {bs : List Str} (L : LamD N X.env.scope scope bs) (ok : X.Ok) : ∀ y ∈ scope.names, y.2 = .free → ∃ c, X.env.cells.lookup y.1 = some c := fun y hy e =>
  (L.free y hy e).elim (fun k => ok.has _ (.inl k)) fun k => ok.has _ (.inr k)
/-- the lambda's body begins: what it captured stands as the def's slots tell -/
theorem body_start {A : Around} {outer : List Env} {E : XK} {scope : Scope} {f c' : Addr} {h₁ : Heap} {tk : Nat} {bs : List Str} {m : Str → Option Value} (I : Inv X pins σ H s) (L : LamD X.N X.env.scope scope bs) (e0 : Env0 X.prog X.w X.K X.mg X.base A outer s1 HZ) (hd : A.handled = none)
    (un : Un (frs X.stack) [] H HZ s.heap s1.heap) (hns : h₁.Ns s1.heap.objs.size m) (kp : ∀ b o, s1.heap.get? b = some o → h₁.get? b = some o) : Inv (lamCx X A outer s1 HZ E scope f c') [] σ HZ { s1 with heap := h₁, toks := tk } := by
  have hfree := L.has I.ok
  have back : ∀ {y c}, (cloFrom X.env.cells scope.names []).lookup y = some c → X.env.cells.lookup y = some c := fun {y c} e => by
    rcases cloFrom_mem (PySem.mem_of_lookup e) with hm | ⟨h1, h2⟩
    · exact nomatch hm
    · obtain ⟨c1, hc⟩ := hfree _ h1 rfl
      replace hc : X.env.cells.lookup y = some c1 := hc
      have e2 : c = c1 := by rw [h2, hc] <;> rfl
      rw [e2, hc]
  have there : ∀ {y}, scope.names.lookup y = some .free → ∃ c, (cloFrom X.env.cells scope.names []).lookup y = some c := fun {y} hl =>
    mem_lookup (cloFrom_has (cells := X.env.cells) (acc := []) (show (y, NameKind.free) ∈ scope.names from PySem.mem_of_lookup hl))
  have cellK : ∀ {c : Addr} {v : Option Value}, H c = none → s.heap.IsCell c v → h₁.IsCell c v := fun {c v} n ⟨o, ho, hd⟩ => by
    obtain ⟨sl, q⟩ := un.any ho n (by simp)
    exact ⟨_, kp _ _ q, hd⟩
  have noex : ∀ b : Addr, b ∈ (lamCx X A outer s1 HZ E scope f c').ex → False := fun b z => by
    have z : b ∈ ([] : List Addr) := z
    simp at z
  have okX : (lamCx X A outer s1 HZ E scope f c').Ok := by
    refine ⟨e0.mod, L.kind, rfl, rfl, Nat.le_refl _, fun y z c e1 e2 => I.ok.inj y z c (back e1) (back e2), fun y hy => ?_, fun y c z _ => ?_, fun _ => hd, Around.frames_deeper e0.frames, .inr ⟨rfl, rfl⟩, fun b z => (noex b z).elim, e0.bs, e0.bsz, fun b _ _ z => noex b z,
      fun b z => (noex b z).elim, e0.funs, e0.frf⟩
    · rcases (show scope.names.lookup y = some .cell ∨ scope.names.lookup y = some .free from hy) with hy | hy
      · exact absurd rfl (L.own _ (PySem.mem_of_lookup hy)).1
      · exact there hy
    · exact nomatch (show false = true from z)
  refine ⟨okX, rfl, e0.bare, Un.kept kp, ⟨_, hns, fun i y v e1 e2 e3 => ?_⟩, fun y c e => ?_, e0.hok.fresh (Nat.le_refl _), fun y c e => ?_, fun q hq => ?_, e0.hok.kept kp, I.len⟩
  · replace e1 : X.N[i]? = some y := e1
    rcases (show Vis scope y from e3) with k | k | k
    · exact absurd (List.mem_of_getElem? e1) ((L.own _ (PySem.mem_of_lookup k)).2 rfl)
    · exact absurd rfl (L.own _ (PySem.mem_of_lookup k)).1
    · have fr := L.free _ (PySem.mem_of_lookup k) rfl
      obtain ⟨m2, hn, hl⟩ := I.loc
      obtain ⟨w', r, q⟩ := hl i y v e1 e2 (fr.elim (fun k => .inr (.inl k)) fun k => .inr (.inr k))
      obtain ⟨c2, h2⟩ := there k
      have c1 := back h2
      refine ⟨w', r, .inr ⟨.inr k, c2, h2, ?_⟩⟩
      rcases q with ⟨k', _⟩ | ⟨_, c3, e', z⟩
      · replace k' : X.env.scope.names.lookup y = some .local := k'
        rcases fr with k2 | k2
        · cases k'.symm.trans k2
        · cases k'.symm.trans k2
      · cases c1.symm.trans e'
        exact cellK (I.freeC y _ c1) z
  · exact (I.cell y c (back e)).elim fun v z => ⟨v, cellK (I.freeC y c (back e)) z⟩
  · obtain ⟨v, o, ho, hd⟩ := I.cell y c (back e)
    exact un.free c o ho (I.freeC y c (back e)) (by simp)
  · replace hq : q ∈ ([] : List (Addr × Obj)) ++ [] := hq
    simp at hq
/-- a(), in the def that was handed the lambda at f -/
theorem act_lam {CXg : CXT} {Eg : XK} {Ng : List Str} {qg a : Str} {sg scope : Scope} {g f c' : Addr} {cdg dV : Value} {params : Arguments} {body : Expr} {k i : Nat} {pn : List (Addr × Obj)} {xe : Value → Shared → Prop} {W : WX} {E : XK} {tb : TE} {p1 p2 : Pos} {bs : List Str} {Dfl : Hp → Prop}
    (I : Inv X pins σ H s) (L : LamD X.N X.env.scope scope bs)
    (hbind : ∀ (s' : Shared) (H' : Hp) (doc pm cv ctv : Value), HOk X.prog X.w H' s'.heap → Dfl H' → ∃ binds : List (Str × Value), (∀ y ∈ binds, y.1 ∈ bs) ∧ BindsTo s' (PySem.W.kdv_fn "<lambda>" (X.env.qual ++ "<lambda>") params (.expr body) scope (cloFrom X.env.cells scope.names []) dV doc pm cv ctv) ⟨[], []⟩ binds)
    (tk : Takes ((cxOf CXg X.prog X.w X.K X.mg X.base Ng qg sg g cdg X.A X.stack s H Eg).tr pn xe) W) (hW : ∀ cls d σ' H', E cls d H' → W cls d σ' H') (hr : Room (k + 1) (X.A.deeper (envOfC qg sg s.heap.objs.size g cdg)))
    (hbody : ∀ (A : Around) (outer : List Env) (s : Shared) (H : Hp), Room k (A.deeper (lamEnv X scope s.heap.objs.size f c')) → PE (lamCx X A outer s H E scope f c') body tb)
    (hN : Ng[i]? = some a) (hv : Vis sg a) (hd : (a == ("__debug__" : Str)) = false) (hcd : (a == ("__classdict__" : Str)) = false) :
    PE ((cxOf CXg X.prog X.w X.K X.mg X.base Ng qg sg g cdg X.A X.stack s H Eg).tr pn xe) (.Call (.Name a p1) [] [] p2)
      (fun σZ HZ Q => σZ[i]? = some (some (.ref f)) ∧ HZ c' = some (CodeO c' (X.env.qual ++ "<lambda>")) ∧ HZ f = some (LamO f (X.env.qual ++ "<lambda>") params body scope (cloFrom X.env.cells scope.names []) dV c') ∧ Dfl HZ ∧ tb σ HZ Q) := by
  refine ⟨fun pinsZ sZ σZ HZ Q IZ ⟨hs, hc, hf, hD, ht⟩ => ?_⟩
  have rn := (pe_var (pos := p1) (i := i) hN hv hd hcd).run pinsZ sZ σZ HZ (fun v H1 => v = .ref f ∧ H1 = HZ) IZ ⟨.ref f, hs, rfl, rfl⟩
  refine wpAny_Call_Name_kw (thn rn fun u s1 ⟨v, H1, I1, r1, e1, e2⟩ => ?_)
  subst e1 e2
  obtain rfl : u = Value.ref f := r1
  obtain ⟨⟨doc, pm, ctv, of1⟩, _, _⟩ := I1.hok f _ hf
  obtain ⟨⟨oc, vs, t, hoc, hdc, hvc⟩, _, _⟩ := I1.hok c' _ hc
  have un : Un (frs X.stack) [] H H1 s.heap s1.heap := I1.base
  have rc : codeAny (model X.prog X.w) (X.A.deeper (envOfC qg sg s.heap.objs.size g cdg)) (.call (.ref f) ⟨[], []⟩) (CR (L2.CX X.prog X.w) (envOfC qg sg s.heap.objs.size g cdg :: X.stack) X.prog X.w H1 s1 Q E) s1 := by
    obtain ⟨binds, hbs, hbt⟩ := hbind s1 H1 doc pm (.ref c') ctv I1.hok hD
    refine PySem.W.kla_callFunE hr.depth of1 rfl L.co L.gen rfl ⟨c', oc, vs, t, rfl, hoc, hdc, hvc⟩ (hbt _ _ _ _ ?_)
    refine wpAny_newFunctionEnv (fun y hy => (L.own y hy).1) (fun y hy => L.par _ (hbs y hy)) (fun h₁ hns hsb => ⟨I1.nolimit.fresh _ hsb, ?_⟩) L.kind
    have kp : ∀ b o, s1.heap.get? b = some o → h₁.get? b = some o := fun b o e => hsb.extBut b o (Nat.ne_of_lt (Heap.lt_size e)) (Heap.get?_push_of_some _ e)
    have J : Inv (lamCx X (X.A.deeper (envOfC qg sg s.heap.objs.size g cdg)) (envOfC qg sg s.heap.objs.size g cdg :: X.stack) s1 H1 E scope f c') [] σ H1 { s1 with heap := h₁, toks := s1.toks + binds.length } := body_start I L I1.env0 hr.hd un hns kp
    refine PySem.W.kla_codeExpr (wpAny_mono ((hbody _ _ s1 H1 (hr.deeper _)).run [] _ _ H1 Q J ht) (fun v s' hq => ?_) fun e s' hq => hq)
    exact hq.elim fun w' ⟨H', J', rv, q⟩ => ⟨w', H', J'.os, J'.bare, J'.base, J'.hok, rv, q⟩
  have hx := passes_call tk hW
  refine PySem.W.callWith_F0 ⟨_, _, _, _, of1⟩ (wpAny_call (codeAny_mono rc fun r s' hq => ?_))
  rcases r with e | fl
  · exact hx pinsZ σZ H1 s1 e s' I1 hq
  · cases fl with
    | ret u => exact I1.after hq
    | next => exact hq.elim
    | brk => exact hq.elim
    | cont => exact hq.elim
/-- a def called with a lambda that stands -/
theorem run_kind {TT : (XK → Hp → VK → Prop) → Hp → VK → Prop} {x a : Str} {g f c' : Addr} {k : Nat} {pg : Arguments} {bg : List Stmt} {sg scope : Scope} {dV' kV doc pm cdv ct oc dV : Value} {an od : Option Addr} {osl : Array (Option Value)} {Ng : List Str} {bs : List Str} {Dfl : Hp → Prop}
    {params : Arguments} {body : Expr} {t : XK → TE} {Q : VK} (lk : X.K.lookup g = some ⟨oc, od, .func (PySem.W.fnOf x x pg bg sg dV' kV doc pm an cdv ct), osl⟩) (hcg : PySem.W.codeIn X.K cdv x = true) (hb : L2.Binds X.K (PySem.W.fnOf x x pg bg sg dV' kV doc pm an cdv ct) [a] []) (Sg : FnScope Ng [a] sg)
    (hNg : Ng[0]? = some a) (hva : Vis sg a) (hG : GivesTo X Ng x sg g cdv bg a (X.env.qual ++ "<lambda>") TT) (hr : Room (k + 2) X.A) (L : LamD X.N X.env.scope scope bs)
    (hbind : ∀ (s' : Shared) (H' : Hp) (doc pm cv ctv : Value), HOk X.prog X.w H' s'.heap → Dfl H' → ∃ binds : List (Str × Value), (∀ y ∈ binds, y.1 ∈ bs) ∧ BindsTo s' (PySem.W.kdv_fn "<lambda>" (X.env.qual ++ "<lambda>") params (.expr body) scope (cloFrom X.env.cells scope.names []) dV doc pm cv ctv) ⟨[], []⟩ binds)
    (hbody : ∀ (A : Around) (outer : List Env) (s : Shared) (H : Hp) (E : XK) (f c' : Addr), Room k (A.deeper (lamEnv X scope s.heap.objs.size f c')) → PE (lamCx X A outer s H E scope f c') body (t E))
    (hd : (a == ("__debug__" : Str)) = false) (hcd : (a == ("__classdict__" : Str)) = false) (I : Inv X pins σ H s) (hco : H c' = some (CodeO c' (X.env.qual ++ "<lambda>")))
    (h : TT (fun E H' Q' => H' f = some (LamO f (X.env.qual ++ "<lambda>") params body scope (cloFrom X.env.cells scope.names []) dV c') ∧ Dfl H' ∧ t E σ H' Q') H Q) :
    codeAny (model X.prog X.w) X.A (.call (.ref g) ⟨[.ref f], []⟩) (CR C8.CX0 X.stack X.prog X.w H s Q C8.E0) s := by
  refine run_ofS (N := Ng) (ps := [a]) (us := [.ref f]) (vs := [.ref f]) lk hcg Sg hr I.env0 (hb s [.ref f] I.kIn rfl) (.cons rfl .nil) rfl fun hr' => ?_
  have gv := hG f c' s H Q _ (fun W pn xe E p1 p2 tk hW => act_lam (i := 0) I L hbind tk hW hr' (fun A outer s H hr2 => hbody A outer s H E f c' hr2) hNg hva hd hcd) hco h
  exact gv.elim fun t' ht => ⟨t', ht.1.nox, ht.2⟩
end
end LamY
/-! Calls of a def with lambdas that stand; a comprehension whose tests see what the def's slots tell. -/
namespace LamY
open PySem PySem.Spec PySem.Calls PyProof.Rows L2 LamX
section
variable {X : Cx} {TT : (XK → Hp → VK → Prop) → Hp → VK → Prop} {x a : Str} {g : Addr} {k : Nat} {pg : Arguments} {bg : List Stmt} {sg : Scope} {dV' kV doc pm cdv ct oc : Value} {an od : Option Addr} {osl : Array (Option Value)} {Ng : List Str} {e : Expr} {ta : TA} {p pos : Pos}
/-- x(e), e a lambda that stands -/
theorem pe_kindV {scope : Scope} {params : Arguments} {body : Expr} {t : XK → TE} {bs : List Str} {Dfl : Addr → Hp → Prop} {dVof : Addr → Value} (hg : Gl X x) (hm : X.mg x = some (.ref g)) (hk : PySem.W.keepIn X.K (.ref g) = true)
    (lk : X.K.lookup g = some ⟨oc, od, .func (PySem.W.fnOf x x pg bg sg dV' kV doc pm an cdv ct), osl⟩) (hcg : PySem.W.codeIn X.K cdv x = true) (hb : L2.Binds X.K (PySem.W.fnOf x x pg bg sg dV' kV doc pm an cdv ct) [a] []) (Sg : FnScope Ng [a] sg)
    (hNg : Ng[0]? = some a) (hva : Vis sg a) (hG : GivesTo X Ng x sg g cdv bg a (X.env.qual ++ "<lambda>") TT) (hr : Room (k + 2) X.A) (L : LamD X.N X.env.scope scope bs)
    (hbind : ∀ (D : Addr) (s' : Shared) (H' : Hp) (doc pm cv ctv : Value), HOk X.prog X.w H' s'.heap → Dfl D H' → ∃ binds : List (Str × Value), (∀ y ∈ binds, y.1 ∈ bs) ∧ BindsTo s' (PySem.W.kdv_fn "<lambda>" (X.env.qual ++ "<lambda>") params (.expr body) scope (cloFrom X.env.cells scope.names []) (dVof D) doc pm cv ctv) ⟨[], []⟩ binds)
    (hbody : ∀ (A : Around) (outer : List Env) (s : Shared) (H : Hp) (E : XK) (f c' : Addr), Room k (A.deeper (lamEnv X scope s.heap.objs.size f c')) → PE (lamCx X A outer s H E scope f c') body (t E)) (ha : PA X [e] ta)
    (hdb : (x == ("__debug__" : Str)) = false := by decide) (hd : (a == ("__debug__" : Str)) = false := by decide) (hcd : (a == ("__classdict__" : Str)) = false := by decide)
    (he : starEach [e] X.env = (false, eval e X.env) :: starEach [] X.env := by rfl) (hpl : (backTo pos (starEach [] X.env)).any (·.1) = false := by rfl) :
    PE X (.Call (.Name x p) [e] [] pos) (fun σ H Q => ta σ H fun vs H1 => ∃ f c' D : Addr, vs = [.ref f] ∧ H1 c' = some (CodeO c' (X.env.qual ++ "<lambda>")) ∧
      TT (fun E H' Q' => H' f = some (LamO f (X.env.qual ++ "<lambda>") params body scope (cloFrom X.env.cells scope.names []) (dVof D) c') ∧ Dfl D H' ∧ t E σ H' Q') H1 Q) := by
  refine ⟨fun pins s σ H Q I h => wpAny_Call_Name_kw (ld_glob I hg hm ?_ hdb)⟩
  refine PySem.W.callWith_K (h₀ := X.base) I.ok.mod.kin hk (thn (ha.run pos pins _ σ H _ I h) fun us s1 ⟨vs, H1, I1, r, f, c', D, ev, hc, q⟩ => ⟨I1.kIn, ?_⟩) he hpl
  subst ev
  cases r with
  | @cons _ u _ ur ru rr =>
    cases rr
    obtain rfl : u = Value.ref f := ru
    have rc := run_kind (Q := Q) lk hcg hb Sg hNg hva hG hr L (hbind D) hbody hd hcd I1 hc q
    refine wpAny_call (codeAny_mono rc fun r s2 hq => ?_)
    rcases r with e | fl
    · exact (show False from hq).elim
    · cases fl with
      | ret u => exact I1.after hq
      | next => exact hq.elim
      | brk => exact hq.elim
      | cont => exact hq.elim
/-- x(lambda ..), made as one that stands -/
theorem pe_kindL {lpos : Pos} {scope : Scope} {params : Arguments} {body : Expr} {t : XK → TE} {bs : List Str} {Dfl : Addr → Hp → Prop} {dVof : Addr → Value} (hg : Gl X x) (hm : X.mg x = some (.ref g)) (hk : PySem.W.keepIn X.K (.ref g) = true)
    (lk : X.K.lookup g = some ⟨oc, od, .func (PySem.W.fnOf x x pg bg sg dV' kV doc pm an cdv ct), osl⟩) (hcg : PySem.W.codeIn X.K cdv x = true) (hb : L2.Binds X.K (PySem.W.fnOf x x pg bg sg dV' kV doc pm an cdv ct) [a] []) (Sg : FnScope Ng [a] sg)
    (hNg : Ng[0]? = some a) (hva : Vis sg a) (hG : GivesTo X Ng x sg g cdv bg a (X.env.qual ++ "<lambda>") TT) (hr : Room (k + 2) X.A) (L : LamD X.N X.env.scope scope bs)
    (hbind : ∀ (D : Addr) (s' : Shared) (H' : Hp) (doc pm cv ctv : Value), HOk X.prog X.w H' s'.heap → Dfl D H' → ∃ binds : List (Str × Value), (∀ y ∈ binds, y.1 ∈ bs) ∧ BindsTo s' (PySem.W.kdv_fn "<lambda>" (X.env.qual ++ "<lambda>") params (.expr body) scope (cloFrom X.env.cells scope.names []) (dVof D) doc pm cv ctv) ⟨[], []⟩ binds)
    (hbody : ∀ (A : Around) (outer : List Env) (s : Shared) (H : Hp) (E : XK) (f c' : Addr), Room k (A.deeper (lamEnv X scope s.heap.objs.size f c')) → PE (lamCx X A outer s H E scope f c') body (t E)) (ha : PA X [.Lambda params body scope lpos] ta)
    (hdb : (x == ("__debug__" : Str)) = false := by decide) (hd : (a == ("__debug__" : Str)) = false := by decide) (hcd : (a == ("__classdict__" : Str)) = false := by decide)
    (he : starEach [.Lambda params body scope lpos] X.env = (false, eval (.Lambda params body scope lpos) X.env) :: starEach [] X.env := by rfl) (hpl : (backTo pos (starEach [] X.env)).any (·.1) = false := by rfl) :
    PE X (.Call (.Name x p) [.Lambda params body scope lpos] [] pos) (fun σ H Q => ta σ H fun vs H1 => ∃ f c' D : Addr, vs = [.ref f] ∧ H1 c' = some (CodeO c' (X.env.qual ++ "<lambda>")) ∧
      TT (fun E H' Q' => H' f = some (LamO f (X.env.qual ++ "<lambda>") params body scope (cloFrom X.env.cells scope.names []) (dVof D) c') ∧ Dfl D H' ∧ t E σ H' Q') H1 Q) :=
  pe_kindV hg hm hk lk hcg hb Sg hNg hva hG hr L hbind hbody ha hdb hd hcd he hpl
theorem g_lamS {T : List (Addr × Str)} {q : Str} {params : Arguments} {body : Expr} {scope : Scope} {cl : List (Str × Addr)} {σ : L2.St} {H : Hp} {Q : VK} (t : Tabs T H)
    (h : ∀ (M : Hp) (f c' : Addr), ExtN H M → Tabs T M → (∀ b o, H b = some o → (∀ ps, o ≠ .tbl ps) → b ≠ f) → M f = some (LamO f q params body scope cl .none c') → M c' = some (CodeO c' q) → Q (.ref f) M) : tLamS T q params body scope cl σ H Q := by
  refine ⟨t, fun H1 f c' x t1 nf hc => ?_⟩
  have k : ∀ b o, H1 b = some o → upd H1 f (LamO f q params body scope cl .none c') b = some o := fun b o e => by rw [upd_ne (ne_of_none e nf)]; exact e
  exact h _ f c' (x.trans (.of k)) (t1.ext k) (fun b o e n => ne_of_none (x b o e n) nf) upd_same (k _ _ hc)
theorem g_lamD {T : List (Addr × Str)} {q : Str} {params : Arguments} {body : Expr} {scope : Scope} {cl : List (Str × Addr)} {n : Int} {σ : L2.St} {H : Hp} {Q : VK} (t : Tabs T H)
    (h : ∀ (M : Hp) (f c' D : Addr), ExtN H M → Tabs T M → (∀ b o, H b = some o → (∀ ps, o ≠ .tbl ps) → b ≠ f) → M f = some (LamO f q params body scope cl (.ref D) c') → M c' = some (CodeO c' q) → M D = some (.tup [.int n]) → Q (.ref f) M) : tLamD T q params body scope cl n σ H Q := by
  refine ⟨t, fun H1 f c' D x t1 nf hc nD hD => ?_⟩
  have k : ∀ b o, H1 b = some o → upd H1 f (LamO f q params body scope cl (.ref D) c') b = some o := fun b o e => by rw [upd_ne (ne_of_none e nf)]; exact e
  exact h _ f c' D (x.trans (.of k)) (t1.ext k) (fun b o e n => ne_of_none (x b o e n) nf) upd_same (k _ _ hc) (k _ _ hD)
/-- one parameter, its default a number -/
theorem bind_one {D : Addr} {n : Int} {s' : Shared} {H' : Hp} {fd : FuncData} {y : Str} {kk : Option (Array Value) → Sem (List (Str × Value))} (ok : HOk X.prog X.w H' s'.heap) (hD : H' D = some (.tup [.int n])) (hd : fd.defaults = .ref D) (h₁ : bindArgs fd ⟨[], []⟩ = seqItems? fd.defaults >>= kk)
    (h₂ : ∀ u : Value, kk (some #[u]) = pure [(y, u)]) : ∃ binds : List (Str × Value), (∀ z ∈ binds, z.1 ∈ [y]) ∧ BindsTo s' fd ⟨[], []⟩ binds := by
  obtain ⟨_, its, r, ⟨o, ho, _, m, hdat⟩⟩ := ok D _ hD
  cases r with
  | @cons _ u _ ur ru rr =>
    cases rr
    refine ⟨[(y, u)], fun z hz => ?_, .of_defaults hd ho hdat h₁ (h₂ u)⟩
    rw [List.mem_singleton.mp hz]
    exact List.mem_singleton.mpr rfl
theorem all3 {α : Type} {Pr : α → Prop} {a b c : α} (h1 : Pr a) (h2 : Pr b) (h3 : Pr c) : ∀ x ∈ [a, b, c], Pr x := fun x hx => by
  simp only [List.mem_cons, List.not_mem_nil, or_false] at hx
  rcases hx with rfl | rfl | rfl
  · exact h1
  · exact h2
  · exact h3
/-- what is asked of a lambda without defaults -/
structure LamOk (X : Cx) (k : Nat) (al : Arguments × Expr × Scope × (XK → TE)) : Prop where
  L : LamD X.N X.env.scope al.2.2.1 []
  bind : ∀ (q : Str) (cl : List (Str × Addr)) (doc pm cv ctv : Value), bindArgs (PySem.W.kdv_fn "<lambda>" q al.1 (.expr al.2.1) al.2.2.1 cl .none doc pm cv ctv) ⟨[], []⟩ = pure []
  body : ∀ (A : Around) (outer : List Env) (s : Shared) (H : Hp) (E : XK) (f c' : Addr), Room k (A.deeper (lamEnv X al.2.2.1 s.heap.objs.size f c')) → PE (lamCx X A outer s H E al.2.2.1 f c') al.2.1 (al.2.2.2 E)
/-- f is one of these lambdas -/
def IsLam (X : Cx) (al : Arguments × Expr × Scope × (XK → TE)) (f c' : Addr) : HO := LamO f (X.env.qual ++ "<lambda>") al.1 al.2.1 al.2.2.1 (cloFrom X.env.cells al.2.2.1.names []) .none c'
/-- in a block of the def X: x(e), e one of some lambdas that stand -/
theorem pe_kindB {scope : Scope} {ce : Env} {s0 : Shared} {H0 : Hp} {fp : List Addr} {pins0 : List (Addr × Obj)} {σ0 : L2.St} {alts : List (Arguments × Expr × Scope × (XK → TE))} (I0 : Inv X pins0 σ0 H0 s0) (hfp : ∀ b ∈ fp, FpOk X pins0 H0 b)
    (hal : ∀ al ∈ alts, LamOk X k al) (hg : Gl (X.blk s0 H0 scope ce fp) x) (hm : X.mg x = some (.ref g)) (hk : PySem.W.keepIn X.K (.ref g) = true)
    (lk : X.K.lookup g = some ⟨oc, od, .func (PySem.W.fnOf x x pg bg sg dV' kV doc pm an cdv ct), osl⟩) (hcg : PySem.W.codeIn X.K cdv x = true) (hb : L2.Binds X.K (PySem.W.fnOf x x pg bg sg dV' kV doc pm an cdv ct) [a] []) (Sg : FnScope Ng [a] sg)
    (hNg : Ng[0]? = some a) (hva : Vis sg a) (hG : GivesTo X Ng x sg g cdv bg a (X.env.qual ++ "<lambda>") TT) (hr : Room (k + 2) X.A) (ha : PA (X.blk s0 H0 scope ce fp) [e] ta)
    (hdb : (x == ("__debug__" : Str)) = false := by decide) (hd : (a == ("__debug__" : Str)) = false := by decide) (hcd : (a == ("__classdict__" : Str)) = false := by decide)
    (he : starEach [e] ce = (false, eval e ce) :: starEach [] ce := by rfl) (hpl : (backTo pos (starEach [] ce)).any (·.1) = false := by rfl) :
    PE (X.blk s0 H0 scope ce fp) (.Call (.Name x p) [e] [] pos) (fun σ H Q => ta σ H fun vs H1 => ∃ al ∈ alts, ∃ f c' : Addr, vs = [.ref f] ∧ H1 c' = some (CodeO c' (X.env.qual ++ "<lambda>")) ∧ TT (fun E H' Q' => H' f = some (IsLam X al f c') ∧ al.2.2.2 E σ0 H' Q') H1 Q) := by
  refine ⟨fun pins s σ H Q I h => wpAny_Call_Name_kw (ld_glob I hg hm ?_ hdb)⟩
  refine PySem.W.callWith_K (h₀ := X.base) I.ok.mod.kin hk (thn (ha.run pos pins _ σ H _ I h) fun us s1 ⟨vs, H1, I1, r, al, hm2, f, c', ev, hc, q⟩ => ⟨I1.kIn, ?_⟩) he hpl
  subst ev
  cases r with
  | @cons _ u _ ur ru rr =>
    cases rr
    obtain rfl : u = Value.ref f := ru
    have J : Inv X pins0 σ0 H1 s1 := I0.call' (ch := fp) I1.os I1.base I1.hok I1.bare fun b hb => ⟨(hfp b hb).2.2.2.1, (hfp b hb).2.1, (hfp b hb).2.2.2.2.1, (hfp b hb).2.2.2.2.2⟩
    have A := hal al hm2
    have rc := run_kind (Q := Q) (Dfl := fun _ => True) (bs := []) (dV := .none) lk hcg hb Sg hNg hva hG hr A.L (fun s' H' doc pm cv ctv _ _ => ⟨[], ⟨fun (y : Str × Value) (hy : y ∈ []) => (List.not_mem_nil hy).elim, BindsTo.of_eq (A.bind _ _ _ _ _ _)⟩⟩) A.body hd hcd J hc (by
      have e2 : (fun E H' Q' => H' f = some (LamO f (X.env.qual ++ "<lambda>") al.1 al.2.1 al.2.2.1 (cloFrom X.env.cells al.2.2.1.names []) .none c') ∧ (fun _ => True) H' ∧ al.2.2.2 E σ0 H' Q') = (fun (E : XK) (H' : Hp) (Q' : VK) => H' f = some (IsLam X al f c') ∧ al.2.2.2 E σ0 H' Q') := by
        funext E H' Q'
        unfold IsLam
        simp
      rw [e2]; exact q)
    refine wpAny_call (codeAny_mono rc fun r s2 hq => ?_)
    rcases r with e | fl
    · exact (show False from hq).elim
    · cases fl with
      | ret u => exact I1.after hq
      | next => exact hq.elim
      | brk => exact hq.elim
      | cont => exact hq.elim
end
section
variable {X : Cx}
/-- [elt for tg in iter if tests], the tests read in the block of a def whose slots are known -/
theorem pe_lcI {elt tg iter : Expr} {ifs : List Expr} {scope : Scope} {own : List (Str × Nat)} {pos : Pos} {wi : TI} {g : TG} {tt : L2.St → TT} {te : TE} (hc : X.calm = true) (hN : X.N.Nodup) (hi : PI X tg iter wi) (ok : BlkOk X.N X.env.scope scope own)
    (hg : ∀ (s : Shared) (H : Hp) (C : Addr) (cl : List (Str × Addr)) (fp : List Addr), PG (X.blk s H scope (compEnvC scope cl C X.env) fp) tg g)
    (ht : ∀ (pins : List (Addr × Obj)) (σ : L2.St) (s : Shared) (H : Hp) (C : Addr) (cl : List (Str × Addr)) (fp : List Addr), Inv X pins σ H s → (∀ b ∈ fp, FpOk X pins H b) → PTs (X.blk s H scope (compEnvC scope cl C X.env) fp) ifs (tt σ))
    (he : ∀ (s : Shared) (H : Hp) (C : Addr) (cl : List (Str × Addr)) (fp : List Addr), PE (X.blk s H scope (compEnvC scope cl C X.env) fp) elt te) (hs : ∀ x, foldedSetIterable iter X.env x = pure x := by intro _; rfl) :
    PE X (.ListComp elt [⟨tg, iter, ifs, 0⟩] scope pos) (fun σ => tLc wi g (tt σ) te (own.map (·.2)) σ) := by
  refine ⟨fun pins s σ H Q I h => ?_⟩
  rw [eval_ListComp]
  have caps : ∀ y ∈ scope.names, y.2 = .free → ∃ c, X.env.cells.lookup y.1 = some c := fun y hy e =>
    (ok.free y hy e).elim (fun k => I.ok.has _ (.inl k)) fun k => I.ok.has _ (.inr k)
  refine wpAny_comprehension_free (use := none) rfl hs (closure_ok caps) ok.kind (fun y hy e => (ok.uniq y hy).trans (congrArg some e)) (thn (hi.run pins s σ H _ I h) fun xv s1 hx => thn hx fun itv s2 hy => ?_)
  obtain ⟨it, fp, tn, J, H2, e, I2, T, st2, f2, q⟩ := hy
  subst e
  refine wpAny_newObj_type (newEnv_comp ?_) (Nat.zero_le _)
  obtain ⟨W, ⟨m0, w0⟩, turn⟩ := q s2.heap.objs.size (I2.hok.fresh (Nat.le_refl _))
  -- the new list stands
  obtain ⟨s3, e3, I3⟩ : ∃ s3 : Shared, { s2 with heap := s2.heap.push { cls := .type "list", data := .seq ([] : List Value).toArray } } = s3 ∧ Inv X pins σ (upd H2 s2.heap.objs.size (.lst [])) s3 :=
    ⟨_, rfl, I2.laid (t' := s2.toks) (fun b o z => Heap.get?_push_of_some _ z) (Nat.le_refl _) ⟨Nat.zero_le _, [], 0, .nil, Heap.get?_push_size _ rfl⟩⟩
  have k23 : ∀ b o, s2.heap.get? b = some o → s3.heap.get? b = some o := fun b o z => by rw [← e3]; exact Heap.get?_push_of_some _ z
  have z23 : s3.heap.objs.size = s2.heap.objs.size + 1 := by rw [← e3]; exact Heap.size_push ..
  have f3 : ∀ b ∈ fp, FpOk X pins (upd H2 s2.heap.objs.size (.lst [])) b ∧ b < s3.heap.objs.size := fun b hb => by
    obtain ⟨o, z, _⟩ := T.obj _ _ st2 b hb
    have lt := Heap.lt_size z
    exact ⟨⟨by rw [upd_ne (Nat.ne_of_lt lt)]; exact (f2 b hb).1, (f2 b hb).2⟩, by rw [z23]; exact Nat.lt_succ_of_lt lt⟩
  have st3 := T.keep _ _ s3.heap st2 fun b _ o z => k23 b o z
  rw [e3]
  generalize hD : s2.heap.objs.size = D at w0 turn I3 f3
  generalize upd H2 D (.lst []) = H3 at I3 f3 w0
  have I4 := block_start I3 ok hN f3
  have pg := hg s3 H3 s3.heap.objs.size (cellsFrom (s3.heap.objs.size + 1) scope.names (cloFrom X.env.cells scope.names [])) fp
  have pt := ht pins σ s3 H3 s3.heap.objs.size (cellsFrom (s3.heap.objs.size + 1) scope.names (cloFrom X.env.cells scope.names [])) fp I3 fun b hb => (f3 b hb).1
  have pe := he s3 H3 s3.heap.objs.size (cellsFrom (s3.heap.objs.size + 1) scope.names (cloFrom X.env.cells scope.names [])) fp
  generalize hce : compEnvC scope (cellsFrom (s3.heap.objs.size + 1) scope.names (cloFrom X.env.cells scope.names [])) s3.heap.objs.size X.env = ce at I4 pg pt pe
  have cL : ce.locals = s3.heap.objs.size := by rw [← hce]; rfl
  obtain ⟨s4, e4, I4, k34⟩ : ∃ s4 : Shared, { s3 with heap := pushCells (s3.heap.push { cls := .type "dict", data := .dict #[] }) scope.names } = s4 ∧ Inv (X.blk s3 H3 scope ce fp) [] (wipe σ (own.map (·.2))) H3 s4 ∧ ∀ b o, s3.heap.get? b = some o → s4.heap.get? b = some o :=
    ⟨_, rfl, I4, fun b o z => pushCells_keeps _ _ _ _ (Heap.get?_push_of_some _ z)⟩
  have st4 := T.keep _ _ s4.heap st3 fun b _ o z => k34 b o z
  have stat : ∀ {σ' : L2.St} {H' : Hp} {s' : Shared}, Inv (X.blk s3 H3 scope ce fp) [] σ' H' s' → (∀ b ∈ fp, H' b = none) → ∀ b ∈ fp, FpOk (X.blk s3 H3 scope ce fp) [] H' b := fun {σ' H' s'} I' hn b hb => by
    obtain ⟨x1, x2⟩ := I'.ok.exf b hb
    refine ⟨hn b hb, x1, I'.ok.exfs b hb, .inl hb, fun x c z => x2 x c z, fun p hp => ?_⟩
    replace hp : p ∈ ([] : List (Addr × Obj)) ++ [] := hp
    simp at hp
  have loop : codeAny (model X.prog X.w) X.A (.compLoop (.ListComp elt [⟨tg, iter, ifs, 0⟩] scope pos) 0 (.ref it) (.ref D) ce) (compPost (model X.prog X.w) X.A X.xe none (EP X pins σ Q) (.ref D) s3.heap.objs.size) s4 := by
    refine compLoop_any (fun n s' => ∃ i H', Inv (X.blk s3 H3 scope ce fp) [] (wipe σ (own.map (·.2))) H' s' ∧ tn i s'.heap ∧ (∀ b ∈ fp, H' b = none) ∧ W i n H') (fun n s5 ⟨i, H5, I5, st5, n5, w5⟩ => ?_) m0 ⟨0, H3, I4, st4, fun b hb => (f3 b hb).1.1, w0⟩
    rcases turn i n H5 w5 with ⟨stop, qq⟩ | ⟨go, Nx, hNx, step⟩
    · refine thnF (T.done (X.blk s3 H3 scope ce fp) rfl rfl rfl hc i [] s5 _ H5 (fun _ _ => False) I5 (stat I5 n5) st5 stop) fun r s6 ⟨hr, I6⟩ => ?_
      subst hr
      have I7 : Inv X pins σ H5 s6 := I3.call' (ch := fp) I6.os I6.base I6.hok I6.bare fun b hb => let z := (f3 b hb).1.2; ⟨z.2.2.1, z.1, z.2.2.2.1, z.2.2.2.2⟩
      obtain ⟨m, hn, _⟩ := I6.loc
      replace hn : s6.heap.Ns ce.locals m := hn
      have nC : H5 ce.locals = none := I6.free
      rw [cL] at hn nC
      have F := I3.fpOk (Nat.le_refl _) nC
      exact ⟨m, hn, fun h'' sb => ⟨.ref D, H5, I7.turned (t' := s6.toks) (fun b o hb z => (sb.2 b hb).trans z) F.1 F.2.1 F.2.2.2.1 F.2.2.2.2.1 F.2.2.2.2.2, rfl, qq⟩⟩
    · refine thnF (T.item (X.blk s3 H3 scope ce fp) rfl rfl rfl hc i [] s5 _ H5 (fun _ _ => False) I5 (stat I5 n5) st5 go) fun r s6 ⟨u, hr, h6⟩ => ?_
      subst hr
      refine thnF h6 fun _ s7 ⟨x, H7, I7, r7, y7, st7, n7⟩ => ?_
      refine thnF (pg.run _ s7 _ H7 x u _ (I7.pinned (stat I7 n7) (T.obj _ _ st7)) r7 (step x H7 y7)) fun _ s8 ⟨σ8, H8, I8, hw8, q8⟩ => ?_
      refine thnF (pt.run _ s8 σ8 H8 _ I8 q8) fun b s9 ⟨H9, I9, q9⟩ => ?_
      have fin : ∀ {s' : Shared} {H' : Hp}, Inv (X.blk s3 H3 scope ce fp) ([] ++ pinsAt fp s7.heap) σ8 H' s' → Nx H' → ∃ m, m < n ∧ ∃ i H', Inv (X.blk s3 H3 scope ce fp) [] (wipe σ (own.map (·.2))) H' s' ∧ tn i s'.heap ∧ (∀ b ∈ fp, H' b = none) ∧ W i m H' := fun {s' H'} I' nx => by
        have held : ∀ b ∈ fp, ∀ o, s7.heap.get? b = some o → s'.heap.get? b = some o ∧ H' b = none := fun b hb o z =>
          let y := I'.pin (b, o) (List.mem_append_right _ (List.mem_append_right _ (mem_pinsAt hb z)))
          ⟨y.1, y.2.1⟩
        refine (hNx H' nx).elim fun m' hm => ⟨m', hm.1, i + 1, H', (I'.unpinned (pins := [])).weak (by rw [← hw8, wipe_length]) (fun j v z => ?_), T.keep _ _ _ st7 fun b hb o z => (held b hb o z).1, fun b hb => ?_, hm.2⟩
        · rw [← hw8] at z
          exact (wipe_some z).1
        · exact (T.obj _ _ st7 b hb).elim fun o z => (held b hb o z.1).2
      cases b
      · simp only [if_false, Bool.false_eq_true] at q9 ⊢
        exact fin I9 q9
      · simp only [if_true, if_pos] at q9 ⊢
        exact thnF (pe.run _ s9 σ8 H9 _ I9 q9) fun z s10 ⟨yv, H10, I10, r10, acc, hD10, hz10, nx⟩ => app_ok (X := X.blk s3 H3 scope ce fp) I10 hD10 hz10 r10 fun s11 I11 => fin I11 nx
  rw [← e4] at loop st4
  subst hce
  exact codeAny_compStart_list loop (T.self X.A 0 _ _ _ st4 loop)
end
end LamY
/-! The mathematics of judging: sets of gaps as numbers; plans as what leads from gaps to gaps. Free of any row. -/
namespace Wd
/-! ### bits -/
theorem tb_or {a b i : Nat} : (a ||| b).testBit i = (a.testBit i || b.testBit i) := Nat.testBit_or ..
theorem tb_and {a b i : Nat} : (a &&& b).testBit i = (a.testBit i && b.testBit i) := Nat.testBit_and ..
theorem tb_shl {a i j : Nat} : (a <<< i).testBit j = (decide (i ≤ j) && a.testBit (j - i)) := by
  rw [Nat.testBit_shiftLeft]
theorem tb_shr {a i j : Nat} : (a >>> i).testBit j = a.testBit (i + j) := Nat.testBit_shiftRight ..
theorem tb_one {k i : Nat} : (2 ^ k).testBit i = decide (k = i) := Nat.testBit_two_pow ..
theorem tb_low {k i : Nat} : (2 ^ k - 1).testBit i = decide (i < k) := Nat.testBit_two_pow_sub_one ..
/-- the bits of one set lie below n -/
def Below (n z : Nat) : Prop := ∀ i, z.testBit i = true → i < n
theorem below_lt {n z : Nat} (h : Below n z) : z < 2 ^ n := Nat.lt_pow_two_of_testBit z fun i hi => by
  cases hb : z.testBit i with
  | false => rfl
  | true => have := h i hb; omega
theorem tb_timely {lo hi i : Nat} (h : lo ≤ hi + 1) : (2 ^ (hi + 1) - 2 ^ lo).testBit i = decide (lo ≤ i ∧ i < hi + 1) := by
  obtain ⟨k, hk⟩ : ∃ k, hi + 1 = lo + k := ⟨hi + 1 - lo, by omega⟩
  have e : 2 ^ (hi + 1) - 2 ^ lo = (2 ^ k - 1) <<< lo := by
    rw [hk, Nat.pow_add, Nat.shiftLeft_eq, Nat.sub_mul, Nat.one_mul, Nat.mul_comm]
  rw [e, tb_shl, tb_low]
  by_cases c : lo ≤ i
  · rw [decide_eq_true c, Bool.true_and]
    exact decide_eq_decide.mpr ⟨fun z => ⟨c, by omega⟩, fun z => by omega⟩
  · rw [decide_eq_false c, Bool.false_and, decide_eq_false (fun z => c z.1)]
/-! ### a set spread -/
/-- one turn: how far it is spread, and the set -/
def spr (most : Nat) : Nat → Nat → Nat → Nat
  | 0, _, z => z
  | n + 1, done, z => if done < most then spr most n (done + min (done + 1) (most - done)) (z ||| (z <<< min (done + 1) (most - done))) else z
def Spread (z0 d z : Nat) : Prop := ∀ i, z.testBit i = true ↔ ∃ k, k ≤ d ∧ k ≤ i ∧ z0.testBit (i - k) = true
theorem spread_zero (z : Nat) : Spread z 0 z := fun i => ⟨fun h => ⟨0, Nat.le_refl _, Nat.zero_le _, h⟩, fun ⟨k, h1, _, h3⟩ => by
  have : k = 0 := by omega
  subst this; exact h3⟩
theorem spread_step {z0 d z s : Nat} (h : Spread z0 d z) (hs : s ≤ d + 1) : Spread z0 (d + s) (z ||| (z <<< s)) := fun i => by
  rw [tb_or, tb_shl, Bool.or_eq_true, Bool.and_eq_true, decide_eq_true_eq, h i]
  constructor
  · rintro (⟨k, h1, h2, h3⟩ | ⟨c, hz⟩)
    · exact ⟨k, by omega, h2, h3⟩
    · obtain ⟨k, h1, h2, h3⟩ := (h (i - s)).mp hz
      exact ⟨k + s, by omega, by omega, by rw [show i - (k + s) = i - s - k by omega]; exact h3⟩
  · rintro ⟨k, h1, h2, h3⟩
    by_cases c : k ≤ d
    · exact .inl ⟨k, c, h2, h3⟩
    · refine .inr ⟨by omega, (h (i - s)).mpr ⟨k - s, by omega, by omega, by rw [show i - s - (k - s) = i - k by omega]; exact h3⟩⟩
/-! ### what a window makes of gaps -/
/-- behind a pat; behind a work -/
def gP (lo hi g : Nat) : Nat := if lo ≤ g ∧ g ≤ hi then 0 else hi + 1
def gW (hi g d : Nat) : Nat := min (g + d) (hi + 1)
/-- the gaps from which a pat, a work leads into a goal -/
def preP (lo hi goal : Nat) : Nat := (if goal.testBit 0 = true then 2 ^ (hi + 1) - 2 ^ lo else 0) ||| (if goal.testBit (hi + 1) = true then (2 ^ lo - 1) ||| 2 ^ (hi + 1) else 0)
theorem preP_bit {lo hi goal g : Nat} (h : lo ≤ hi) : (preP lo hi goal).testBit g = true ↔ g ≤ hi + 1 ∧ goal.testBit (gP lo hi g) = true := by
  unfold preP gP
  rw [tb_or, Bool.or_eq_true]
  have a : (if goal.testBit 0 = true then 2 ^ (hi + 1) - 2 ^ lo else 0).testBit g = true ↔ goal.testBit 0 = true ∧ lo ≤ g ∧ g < hi + 1 := by
    by_cases c : goal.testBit 0 = true
    · rw [if_pos c, tb_timely (by omega), decide_eq_true_eq]; exact ⟨fun z => ⟨c, z⟩, fun z => z.2⟩
    · rw [if_neg c, Nat.zero_testBit]; exact ⟨(fun z => nomatch z), fun z => absurd z.1 c⟩
  have b : (if goal.testBit (hi + 1) = true then (2 ^ lo - 1) ||| 2 ^ (hi + 1) else 0).testBit g = true ↔ goal.testBit (hi + 1) = true ∧ (g < lo ∨ g = hi + 1) := by
    by_cases c : goal.testBit (hi + 1) = true
    · rw [if_pos c, tb_or, Bool.or_eq_true, tb_low, tb_one, decide_eq_true_eq, decide_eq_true_eq]; exact ⟨fun z => ⟨c, z.imp id Eq.symm⟩, fun z => z.2.imp id Eq.symm⟩
    · rw [if_neg c, Nat.zero_testBit]; exact ⟨(fun z => nomatch z), fun z => absurd z.1 c⟩
  rw [a, b]
  by_cases c : lo ≤ g ∧ g ≤ hi
  · rw [if_pos c]
    exact ⟨fun z => ⟨by omega, z.elim (fun y => y.1) fun y => by omega⟩, fun z => .inl ⟨z.2, c.1, by omega⟩⟩
  · rw [if_neg c]
    exact ⟨fun z => z.elim (fun y => by omega) fun y => ⟨by omega, y.1⟩, fun z => .inr ⟨z.2, by omega⟩⟩
/-- what gaps_ahead_of_work tells, of its steps -/
theorem preW_bit {hi goal least most g s1 goal2 s2 : Nat} (hb : Below (hi + 2) goal) (hl : least ≤ most) (h1 : Spread (2 ^ (hi + 1)) most s1) (e2 : goal2 = if goal.testBit (hi + 1) = true then goal ||| s1 else goal) (h2 : Spread goal2 (most - least) s2) (hg : g ≤ hi + 1) :
    (s2 >>> most).testBit g = true ↔ ∃ d, least ≤ d ∧ d ≤ most ∧ goal.testBit (gW hi g d) = true := by
  have k2 : ∀ d, d ≤ most → (goal2.testBit (g + d) = true ↔ goal.testBit (gW hi g d) = true) := fun d hd => by
    unfold gW
    by_cases c : g + d ≤ hi
    · rw [Nat.min_eq_left (by omega), e2]
      split
      · rw [tb_or, Bool.or_eq_true]
        refine ⟨fun z => z.elim id fun y => ?_, .inl⟩
        obtain ⟨k, _, y2, y3⟩ := (h1 _).mp y
        rw [tb_one, decide_eq_true_eq] at y3
        omega
      · exact Iff.rfl
    · rw [Nat.min_eq_right (by omega), e2]
      split
      · rename_i cb
        rw [tb_or, Bool.or_eq_true]
        refine ⟨fun _ => cb, fun _ => .inr ((h1 _).mpr ⟨g + d - (hi + 1), by omega, by omega, ?_⟩)⟩
        rw [tb_one, decide_eq_true_eq]; omega
      · rename_i cb
        refine ⟨fun z => ?_, fun z => absurd z cb⟩
        have := hb _ z
        have e : g + d = hi + 1 := by omega
        rw [e] at z; exact z
  rw [tb_shr, h2]
  constructor
  · rintro ⟨k, c1, c2, c3⟩
    refine ⟨most - k, by omega, by omega, (k2 _ (by omega)).mp ?_⟩
    rw [show g + (most - k) = most + g - k by omega]; exact c3
  · rintro ⟨d, c1, c2, c3⟩
    refine ⟨most - d, by omega, by omega, ?_⟩
    rw [show most + g - (most - d) = g + d by omega]; exact (k2 _ c2).mpr c3

/-! ### what a plan makes of gaps -/
def iterP (F : (Nat → Prop) → Nat → Prop) : Nat → (Nat → Prop) → Nat → Prop
  | 0, G => G
  | n + 1, G => F (iterP F n G)
mutual
/-- from the gap g some run leads into G -/
def Led (lo hi : Nat) : Pl → (Nat → Prop) → Nat → Prop
  | .pat, G, g => G (gP lo hi g)
  | .work a b, G, g => ∃ d : Nat, a ≤ (d : Int) ∧ (d : Int) ≤ b ∧ G (gW hi g d)
  | .row ps, G, g => Leds lo hi ps G g
  | .either ps, G, g => LedE lo hi ps G g
  | .loop a b p, G, g => ∃ n : Nat, a ≤ (n : Int) ∧ (n : Int) ≤ b ∧ iterP (Led lo hi p) n G g
def Leds (lo hi : Nat) : List Pl → (Nat → Prop) → Nat → Prop
  | [], G, g => G g
  | p :: ps, G, g => Led lo hi p (Leds lo hi ps G) g
def LedE (lo hi : Nat) : List Pl → (Nat → Prop) → Nat → Prop
  | [], _, _ => False
  | p :: ps, G, g => Led lo hi p G g ∨ LedE lo hi ps G g
end
theorem iterP_mono {F : (Nat → Prop) → Nat → Prop} (hF : ∀ {G G' : Nat → Prop}, (∀ i, G i → G' i) → ∀ i, F G i → F G' i) {G G' : Nat → Prop} (h : ∀ i, G i → G' i) : ∀ n i, iterP F n G i → iterP F n G' i
  | 0, i, x => h i x
  | n + 1, i, x => hF (iterP_mono hF h n) i x
mutual
theorem Led.mono {lo hi : Nat} : ∀ (p : Pl) {G G' : Nat → Prop}, (∀ i, G i → G' i) → ∀ i, Led lo hi p G i → Led lo hi p G' i
  | .pat, G, G', h, i, x => by unfold Led at x ⊢; exact h _ x
  | .work a b, G, G', h, i, x => by
    unfold Led at x ⊢
    obtain ⟨d, h1, h2, h3⟩ := x
    exact ⟨d, h1, h2, h _ h3⟩
  | .row ps, G, G', h, i, x => by unfold Led at x ⊢; exact Leds.mono ps h i x
  | .either ps, G, G', h, i, x => by unfold Led at x ⊢; exact LedE.mono ps h i x
  | .loop a b p, G, G', h, i, x => by
    unfold Led at x ⊢
    obtain ⟨n, h1, h2, h3⟩ := x
    exact ⟨n, h1, h2, iterP_mono (fun hh j y => Led.mono p hh j y) h n i h3⟩
theorem Leds.mono {lo hi : Nat} : ∀ (ps : List Pl) {G G' : Nat → Prop}, (∀ i, G i → G' i) → ∀ i, Leds lo hi ps G i → Leds lo hi ps G' i
  | [], G, G', h, i, x => by unfold Leds at x ⊢; exact h i x
  | p :: ps, G, G', h, i, x => by unfold Leds at x ⊢; exact Led.mono p (Leds.mono ps h) i x
theorem LedE.mono {lo hi : Nat} : ∀ (ps : List Pl) {G G' : Nat → Prop}, (∀ i, G i → G' i) → ∀ i, LedE lo hi ps G i → LedE lo hi ps G' i
  | [], G, G', h, i, x => by unfold LedE at x; exact x.elim
  | p :: ps, G, G', h, i, x => by unfold LedE at x ⊢; exact x.imp (Led.mono p h i) (LedE.mono ps h i)
end
theorem gP_le {lo hi g : Nat} : gP lo hi g ≤ hi + 1 := by unfold gP; split <;> omega
theorem gW_le {hi g d : Nat} : gW hi g d ≤ hi + 1 := by unfold gW; omega
theorem gP_bit {lo hi : Nat} : gP lo hi (hi + 1) = hi + 1 := by unfold gP; rw [if_neg (by omega)]
theorem gW_bit {hi d : Nat} : gW hi (hi + 1) d = hi + 1 := by unfold gW; omega
mutual
/-- bitten stays bitten -/
theorem led_bitten {lo hi : Nat} : ∀ (p : Pl) {d l : Nat} {G : Nat → Prop}, okP d l p → G (hi + 1) → Led lo hi p G (hi + 1)
  | .pat, _, _, G, _, g => by unfold Led; rw [gP_bit]; exact g
  | .work a b, _, _, G, ok, g => by
    unfold okP at ok
    unfold Led
    exact ⟨a.toNat, by omega, by omega, by rw [gW_bit]; exact g⟩
  | .row ps, 0, _, G, ok, _ => by unfold okP at ok; exact ok.elim
  | .row ps, d + 1, l, G, ok, g => by unfold okP at ok; unfold Led; exact leds_bitten ps ok.2.2 g
  | .either ps, 0, _, G, ok, _ => by unfold okP at ok; exact ok.elim
  | .either [], d + 1, l, G, ok, g => by unfold okP at ok; exact absurd ok.1 (Nat.lt_irrefl 0)
  | .either (p :: ps), d + 1, l, G, ok, g => by
    unfold okP okPs at ok
    unfold Led LedE
    exact .inl (led_bitten p ok.2.2.1 g)
  | .loop a b p, 0, _, G, ok, _ => by unfold okP at ok; exact ok.elim
  | .loop a b p, d + 1, 0, G, ok, _ => by unfold okP at ok; exact ok.elim
  | .loop a b p, d + 1, l + 1, G, ok, g => by
    unfold okP at ok
    unfold Led
    refine ⟨a.toNat, by omega, by omega, ?_⟩
    have it : ∀ n, iterP (Led lo hi p) n G (hi + 1) := fun n => by
      induction n with
      | zero => exact g
      | succ n ih => exact led_bitten p ok.2.2.2 ih
    exact it _
theorem leds_bitten {lo hi : Nat} : ∀ (ps : List Pl) {d l : Nat} {G : Nat → Prop}, okPs d l ps → G (hi + 1) → Leds lo hi ps G (hi + 1)
  | [], _, _, G, _, g => by unfold Leds; exact g
  | p :: ps, d, l, G, ok, g => by
    unfold okPs at ok
    unfold Leds
    exact led_bitten p ok.1 (leds_bitten ps ok.2 g)
end
/-- the number of a goal's gaps, and of the gaps from which a plan leads there -/
abbrev inS (z : Nat) : Nat → Prop := fun j => z.testBit j = true
structure Bits (hi : Nat) (F : (Nat → Prop) → Nat → Prop) (z g : Nat) : Prop where
  low : Below (hi + 2) g
  bit : ∀ i, i ≤ hi + 1 → (g.testBit i = true ↔ F (inS z) i)
theorem bits_eq {a b n : Nat} (ha : Below n a) (hb : Below n b) (h : ∀ i, i < n → (a.testBit i = true ↔ b.testBit i = true)) : a = b := Nat.eq_of_testBit_eq fun i => by
  by_cases c : i < n
  · have := h i c
    cases x : a.testBit i <;> cases y : b.testBit i <;> simp_all
  · cases x : a.testBit i with
    | true => exact absurd (ha i x) c
    | false =>
      cases y : b.testBit i with
      | true => exact absurd (hb i y) c
      | false => rfl
theorem Bits.uniq {hi : Nat} {F : (Nat → Prop) → Nat → Prop} {z a b : Nat} (h1 : Bits hi F z a) (h2 : Bits hi F z b) : a = b :=
  bits_eq h1.low h2.low fun i hi' => (h1.bit i (by omega)).trans (h2.bit i (by omega)).symm
/-! ### how many -/
def card (n z : Nat) : Nat := ((List.range n).filter fun i => z.testBit i).length
theorem card_le (n z : Nat) : card n z ≤ n := by
  have := List.length_filter_le (fun i => z.testBit i) (List.range n)
  rw [List.length_range] at this
  exact this
theorem filter_len_le {l : List Nat} {p q : Nat → Bool} (h : ∀ x ∈ l, p x = true → q x = true) : (l.filter p).length ≤ (l.filter q).length := by
  induction l with
  | nil => exact Nat.le_refl _
  | cons x l ih =>
    have ih := ih fun y hy => h y (List.mem_cons_of_mem _ hy)
    have hx := h x List.mem_cons_self
    rw [List.filter_cons, List.filter_cons]
    by_cases c : p x = true
    · rw [if_pos c, if_pos (hx c), List.length_cons, List.length_cons]; omega
    · rw [if_neg c]
      split
      · rw [List.length_cons]; omega
      · exact ih
theorem filter_len_lt {l : List Nat} {p q : Nat → Bool} (h : ∀ x ∈ l, p x = true → q x = true) {y : Nat} (hy : y ∈ l) (hp : p y = false) (hq : q y = true) : (l.filter p).length < (l.filter q).length := by
  induction l with
  | nil => cases hy
  | cons x l ih =>
    have hl := filter_len_le (l := l) (p := p) (q := q) fun z hz => h z (List.mem_cons_of_mem _ hz)
    have hx := h x List.mem_cons_self
    rw [List.filter_cons, List.filter_cons]
    rcases List.mem_cons.mp hy with rfl | hy
    · rw [if_neg (by simp [hp]), if_pos hq, List.length_cons]; omega
    · have ih := ih (fun z hz => h z (List.mem_cons_of_mem _ hz)) hy
      by_cases c : p x = true
      · rw [if_pos c, if_pos (hx c), List.length_cons, List.length_cons]; omega
      · rw [if_neg c]
        split
        · rw [List.length_cons]; omega
        · exact ih
theorem card_lt {n a b : Nat} (ha : Below n a) (hb : Below n b) (h : ∀ i, a.testBit i = true → b.testBit i = true) (ne : a ≠ b) : card n a < card n b := by
  have ⟨i, h1, h2⟩ : ∃ i, a.testBit i = false ∧ b.testBit i = true := by
    refine Classical.byContradiction fun z => ne (bits_eq ha hb fun i _ => ⟨h i, fun y => ?_⟩)
    cases x : a.testBit i with
    | true => rfl
    | false => exact absurd ⟨i, x, y⟩ z
  exact filter_len_lt (fun x _ y => h x y) (List.mem_range.mpr (hb i h2)) h1 h2
end Wd
/-! |, &, <<, >> of naturals; a method of several classes. -/
namespace Wd
open PySem PySem.Spec PyProof.Rows L2
section
variable {X : Cx}
def rOrB : R2 := fun x y H Q => ∃ n m : Nat, x = .int (n : Int) ∧ y = .int (m : Int) ∧ Q (.int ((n ||| m : Nat) : Int)) H
theorem op_orB : OpR X (binaryOp .BitOr) rOrB := by
  intro pins s σ H x y v u Q I rx ry h
  obtain ⟨n, m, rfl, rfl, q⟩ := h
  have e : Builtin.bitOr (n : Int) (m : Int) = ((n ||| m : Nat) : Int) := by rw [bitOr_nn (Int.natCast_nonneg _) (Int.natCast_nonneg _), Int.toNat_natCast, Int.toNat_natCast]
  rw [← e] at q
  exact op_or pins s σ H _ _ v u Q I rx ry ⟨_, _, rfl, rfl, q⟩
def rAndB : R2 := fun x y H Q => ∃ n m : Nat, x = .int (n : Int) ∧ y = .int (m : Int) ∧ Q (.int ((n &&& m : Nat) : Int)) H
theorem op_andB : OpR X (binaryOp .BitAnd) rAndB := by
  intro pins s σ H x y v u Q I rx ry h
  obtain ⟨n, m, rfl, rfl, q⟩ := h
  have e : Builtin.bitAnd (n : Int) (m : Int) = ((n &&& m : Nat) : Int) := rfl
  rw [← e] at q
  exact op_and pins s σ H _ _ v u Q I rx ry ⟨_, _, rfl, rfl, q⟩
def rShlB : R2 := fun x y H Q => ∃ n m : Nat, x = .int (n : Int) ∧ y = .int (m : Int) ∧ n < 2 ^ 100000 ∧ m ≤ 100000 ∧ Q (.int ((n <<< m : Nat) : Int)) H
theorem op_shlB : OpR X (binaryOp .LShift) rShlB := by
  intro pins s σ H x y v u Q I rx ry h
  obtain ⟨n, m, rfl, rfl, hn, hm, q⟩ := h
  refine op_shlN pins s σ H _ _ v u Q I rx ry ⟨n, m, rfl, rfl, shl_ok (n := 100000) (by rw [Int.natAbs_natCast]; exact hn) (by omega), ?_⟩
  have e : (n : Int) * 2 ^ m = ((n <<< m : Nat) : Int) := by rw [Nat.shiftLeft_eq, Int.natCast_mul, PySem.W.kbt_cast]
  rw [e]; exact q
def rShrB : R2 := fun x y H Q => ∃ n m : Nat, x = .int (n : Int) ∧ y = .int (m : Int) ∧ Q (.int ((n >>> m : Nat) : Int)) H
theorem op_shrB : OpR X (binaryOp .RShift) rShrB := by
  intro pins s σ H x y v u Q I rx ry h
  obtain ⟨n, m, rfl, rfl, q⟩ := h
  refine op_shrN pins s σ H _ _ v u Q I rx ry ⟨n, m, rfl, rfl, ?_⟩
  have e : (n : Int) / 2 ^ m = ((n >>> m : Nat) : Int) := by rw [Nat.shiftRight_eq_div_pow, Int.natCast_ediv, PySem.W.kbt_cast]
  rw [e]; exact q
end
/-! ### a method that several classes have -/
def tMethA (Cs : List Addr) (m : Str) (sp : Sp) (ta : TE) (t : TA) : TE := fun σ H Q => ta σ H fun y H1 => ∃ a dx fs C, C ∈ Cs ∧ y = .ref a ∧ H1 a = some (.ins C dx fs) ∧ fs.lookup m = none ∧ t σ H1 fun vs H2 => sp (y :: (vs ++ [])) H2 Q C8.E0
def MetA (P : Program) (w : World) (K : PySem.W.Frag) (mg : Str → Option Value) (base : Heap) (k : Nat) (Cs : List Addr) (m : Str) (sp : Sp) : Prop := ∀ C ∈ Cs, ∃ k', k' ≤ k ∧ C8.Met P w K mg base k' C m sp []
section
variable {X : Cx} {k j : Nat} {Cs : List Addr} {m : Str} {sp : Sp} {pos apos : Pos} {o e : Expr} {es : List Expr} {ta : TE} {t : TA}
theorem pe_mtA {pl : Sem Bool} (c : MetA X.prog X.w X.K X.mg X.base k Cs m sp) (hr : Room j X.A) (hk : k ≤ j) (ho : PE X o ta) (ha : PA X (e :: es) t)
    (hst : starEach (e :: es) X.env = (false, eval e X.env) :: starEach es X.env := by rfl) (hpl : (backTo pos (starEach es X.env)).any (·.1) = false := by rfl)
    (ht : eval (.Call (.Attribute o m apos) (e :: es) [] pos) X.env = (do
      let obj ← eval o X.env
      standAt apos.atName
      let (fn, own) ← holding [obj] (getMethod obj m pl)
      callWith pos fn own (backTo pos (starEach (e :: es) X.env)) (backToKw pos (keywordEach [] X.env))) := by rfl) :
    PE X (.Call (.Attribute o m apos) (e :: es) [] pos) (tMethA Cs m sp ta t) := by
  refine ⟨fun pins s σ H Q I h => PySem.W.methodCall_KW (pl := pl) (thn (ho.run pins s σ H _ I h) fun u s1 ⟨y, H1, I1, ry, a, dx, fs, C, hC, ey, ea, l, q⟩ => ?_) ht⟩
  subst ey
  obtain rfl : u = Value.ref a := ry
  obtain ⟨k', hk', f, fd, ps, ds, hc, hm, F, b, d⟩ := c C hC
  exact getmeth_ok I1 ea hc hm l (PySem.W.callWith_K (first := [.ref a]) (h₀ := X.base) I.ok.mod.kin hm.kp (thn (ha.run pos pins s1 σ H1 _ I1 q) fun us s2 ⟨vs, H2, I2, r, q2⟩ => ⟨I2.kIn, run_fn (us := .ref a :: us) (vs := .ref a :: vs) F (hr.mono (Nat.le_trans hk' hk)) b d C8.pass0 I2 (.cons rfl r) q2⟩) hst hpl)
end
end Wd
/-! The round i -> 5 i + 1 for tables of every size: each slot is met. -/
namespace Sn
open PySem PySem.Spec PyProof.Rows L2
/-- where the round stands after n steps from nought -/
def X5 : Nat → Nat
  | 0 => 0
  | n + 1 => X5 n * 5 + 1
theorem x5_add (a : Nat) : ∀ n, X5 (a + n) = X5 a * 5 ^ n + X5 n
  | 0 => by rw [Nat.add_zero, Nat.pow_zero, Nat.mul_one]; rfl
  | n + 1 => by
    show X5 (a + n) * 5 + 1 = X5 a * 5 ^ (n + 1) + (X5 n * 5 + 1)
    rw [x5_add a n, Nat.pow_succ, ← Nat.mul_assoc, Nat.add_mul]
    omega
theorem x5_mod (m : Nat) : ∀ n, lcgN m n = X5 n % (m + 1)
  | 0 => (Nat.zero_mod _).symm
  | n + 1 => by
    show (lcgN m n * 5 + 1) % (m + 1) = (X5 n * 5 + 1) % (m + 1)
    rw [x5_mod m n, Nat.add_mod, Nat.mul_mod, Nat.mod_mod, ← Nat.mul_mod, ← Nat.add_mod]
theorem five_odd : ∀ n, ∃ c, 5 ^ n = 4 * c + 1
  | 0 => ⟨0, rfl⟩
  | n + 1 => by
    obtain ⟨c, h⟩ := five_odd n
    exact ⟨5 * c + 1, by rw [Nat.pow_succ, h]; omega⟩
/-- after 2 ^ k steps it stands at an odd number of 2 ^ k -/
theorem x5_pow : ∀ k, ∃ c, X5 (2 ^ k) = 2 ^ k * (2 * c + 1)
  | 0 => ⟨0, rfl⟩
  | k + 1 => by
    obtain ⟨c, h⟩ := x5_pow k
    obtain ⟨d, hd⟩ := five_odd (2 ^ k)
    refine ⟨(2 * c + 1) * d + c, ?_⟩
    have e : 2 ^ (k + 1) = 2 ^ k + 2 ^ k := by rw [Nat.pow_succ]; omega
    rw [e, x5_add, hd, h]
    generalize 2 ^ k = p
    have e1 : p * (2 * c + 1) * (4 * d + 1) + p * (2 * c + 1) = p * ((2 * c + 1) * (4 * d + 1) + (2 * c + 1)) := by rw [Nat.mul_add p ((2 * c + 1) * (4 * d + 1)) (2 * c + 1), Nat.mul_assoc p]
    have e2 : (p + p) * (2 * ((2 * c + 1) * d + c) + 1) = p * (2 * (2 * ((2 * c + 1) * d + c) + 1)) := by rw [← Nat.two_mul, Nat.mul_comm 2 p, Nat.mul_assoc]
    rw [e1, e2]
    congr 1
    generalize hq : (2 * c + 1) * d = q
    have e3 : (2 * c + 1) * (4 * d + 1) = 4 * q + (2 * c + 1) := by rw [Nat.mul_add, Nat.mul_one, ← hq, ← Nat.mul_assoc, Nat.mul_comm (2 * c + 1) 4, Nat.mul_assoc]
    rw [e3]
    omega
/-- each number below 2 ^ k is met -/
theorem x5_all : ∀ (k j : Nat), j < 2 ^ k → ∃ b, b < 2 ^ k ∧ X5 b % 2 ^ k = j
  | 0, j, h => ⟨0, by decide, by
    have e : j = 0 := by omega
    rw [e]; rfl⟩
  | k + 1, j, h => by
    have hp : 0 < 2 ^ k := Nat.pow_pos (by decide)
    have e : 2 ^ (k + 1) = 2 ^ k * 2 := Nat.pow_succ ..
    obtain ⟨b, hb, eb⟩ := x5_all k (j % 2 ^ k) (Nat.mod_lt _ hp)
    obtain ⟨c, hc⟩ := x5_pow k
    obtain ⟨d, hd⟩ := five_odd b
    -- the next one, 2 ^ k steps on
    have nx : X5 (2 ^ k + b) % (2 ^ k * 2) = (X5 b + 2 ^ k) % (2 ^ k * 2) := by
      rw [x5_add, hc, hd]
      have e1 : 2 ^ k * (2 * c + 1) * (4 * d + 1) = 2 ^ k + 2 ^ k * 2 * (c + 2 * ((2 * c + 1) * d)) := by
        generalize 2 ^ k = p
        have e2 : (2 * c + 1) * (4 * d + 1) = 1 + 2 * (c + 2 * ((2 * c + 1) * d)) := by
          have e3 : (2 * c + 1) * (4 * d + 1) = 4 * ((2 * c + 1) * d) + (2 * c + 1) := by rw [Nat.mul_add, Nat.mul_one, ← Nat.mul_assoc, Nat.mul_comm (2 * c + 1) 4, Nat.mul_assoc]
          rw [e3]; omega
        rw [Nat.mul_assoc, e2, Nat.mul_add, Nat.mul_one, Nat.mul_assoc]
      rw [e1, Nat.add_right_comm, Nat.add_mul_mod_self_left, Nat.add_comm]
    rw [e] at h ⊢
    generalize 2 ^ k = p at hp hb eb nx h
    have m1 : X5 b % (p * 2) % p = X5 b % p := Nat.mod_mul_right_mod ..
    have m2 := Nat.mod_lt (X5 b) (show 0 < p * 2 by omega)
    have m3 : X5 b % (p * 2) = j % p ∨ X5 b % (p * 2) = j % p + p := by
      generalize X5 b % (p * 2) = y at m1 m2
      rw [eb] at m1
      by_cases c1 : y < p
      · rw [Nat.mod_eq_of_lt c1] at m1; exact .inl m1
      · rw [Nat.mod_eq_sub_mod (by omega), Nat.mod_eq_of_lt (by omega)] at m1
        exact .inr (by omega)
    have m4 : X5 (p + b) % (p * 2) = (X5 b % (p * 2) + p) % (p * 2) := by rw [nx, Nat.mod_add_mod]
    have j1 : j % p < p := Nat.mod_lt _ hp
    have j2 : j = j % p ∨ j = j % p + p := by
      by_cases c1 : j < p
      · rw [Nat.mod_eq_of_lt c1]; exact .inl rfl
      · rw [Nat.mod_eq_sub_mod (by omega), Nat.mod_eq_of_lt (by omega)]
        exact .inr (by omega)
    rcases m3 with m3 | m3
    · rcases j2 with j2 | j2
      · exact ⟨b, by omega, by omega⟩
      · refine ⟨p + b, by omega, ?_⟩
        rw [m4, m3, Nat.mod_eq_of_lt (by omega)]
        exact j2.symm
    · rcases j2 with j2 | j2
      · refine ⟨p + b, by omega, ?_⟩
        rw [m4, m3, Nat.mod_eq_sub_mod (by omega), Nat.mod_eq_of_lt (by omega)]
        omega
      · exact ⟨b, by omega, by omega⟩
/-- the masks of all tables -/
def Pow (m : Nat) : Prop := ∃ k, m + 1 = 2 ^ k
theorem round_all {m : Nat} (hm : Pow m) {j : Nat} (hj : j ≤ m) : ∃ b, b ≤ m ∧ lcgN m b = j := by
  obtain ⟨k, e⟩ := hm
  obtain ⟨b, h1, h2⟩ := x5_all k j (by omega)
  exact ⟨b, by omega, by rw [x5_mod, e, h2]⟩
theorem round_back {m : Nat} (hm : Pow m) : ∀ k, lcgN m (m + 1 + k) = lcgN m k := fun k => by
  obtain ⟨i, e⟩ := hm
  obtain ⟨c, hc⟩ := x5_pow i
  rw [x5_mod, x5_mod, x5_add, e, hc, Nat.mul_assoc, Nat.mul_add_mod]
theorem round_from {m : Nat} (hm : Pow m) {i j : Nat} (hi : i ≤ m) (hj : j ≤ m) : ∃ k, k ≤ m ∧ lcgI m i k = j := by
  obtain ⟨a, ha, ea⟩ := round_all hm hi
  obtain ⟨b, hb, eb⟩ := round_all hm hj
  by_cases c : a ≤ b
  · exact ⟨b - a, by omega, by rw [← ea, lcgN_add, show a + (b - a) = b by omega, eb]⟩
  · exact ⟨b + (m + 1) - a, by omega, by rw [← ea, lcgN_add, show a + (b + (m + 1) - a) = m + 1 + b by omega, round_back hm, eb]⟩
/-- each slot begins a run of a search early enough -/
theorem run_at {m : Nat} (hm : Pow m) (h : Int) {j : Nat} (hj : j ≤ m) : ∃ n, n ≤ m + 12 ∧ runI m (SetTable.bits h) n = j := by
  obtain ⟨k, hk, e⟩ := round_from hm (runI_le m (SetTable.bits h) 12) hj
  exact ⟨12 + k, by omega, by rw [runI_tail (bits_lt h), e]⟩
theorem step_at {m : Nat} (hm : Pow m) (h : Int) {j : Nat} (hj : j ≤ m) : ∃ k, k < 10 * SetTable.turns m ∧ (nth m (runAt m (SetTable.bits h % (m + 1)) (SetTable.bits h)) k).j = j := by
  obtain ⟨n, hn, e⟩ := run_at hm h hj
  obtain ⟨k, hk, e2⟩ := run_nth m (SetTable.bits h) n
  exact ⟨k, by unfold SetTable.turns; omega, by rw [e2]; exact e⟩
end Sn
/-! Tables of sets, of every size: a way meets an empty slot soon; one put in; laid anew. Nothing is said of whether a key is found again. -/
namespace Sn
open PySem PySem.Spec PyProof.Rows L2
theorem round_nodup {m i : Nat} (hm : Pow m) (hi : i ≤ m) : ((List.range (m + 1)).map (lcgI m i)).Nodup := by
  have p := perm_range (m + 1) ((List.range (m + 1)).map (lcgI m i)) (by rw [List.length_map, List.length_range]) fun k hk => by
    obtain ⟨n, hn, e⟩ := round_from hm hi (j := k) (by omega)
    exact List.mem_map.mpr ⟨n, List.mem_range.mpr (by omega), e⟩
  exact p.nodup_iff.mpr List.nodup_range
/-- so many slots taken, and the way meets another one soon -/
theorem soon {m : Nat} (hm : Pow m) {l : List Nat} (hl : l.length ≤ m) (h : Int) : ∃ k, k ≤ 10 * (12 + l.length) ∧ way m h k ∉ l := by
  have nd : ((List.range (l.length + 1)).map (lcgI m (runI m (SetTable.bits h) 12))).Nodup :=
    (round_nodup hm (runI_le m (SetTable.bits h) 12)).sublist (List.Sublist.map _ (List.range_sublist.mpr (by omega)))
  obtain ⟨q, hq, hn⟩ : ∃ q, q ≤ l.length ∧ lcgI m (runI m (SetTable.bits h) 12) q ∉ l := Classical.byContradiction fun z => by
    have := nat_nodup_len _ l nd fun x hx => by
      obtain ⟨q, hq, rfl⟩ := List.mem_map.mp hx
      refine Classical.byContradiction fun y => z ⟨q, by have := List.mem_range.mp hq; omega, y⟩
    rw [List.length_map, List.length_range] at this
    omega
  obtain ⟨k, hk, e⟩ := run_nth m (SetTable.bits h) (12 + q)
  refine ⟨k, by omega, ?_⟩
  show (nth m (runAt m (SetTable.bits h % (m + 1)) (SetTable.bits h)) k).j ∉ l
  rw [e]
  show runI m (SetTable.bits h) (12 + q) ∉ l
  rw [runI_tail (bits_lt h)]
  exact hn
theorem first {m : Nat} (hm : Pow m) {l : List Nat} (hl : l.length ≤ m) (h : Int) : ∃ K, K ≤ 10 * (12 + l.length) ∧ way m h K ∉ l ∧ ∀ k, k < K → way m h k ∈ l := by
  obtain ⟨k, hk, hn⟩ := soon hm hl h
  obtain ⟨K, h1, h2, h3⟩ := st_least (p := fun k => way m h k ∉ l) k hn
  exact ⟨K, by omega, h2, fun k' hk' => Classical.byContradiction fun z => h3 k' hk' z⟩
theorem way_in {m : Nat} (h : Int) (k : Nat) : way m h k ≤ m := by
  have hi : SetTable.bits h % (m + 1) ≤ m := Nat.le_of_lt_succ (Nat.mod_lt _ (Nat.succ_pos _))
  have hr := runEnd_bd hi
  have := nth_in (m := m) k (runAt m (SetTable.bits h % (m + 1)) (SetTable.bits h)) (by show SetTable.bits h % (m + 1) + (SetTable.runEnd m (SetTable.bits h % (m + 1)) - SetTable.bits h % (m + 1)) ≤ m; omega)
  show (nth m (runAt m (SetTable.bits h % (m + 1)) (SetTable.bits h)) k).j ≤ m
  omega
theorem pow_odd {m : Nat} (hm : Pow m) (h7 : 7 ≤ m) : m % 2 = 1 := by
  obtain ⟨k, e⟩ := hm
  cases k with
  | zero => rw [Nat.pow_zero] at e; omega
  | succ k => rw [Nat.pow_succ] at e; omega
structure Tab (t : SetTable) (n : Nat) : Prop where
  ris : Ris t.place.toList
  dm : t.dummies = #[]
  sz : t.place.size = n
  pow : Pow t.mask
  m7 : 7 ≤ t.mask
theorem Tab.put {t : SetTable} {n j : Nat} (T : Tab t n) (hj : j ∉ t.place.toList) : (t.put j).2 = SetTable.below t.place j ∧ SetTable.below t.place j ≤ n ∧ Tab (t.put j).1 (n + 1) ∧ (t.put j).1.mask = t.mask ∧ (t.put j).1.led = t.led ∧ (t.put j).1.plain = t.plain ∧ (t.put j).1.fill = n + 1 := by
  have c1 := (below_cut T.ris j).1
  have hl : SetTable.below t.place j ≤ t.place.toList.length := by rw [Array.length_toList]; exact c1
  have hnot : t.place[SetTable.below t.place j]? ≠ some j := fun e => hj (List.mem_of_getElem? (by rw [Array.getElem?_toList]; exact e))
  have hs : (t.put j).1.place.size = n + 1 := by rw [← Array.length_toList, put_place, len_ins _ hl, Array.length_toList, T.sz]
  refine ⟨rfl, by rw [← T.sz]; exact c1, ⟨ris_insert T.ris hnot, put_dm T.dm j, hs, T.pow, T.m7⟩, rfl, rfl, rfl, ?_⟩
  show (t.put j).1.place.size + (t.put j).1.dummies.size = n + 1
  rw [hs, put_dm T.dm j]; rfl
/-! ### laid anew -/
structure OwnS (m n : Nat) (owner : Array (Option Nat)) : Prop where
  sz : owner.size = m + 1
  all : ∀ k, k < n → ∃ j, j ≤ m ∧ oAt owner j = some k
  ps : ∃ ps : List Nat, ps.length = n ∧ ∀ j, j ≤ m → oAt owner j ≠ none → j ∈ ps
theorem OwnS.init (m : Nat) : OwnS m 0 (Array.replicate (m + 1) none) := ⟨by rw [Array.size_replicate], fun k hk => absurd hk (Nat.not_lt_zero _), [], rfl, fun j hj e => absurd (oAt_init hj) e⟩
theorem free_at {m : Nat} (hm : Pow m) (owner : Array (Option Nat)) (h : Int) {j : Nat} (hj : j ≤ m) (hf : oAt owner j = none) :
    ∃ j', SetTable.layClean.free m owner (SetTable.turns m) (SetTable.bits h % (m + 1)) (SetTable.bits h) = some j' ∧ j' ≤ m ∧ oAt owner j' = none := by
  obtain ⟨n, hn, e⟩ := run_at hm h hj
  have at_ : way m h (off m (SetTable.bits h % (m + 1)) (SetTable.bits h) n) = j := by
    show (nth m (runAt m (SetTable.bits h % (m + 1)) (SetTable.bits h)) (off m (SetTable.bits h % (m + 1)) (SetTable.bits h) n)).j = j
    rw [nth_off, itL_run]
    exact e
  obtain ⟨K, h1, h2, h3⟩ := st_least (p := fun k => oAt owner (way m h k) = none) (off m (SetTable.bits h % (m + 1)) (SetTable.bits h) n) (by show oAt owner (way m h _) = none; rw [at_]; exact hf)
  have isN : ∀ o : Option Nat, o ≠ none → o.isNone = false := fun o ho => by
    cases o with
    | none => exact absurd rfl ho
    | some _ => rfl
  refine ⟨way m h K, free_spec m owner (SetTable.turns m) n _ _ K (by unfold SetTable.turns; omega) h1 (fun k hk => isN _ (h3 k hk)) ?_, way_in h K, h2⟩
  show (oAt owner (way m h K)).isNone = true
  rw [h2]; rfl
theorem OwnS.step {m n : Nat} (hm : Pow m) {owner : Array (Option Nat)} (W : OwnS m n owner) (hn : n ≤ m) (h : Int) :
    ∃ j, SetTable.layClean.free m owner (SetTable.turns m) (SetTable.bits h % (m + 1)) (SetTable.bits h) = some j ∧ OwnS m (n + 1) (owner.setIfInBounds j (some n)) := by
  obtain ⟨ps, p1, p2⟩ := W.ps
  obtain ⟨j0, a1, a2⟩ := st_missing ps (m + 1) (by omega)
  have free0 : oAt owner j0 = none := Classical.byContradiction fun z => a2 (p2 j0 (by omega) z)
  obtain ⟨j, e1, e2, e3⟩ := free_at hm owner h (by omega) free0
  have self := oAt_set_self (owner := owner) (some n) (j := j) (by rw [W.sz]; omega)
  refine ⟨j, e1, by rw [Array.size_setIfInBounds]; exact W.sz, fun k hk => ?_, j :: ps, by rw [List.length_cons, p1], fun i hi hne => ?_⟩
  · by_cases c : k = n
    · exact ⟨j, e2, by rw [self, c]⟩
    · obtain ⟨i, i1, i2⟩ := W.all k (by omega)
      have ne : i ≠ j := fun z => by rw [z, e3] at i2; cases i2
      exact ⟨i, i1, by rw [oAt_set_ne _ ne]; exact i2⟩
  · by_cases c : i = j
    · rw [c]; exact List.mem_cons_self
    · rw [oAt_set_ne _ c] at hne
      exact List.mem_cons_of_mem _ (p2 i hi hne)
theorem lay_fold {m : Nat} (hm : Pow m) : ∀ (hs : List Int) (n : Nat) (owner : Array (Option Nat)), OwnS m n owner → n + hs.length ≤ m + 1 → ∃ owner', hs.foldl (stepF m) (some (owner, n)) = some (owner', n + hs.length) ∧ OwnS m (n + hs.length) owner'
  | [], n, owner, W, _ => ⟨owner, rfl, W⟩
  | h :: hs, n, owner, W, hl => by
    rw [List.length_cons] at hl
    obtain ⟨j, e, W2⟩ := W.step hm (by omega) h
    obtain ⟨o2, f, W3⟩ := lay_fold hm hs (n + 1) _ W2 (by omega)
    have en : n + (h :: hs).length = n + 1 + hs.length := by rw [List.length_cons]; omega
    rw [en]
    exact ⟨o2, by rw [List.foldl_cons, stepF_some e]; exact f, W3⟩
theorem lay_at {m : Nat} (hm : Pow m) {hs : Array Int} (hn : hs.size ≤ m) : ∃ owner, SetTable.layClean m hs = some owner ∧ OwnS m hs.size owner := by
  obtain ⟨owner, f, W⟩ := lay_fold hm hs.toList 0 _ (OwnS.init m) (by rw [Array.length_toList]; omega)
  rw [Nat.zero_add, Array.length_toList] at f W
  exact ⟨owner, by rw [layClean_eq, f]; rfl, W⟩
theorem anew {t : SetTable} {hs : Array Int} {wanted M : Nat} (hw : SetTable.sizeAbove wanted - 1 = M) (hM : Pow M) (h7 : 7 ≤ M) (hn : hs.size ≤ M) :
    ∃ t' order, t.relaid hs wanted = some (t', order) ∧ order.toList.Perm (List.range hs.size) ∧ Tab t' hs.size ∧ t'.mask = M ∧ t'.led = t.led ∧ t'.plain = t.plain := by
  obtain ⟨owner, e, W⟩ := lay_at hM hn
  have hr : t.relaid hs wanted = some (tabOf t M owner, ((liveOf M owner).map (·.2)).toArray) := by rw [relaid_eq, hw, e]; rfl
  have rs := ris_live (fun j => owner.getD j none) (List.range (M + 1)) (by unfold Ris; first | exact List.pairwise_lt_range | exact List.pairwise_lt_range _)
  have r1 : Ris ((liveOf M owner).map (·.1)) := rs.1
  have nd : ((liveOf M owner).map (·.1)).Nodup := List.Pairwise.imp (fun h => Nat.ne_of_lt h) r1
  have len : (liveOf M owner).length = hs.size := by
    obtain ⟨ps, p1, p2⟩ := W.ps
    have up := nat_nodup_len ((liveOf M owner).map (·.1)) ps nd fun x hx => by
      obtain ⟨q, hq, rfl⟩ := List.mem_map.mp hx
      obtain ⟨b1, b2⟩ := (mem_live W.sz (j := q.1) (k := q.2)).1 hq
      exact p2 _ b1 (by rw [b2]; exact fun z => nomatch z)
    have dn := nat_nodup_len (List.range hs.size) ((liveOf M owner).map (·.2)) List.nodup_range fun k hk => by
      obtain ⟨j, b1, b2⟩ := W.all k (List.mem_range.mp hk)
      exact List.mem_map.mpr ⟨(j, k), (mem_live W.sz).2 ⟨b1, b2⟩, rfl⟩
    rw [List.length_map, p1] at up
    rw [List.length_map, List.length_range] at dn
    omega
  refine ⟨_, _, hr, ?_, ⟨r1, rfl, ?_, hM, h7⟩, rfl, rfl, rfl⟩
  · refine perm_range hs.size _ ?_ fun k hk => ?_
    · show ((liveOf M owner).map (·.2)).length = hs.size
      rw [List.length_map, len]
    · obtain ⟨j, b1, b2⟩ := W.all k hk
      exact List.mem_map.mpr ⟨(j, k), (mem_live W.sz).2 ⟨b1, b2⟩, rfl⟩
  · show ((liveOf M owner).map (·.1)).toArray.size = hs.size
    rw [List.size_toArray, List.length_map, len]
/-- the sizes that are laid -/
theorem size_pow (n : Nat) (hn : n < 2 ^ 40) : ∃ k, SetTable.sizeAbove n = 2 ^ (3 + k) ∧ n < SetTable.sizeAbove n ∧ (SetTable.sizeAbove n = 8 ∨ SetTable.sizeAbove n ≤ 2 * n) := by
  have key : ∀ (f k : Nat), n < 2 ^ (3 + k + f) → ∃ k', SetTable.sizeAbove.go n f (2 ^ (3 + k)) = 2 ^ (3 + k') ∧ n < 2 ^ (3 + k') ∧ (k' = k ∨ 2 ^ (3 + k') ≤ 2 * n) := by
    intro f
    induction f with
    | zero => intro k h; exact ⟨k, rfl, h, .inl rfl⟩
    | succ f ih =>
      intro k h
      unfold SetTable.sizeAbove.go
      by_cases c : 2 ^ (3 + k) ≤ n
      · rw [if_pos c]
        have e : 2 ^ (3 + k) * 2 = 2 ^ (3 + (k + 1)) := by rw [← Nat.pow_succ]; rfl
        rw [e]
        obtain ⟨k', h1, h2, h3⟩ := ih (k + 1) (by rw [show 3 + (k + 1) + f = 3 + k + (f + 1) by omega]; exact h)
        refine ⟨k', h1, h2, .inr ?_⟩
        rcases h3 with h3 | h3
        · rw [h3, ← e]; omega
        · exact h3
      · rw [if_neg c]
        exact ⟨k, rfl, by omega, .inl rfl⟩
  obtain ⟨k', h1, h2, h3⟩ := key 64 0 (Nat.lt_of_lt_of_le hn (Nat.pow_le_pow_right (by decide) (by decide)))
  have e : SetTable.sizeAbove n = 2 ^ (3 + k') := h1
  refine ⟨k', e, by rw [e]; exact h2, ?_⟩
  rw [e]
  rcases h3 with h3 | h3
  · left; rw [h3]
  · exact .inr h3
end Sn
/-! Sets of nested tuples of numbers, of any size: what is asked of a key. -/
namespace Sn
open PySem PySem.Spec PyProof.Rows L2
mutual
/-- a key of numbers and tuples -/
def numK : NestedKey → Bool
  | .num _ => true
  | .tup ks => numKs ks
  | .none => false
  | .text _ => false
def numKs : List NestedKey → Bool
  | [] => true
  | k :: ks => numK k && numKs ks
end
section
variable {P : Program} {w : World}
/-- it is of no class statement; its hash is by value: n levels down -/
def Asked (P : Program) (w : World) (n : Nat) (s : Shared) (v : Value) : Prop :=
  (∀ (A : Around) (E : Value → Shared → Prop) (Q : Bool → Shared → Prop), Q false s → wpAny (model P w) A (ofAClassStatement n v) Q E s) ∧
  ∀ (A : Around) (E : Value → Shared → Prop) (Q : Bool → Shared → Prop), Q true s → wpAny (model P w) A (hashByValue n v) Q E s
theorem asked_flat {n : Nat} {s : Shared} {v : Value} (h1 : ofAClassStatement n v = pure false) (h2 : hashByValue n v = pure true) : Asked P w n s v :=
  ⟨fun A E Q h => by rw [h1]; exact wpAny_pure h, fun A E Q h => by rw [h2]; exact wpAny_pure h⟩
theorem asked_tup {n m : Nat} {s : Shared} {a : Addr} {o : Obj} {vs : Array Value} (ho : s.heap.get? a = some o) (hc : o.cls = .type "tuple") (hd : o.data = .seq vs m) (all : ∀ v ∈ vs.toList, Asked P w n s v) : Asked P w (n + 1) s (.ref a) := by
  have hT : s.TypeIs (.ref a) "tuple" := ⟨o, ho, hc⟩
  constructor
  · intro A E Q h
    unfold ofAClassStatement
    refine wpAny_bind (wpAny_typeOf hT ?_)
    dsimp only
    have e : (("tuple" : String) == "tuple") = true := by decide
    simp only [e, if_true, Bool.not_true, Bool.false_eq_true, if_false]
    try refine wpAny_bind (wpAny_pure ?_)
    try simp only [Bool.not_true, Bool.false_eq_true, if_false]
    show wpAny _ _ (seqItems? (.ref a) >>= _) _ _ s
    refine wpAny_bind (wpAny_seqItems ho hd ?_)
    dsimp only
    refine wpAny_bind ?_
    show wpAny _ _ (forIn vs _ _) _ _ s
    rw [← Array.forIn_toList]
    refine wpAny_forIn_list _ (fun rest r s' => (r.1 = none ∧ s' = s) ∧ ∀ v ∈ rest, Asked P w n s v) _ (fun v rest r s' hv => ?_) (fun r s' hv => ?_) _ _ ⟨⟨rfl, rfl⟩, all⟩
    · obtain ⟨⟨h1, rfl⟩, h2⟩ := hv
      refine wpAny_bind ((h2 v List.mem_cons_self).1 _ _ _ ?_)
      simp only [Bool.false_eq_true, if_false]
      exact wpAny_pure ⟨⟨rfl, rfl⟩, fun u hu => h2 u (List.mem_cons_of_mem _ hu)⟩
    · obtain ⟨⟨h1, rfl⟩, _⟩ := hv
      obtain ⟨r1, r2⟩ := r
      simp only at h1
      subst h1
      exact wpAny_pure h
  · intro A E Q h
    unfold hashByValue
    refine wpAny_bind (wpAny_specialOf hT F.slot_tuple_hash.lookup ?_)
    show wpAny _ _ (seqItems? (.ref a) >>= _) _ _ s
    refine wpAny_bind (wpAny_seqItems ho hd ?_)
    refine wpAny_bind ?_
    show wpAny _ _ (forIn vs _ _) _ _ s
    rw [← Array.forIn_toList]
    refine wpAny_forIn_list _ (fun rest r s' => (r.1 = none ∧ s' = s) ∧ ∀ v ∈ rest, Asked P w n s v) _ (fun v rest r s' hv => ?_) (fun r s' hv => ?_) _ _ ⟨⟨rfl, rfl⟩, all⟩
    · obtain ⟨⟨h1, rfl⟩, h2⟩ := hv
      refine wpAny_bind ((h2 v List.mem_cons_self).2 _ _ _ ?_)
      simp only [Bool.not_true, Bool.false_eq_true, if_false]
      exact wpAny_pure ⟨⟨rfl, rfl⟩, fun u hu => h2 u (List.mem_cons_of_mem _ hu)⟩
    · obtain ⟨⟨h1, rfl⟩, _⟩ := hv
      obtain ⟨r1, r2⟩ := r
      simp only at h1
      subst h1
      exact wpAny_pure h
mutual
theorem asked_key : ∀ (k : NestedKey) (v : Value) (n : Nat) (s : Shared), numK k = true → NestedIs s.heap k v → k.depth ≤ n → Asked P w n s v
  | .none, _, _, _, h, _, _ => by cases h
  | .text _, _, _, _, h, _, _ => by cases h
  | .num i, _, n, s, _, x, _ => by
    cases x with
    | bool _ => exact asked_flat (by cases n <;> rfl) (by cases n <;> rfl)
    | int _ _ => exact asked_flat (by cases n <;> rfl) (by cases n <;> rfl)
  | .tup ks, _, n, s, h, x, hn => by
    cases x with
    | tup hg hc hd hk =>
      simp only [NestedKey.depth] at hn
      cases n with
      | zero => omega
      | succ n => exact asked_tup hg hc hd (asked_keys ks _ n s (by rw [numK] at h; exact h) hk (by omega))
theorem asked_keys : ∀ (ks : List NestedKey) (vs : List Value) (n : Nat) (s : Shared), numKs ks = true → NestedAll s.heap ks vs → NestedKey.depthAll ks ≤ n → ∀ v ∈ vs, Asked P w n s v
  | [], _, n, s, _, x, _, v, hv => by cases x; cases hv
  | k :: ks, _, n, s, h, x, hn, v, hv => by
    cases x with
    | cons x1 x2 =>
      simp only [NestedKey.depthAll] at hn
      rw [numKs, Bool.and_eq_true] at h
      rcases List.mem_cons.mp hv with e | hv
      · rw [e]; exact asked_key k _ n s h.1 x1 (by omega)
      · exact asked_keys ks _ n s h.2 x2 (by omega) v hv
end
/-- a key of a set: a tuple of numbers and tuples -/
structure Ky (h : Heap) (k : NestedKey) (a : Addr) : Prop where
  at_ : NestedIs h k (.ref a)
  dep : k.depth ≤ 8
  num : numK k = true
theorem Ky.is {P : Program} {w : World} {h : Heap} {k : NestedKey} {a : Addr} (x : Ky h k a) : (nestedKind P w).is h k a := ⟨x.at_, x.dep⟩
theorem Ky.keep {h h' : Heap} {k : NestedKey} {a : Addr} (x : Ky h k a) (e : ∀ b o vs n, h.get? b = some o → o.data = .seq vs n → h'.get? b = some o) : Ky h' k a := ⟨NestedIs.at e _ _ x.at_, x.dep, x.num⟩
theorem Ky.put {h h' : Heap} {k : NestedKey} {a b : Addr} {o : Obj} {es : Array (Int × Value)} {ep : Nat} {t : SetTable} (x : Ky h k a) (ho : h.get? b = some o) (hd : o.data = .set es ep t) (hs : Heap.SameBut b h h') : Ky h' k a := x.keep fun c oc vs n hc hdc => by
  refine (hs.2 c fun e => ?_).trans hc
  subst e
  rw [ho] at hc
  cases hc
  rw [hd] at hdc
  cases hdc
variable {A : Around} {E : Value → Shared → Prop} {s : Shared}
theorem seen_keys {k : NestedKey} {b : Addr} {Q : Bool → Shared → Prop} (hk : Ky s.heap k b) {ys : List Value} (hy : ∀ y ∈ ys, ∃ k' c, y = Value.ref c ∧ Ky s.heap k' c) (h : Q false s) : wpAny (model P w) A (searchCouldBeSeen (.ref b) ys) Q E s := by
  unfold searchCouldBeSeen
  refine wpAny_bind ?_
  refine wpAny_forIn_list _ (fun rest r s' => (r.1 = none ∧ s' = s) ∧ ∀ y ∈ rest, ∃ k' c, y = Value.ref c ∧ Ky s.heap k' c) _ (fun v rest r s' hv => ?_) (fun r s' hv => ?_) _ _ ⟨⟨rfl, rfl⟩, hy⟩
  · obtain ⟨⟨_, rfl⟩, h2⟩ := hv
    obtain ⟨k', c, rfl, hc⟩ := h2 v List.mem_cons_self
    have more : ∀ y ∈ rest, ∃ k' c, y = Value.ref c ∧ Ky s'.heap k' c := fun u hu => h2 u (List.mem_cons_of_mem _ hu)
    dsimp only
    by_cases hv : (b == c || (carriedByValue (.ref b) && carriedByValue (.ref c))) = true
    · exact wp_if_pos hv (wpAny_pure ⟨⟨rfl, rfl⟩, more⟩)
    · refine wp_if_neg hv (wpAny_bind (quiet_key _ _ 8 _ hk.at_ hk.dep _ _ _ ?_))
      simp only [Bool.not_true, Bool.false_eq_true, if_false]
      refine wpAny_bind (quiet_key _ _ 8 _ hc.at_ hc.dep _ _ _ ?_)
      simp only [Bool.not_true, Bool.false_eq_true, if_false]
      refine wpAny_bind ((asked_key _ _ 8 _ hk.num hk.at_ hk.dep).1 _ _ _ ?_)
      simp only [Bool.false_eq_true, if_false]
      refine wpAny_bind ((asked_key _ _ 8 _ hc.num hc.at_ hc.dep).1 _ _ _ ?_)
      simp only [Bool.false_eq_true, if_false]
      exact wpAny_pure ⟨⟨rfl, rfl⟩, more⟩
  · obtain ⟨⟨h1, rfl⟩, _⟩ := hv
    obtain ⟨r1, r2⟩ := r
    simp only at h1
    subst h1
    exact wpAny_pure h
end
end Sn
/-! Sets of nested tuples of numbers, of any size: one added; laid anew. -/
namespace Sn
open PySem PySem.Spec PyProof.Rows L2
abbrev SL := List (Addr × NestedKey)
def rowsN (w : World) (L : SL) : List (Int × Value) := L.map fun p => (p.2.hash w, Value.ref p.1)
/-- the set at a, with these keys; a key may stand in it twice -/
structure SN (w : World) (h : Heap) (a : Addr) (L : SL) (es : Array (Int × Value)) (ep : Nat) (t : SetTable) : Prop where
  ob : ∃ o, h.get? a = some o ∧ o.ExactSet ∧ o.data = .set es ep t
  rows : es.toList = rowsN w L
  tab : Tab t L.length
  key : ∀ p ∈ L, Ky h p.2 p.1
  plain : t.plain = true
  led : w.params.followText "set-order" = true ∨ t.led = true
  room : L.length * 5 < t.mask * 3
section
variable {P : Program} {w : World} {A : Around} {E : Value → Shared → Prop} {s : Shared} {a : Addr} {L : SL} {es : Array (Int × Value)} {ep : Nat} {t : SetTable}
theorem rows_len (h : es.toList = rowsN w L) : es.size = L.length := by
  have := congrArg List.length h
  unfold rowsN at this
  rw [Array.length_toList, List.length_map] at this
  exact this
theorem rows_at (h : es.toList = rowsN w L) {i : Nat} {p : Addr × NestedKey} (hp : L[i]? = some p) : es[i]? = some (p.2.hash w, Value.ref p.1) := by
  rw [← Array.getElem?_toList, h]
  unfold rowsN
  rw [List.getElem?_map, hp]; rfl
theorem fits_of {n : Nat} (T : Tab t n) (hn : n ≤ t.mask) (he : es.size = n) : t.fits es.size = true := by
  unfold SetTable.fits SetTable.fill
  rw [T.dm, he, Bool.and_eq_true, beq_iff_eq, decide_eq_true_eq]
  exact ⟨T.sz, by show t.place.size + 0 ≤ t.mask; rw [T.sz]; omega⟩
theorem SN.fits (R : SN w s.heap a L es ep t) : t.fits es.size = true := fits_of R.tab (by have := R.room; omega) (rows_len R.rows)
theorem SN.stays (R : SN w s.heap a L es ep t) : ¬ t.gaveWay = true := by
  unfold SetTable.gaveWay
  rw [pow_odd R.tab.pow R.tab.m7]
  decide
theorem nth_dummy (m : Nat) : ∀ (n : Nat) (p : SetTable.Probe), p.dummy = none → (nth m p n).dummy = none
  | 0, p, h => h
  | n + 1, p, h => nth_dummy m n (adv m p) (by unfold adv; split <;> exact h)
/-- the c-th step of a search -/
abbrev stp (m : Nat) (h : Int) (c : Nat) : SetTable.Probe := nth m (runAt m (SetTable.bits h % (m + 1)) (SetTable.bits h)) c
theorem stp_add (m : Nat) (h : Int) (c q : Nat) : nth m (stp m h c) q = stp m h (c + q) := (nth_add m c _ q).symm
/-- the search from its c-th step on: one of equal key, or the first empty slot -/
theorem look_from (R : SN w s.heap a L es ep t) {x : Addr} {k : NestedKey} (hx : Ky s.heap k x) (hu : A.units + 8 < cLine) {K : Nat} (hK : way t.mask (k.hash w) K ∉ t.place.toList) (hb : ∀ c, c < K → way t.mask (k.hash w) c ∈ t.place.toList) (hf : K < 10 * SetTable.turns t.mask)
    {Q : SetFound → Shared → Prop} (h1 : (∃ p ∈ L, p.2 = k) → Q (.there none) s) (h2 : Q (.free (way t.mask (k.hash w) K) false) s) :
    ∀ (f c : Nat) (from_ : Option SetTable.Probe), from_.getD (t.probeStart (k.hash w)) = stp t.mask (k.hash w) c → c ≤ K → K - c < f → wpAny (model P w) A (setSearchFrom a (.ref x) (k.hash w) true f from_) Q E s
  | 0, c, _, _, _, hlt => absurd hlt (Nat.not_lt_zero _)
  | f + 1, c, from_, hfr, hc, hlt => by
    obtain ⟨o, ho, hex, hd⟩ := R.ob
    rw [setSearchFrom_succ]
    refine wpAny_bind (wpAny_setState_of ho hd R.fits ?_)
    dsimp only
    refine wp_if_neg R.stays ?_
    try refine wpAny_bind (wpAny_pure ?_)
    have at_ : ∀ q, (nth t.mask (stp t.mask (k.hash w) c) q).j = way t.mask (k.hash w) (c + q) := fun q => congrArg SetTable.Probe.j (stp_add ..)
    have spec := go_spec t R.tab.ris R.tab.dm (fun i => (es[i]?.map (·.1)).getD 0) (k.hash w) (10 * SetTable.turns t.mask) (K - c) (stp t.mask (k.hash w) c) (nth_dummy _ _ _ rfl) (by omega)
      (fun q hq => by rw [at_]; exact hb _ (by omega)) (by rw [at_, show c + (K - c) = K by omega]; exact hK)
    rcases spec with ⟨q, i, hq, hi, hh, _, hpr⟩ | ⟨_, hpr⟩
    · have pr : t.probe (fun i => (es[i]?.map (·.1)).getD 0) (k.hash w) (from_.getD (t.probeStart (k.hash w))) = some (.candidate (way t.mask (k.hash w) (c + q)) i (stp t.mask (k.hash w) (c + (q + 1)))) := by
        rw [hfr, ← at_, ← stp_add]; exact hpr
      rw [pr]
      dsimp only
      rw [at_] at hi
      have il : i < L.length := by
        have := (List.getElem?_eq_some_iff.mp hi).1
        rw [Array.length_toList, R.tab.sz] at this
        exact this
      obtain ⟨p, hp⟩ : ∃ p, L[i]? = some p := ⟨_, List.getElem?_eq_getElem il⟩
      have pm := List.mem_of_getElem? hp
      have kp := R.key p pm
      have rest : wpAny (model P w) A (searchRest a (.ref x) (k.hash w) true f es t (way t.mask (k.hash w) (c + q)) i (stp t.mask (k.hash w) (c + (q + 1)))) Q E s := by
        unfold searchRest
        rw [rows_at R.rows hp]
        dsimp only
        refine wpAny_bind (wpAny_holding ((nestedKind P w).eqBool hu kp.is hx.is ?_))
        refine wpAny_bind (wpAny_setState_of ho hd R.fits ?_)
        dsimp only
        by_cases e : p.2 = k
        · refine wp_if_pos (by simp [e]) (wpAny_pure (h1 ⟨p, pm, e⟩))
        · refine wp_if_neg (by simp [e]) ?_
          try refine wpAny_bind (wpAny_pure ?_)
          rw [sameMem]
          dsimp only
          simp only [if_true, slot_live R.tab.ris hi, rows_at R.rows hp]
          refine wpAny_bind (wpAny_isSame_ref_self (wpAny_bind (wpAny_pure ?_)))
          simp only [if_true]
          refine wp_if_neg (by simp [e]) ?_
          exact look_from R hx hu hK hb hf h1 h2 f (c + (q + 1)) _ rfl (by omega) (by omega)
      by_cases hl : t.led = true
      · refine wp_if_neg (by simp [hl]) ?_
        try refine wpAny_bind (wpAny_pure ?_)
        exact rest
      · refine wp_if_pos (by simp [hl]) (wpAny_bind (seen_keys hx (fun y hy => ?_) ?_))
        · obtain ⟨e, he, rfl⟩ := List.mem_map.mp hy
          have he2 : e ∈ es.toList := by
            have : e ∈ es ∧ e.1 = k.hash w := by simpa using he
            simpa using this.1
          rw [R.rows] at he2
          obtain ⟨p2, hp2, rfl⟩ := List.mem_map.mp he2
          exact ⟨p2.2, p2.1, rfl, R.key p2 hp2⟩
        · refine wp_if_neg (by decide) ?_
          try refine wpAny_bind (wpAny_pure ?_)
          exact rest
    · have pr : t.probe (fun i => (es[i]?.map (·.1)).getD 0) (k.hash w) (from_.getD (t.probeStart (k.hash w))) = some (.empty (way t.mask (k.hash w) K) none) := by
        have e : way t.mask (k.hash w) K = (nth t.mask (stp t.mask (k.hash w) c) (K - c)).j := by rw [at_, show c + (K - c) = K by omega]
        rw [hfr, e]; exact hpr
      rw [pr]
      dsimp only
      exact wpAny_pure h2
theorem look_at (R : SN w s.heap a L es ep t) {x : Addr} {k : NestedKey} (hx : Ky s.heap k x) (hu : A.units + 8 < cLine) (few : L.length ≤ 9900) {Q : SetFound → Shared → Prop} (h1 : (∃ p ∈ L, p.2 = k) → Q (.there none) s) (h2 : ∀ j, j ∉ t.place.toList → Q (.free j false) s) :
    wpAny (model P w) A (setSearch a (.ref x) (k.hash w) true) Q E s := by
  have room := R.room
  have sz : t.place.toList.length = L.length := by rw [Array.length_toList, R.tab.sz]
  obtain ⟨K, k1, k2, k3⟩ := first R.tab.pow (l := t.place.toList) (by omega) (k.hash w)
  rw [sz] at k1
  unfold setSearch
  exact look_from R hx hu k2 k3 (by unfold SetTable.turns; omega) h1 (h2 _ k2) 100000 0 none rfl (Nat.zero_le _) (by omega)
end
end Sn
/-! Sets of nested tuples of numbers, of any size: adding. -/
namespace Sn
open PySem PySem.Spec PyProof.Rows L2
theorem range_get {α : Type} : ∀ L : List α, (List.range L.length).filterMap (fun i => L[i]?) = L
  | [] => rfl
  | x :: L => by
    rw [List.length_cons, List.range_succ_eq_map, List.filterMap_cons_some (f := fun i => (x :: L)[i]?) (b := x) rfl, List.filterMap_map]
    exact congrArg (x :: ·) (range_get L)
theorem order_perm {w : World} {L : SL} {es : Array (Int × Value)} {order : Array Nat} (hr : es.toList = rowsN w L) (hp : order.toList.Perm (List.range L.length)) :
    (order.filterMap (es[·]?)).toList = rowsN w (order.toList.filterMap fun i => L[i]?) ∧ (order.toList.filterMap fun i => L[i]?).Perm L := by
  constructor
  · have e : ∀ i, es[i]? = (L[i]?).map fun p : Addr × NestedKey => (p.2.hash w, Value.ref p.1) := fun i => by
      rw [← Array.getElem?_toList, hr]
      unfold rowsN
      rw [List.getElem?_map]
    rw [Array.toList_filterMap]
    unfold rowsN
    rw [List.map_filterMap]
    congr 1
    funext i
    exact e i
  · have := hp.filterMap fun i => L[i]?
    rw [range_get] at this
    exact this
section
variable {P : Program} {w : World} {A : Around} {E : Value → Shared → Prop} {s : Shared} {a : Addr} {L : SL} {es : Array (Int × Value)} {ep : Nat} {t : SetTable}
theorem grown_small {n : Nat} (h : n ≤ 9901) : SetTable.grown n = n * 4 := by
  unfold SetTable.grown
  rw [if_neg (by omega)]
theorem relay {o : Obj} (ho : s.heap.get? a = some o) (hex : o.ExactSet) (hd : o.data = .set es ep t) (hr : es.toList = rowsN w L) (T : Tab t L.length) (hm : L.length ≤ t.mask) (hk : ∀ p ∈ L, Ky s.heap p.2 p.1) (pl : t.plain = true) (ld : w.params.followText "set-order" = true ∨ t.led = true) (few : L.length ≤ 9901)
    {Q : Unit → Shared → Prop} (hQ : ∀ h' L' es' ep' t', Heap.SameBut a s.heap h' → SN w h' a L' es' ep' t' → L'.Perm L → Q () { s with heap := h' }) : wpAny (model P w) A (setRelay a (SetTable.grown L.length)) Q E s := by
  have hes := rows_len hr
  have hg := grown_small few
  obtain ⟨k, z1, z2, z3⟩ := size_pow (SetTable.grown L.length) (by rw [hg]; omega)
  rw [hg] at z1 z2 z3
  have hpow : 1 ≤ 2 ^ k := Nat.one_le_two_pow
  have e8 : 2 ^ (3 + k) = 8 * 2 ^ k := by rw [Nat.pow_add]
  obtain ⟨t', order, e, hp, T2, em, el, epl⟩ := anew (t := t) (hs := es.map (·.1)) (wanted := SetTable.grown L.length) (M := SetTable.sizeAbove (L.length * 4) - 1) (by rw [hg]) ⟨3 + k, by omega⟩ (by omega) (by rw [Array.size_map, hes]; omega)
  rw [Array.size_map, hes] at hp T2
  obtain ⟨r1, r2⟩ := order_perm hr hp
  have hs2 : (order.filterMap (es[·]?)).size = es.size := by rw [rows_len r1, r2.length_eq, hes]
  rw [setRelay_eq]
  refine wpAny_bind (wpAny_setState_of ho hd (fits_of T hm hes) ?_)
  dsimp only
  refine wp_if_neg (by rw [hg, sizeLine_eq]; omega) ?_
  try refine wpAny_bind (wpAny_pure ?_)
  rw [e]
  dsimp only
  refine wpAny_bind ?_
  refine wp_if_neg (by rw [hs2]; simp) ?_
  try refine wpAny_bind (wpAny_pure ?_)
  refine wpAny_pure ?_
  dsimp only
  refine wpAny_storeSet_of ho hd ?_ (by rw [hs2, hes, sizeLine_eq]; omega)
  have sb : Heap.SameBut a s.heap (s.heap.update a (Obj.putSet (order.filterMap (es[·]?)) t')) := Heap.SameBut.update ..
  refine hQ _ _ _ (ep + 1) t' sb ⟨⟨_, store_at ho hd, ⟨hex.1, hex.2.1, hex.2.2⟩, rfl⟩, r1, by rw [r2.length_eq]; exact T2, fun p hpm => (hk p (r2.mem_iff.mp hpm)).put ho hd sb, by rw [epl]; exact pl, by rw [el]; exact ld, ?_⟩ r2
  rw [r2.length_eq, em]
  omega
/-- one is added, or one of equal key stands there -/
theorem add (R : SN w s.heap a L es ep t) {x : Addr} {k : NestedKey} (hx : Ky s.heap k x) (hu : A.units + 8 < cLine) (few : L.length ≤ 9900) {Q : Bool → Shared → Prop}
    (hQ : ∀ b h' L' es' ep' t', Heap.SameBut a s.heap h' → SN w h' a L' es' ep' t' → (((∃ p ∈ L, p.2 = k) ∧ L' = L) ∨ L'.Perm ((x, k) :: L)) → Q b { s with heap := h' }) : wpAny (model P w) A (setAddHashed a (.ref x) (k.hash w)) Q E s := by
  obtain ⟨o, ho, hex, hd⟩ := R.ob
  have room := R.room
  have hes := rows_len R.rows
  unfold setAddHashed
  refine wpAny_holding ?_
  rw [show (100000 : Nat) = 99999 + 1 from rfl, setAddHashedIn_succ]
  refine wpAny_bind (wpAny_setState_of ho hd R.fits ?_)
  dsimp only
  refine wp_if_neg (by simp [byScan, Value.scannable]) ?_
  try refine wpAny_bind (wpAny_pure ?_)
  refine wpAny_bind (look_at R hx hu few (fun hm => ?_) fun j hj => ?_)
  · dsimp only
    exact wpAny_pure (hQ false s.heap L es ep t (Heap.SameBut.refl a s.heap) R (.inl ⟨hm, rfl⟩))
  · dsimp only
    refine wpAny_bind (wpAny_setState_of ho hd R.fits ?_)
    dsimp only
    obtain ⟨p1, p2, p3, p4, p5, p6, p7⟩ := R.tab.put hj
    have pl : (t.put j).1.plain = true := by rw [p6]; exact R.plain
    have ld : w.params.followText "set-order" = true ∨ (t.put j).1.led = true := by rw [p5]; exact R.led
    generalize hput : t.put j = pt at p1 p3 p4 p5 p6 p7 pl ld ⊢
    obtain ⟨t1, p⟩ := pt
    dsimp only at p1 p3 p4 p5 p6 p7 pl ld ⊢
    subst p1
    have hb : ∀ Q' : Bool → Shared → Prop, Q' true s → wpAny (model P w) A (hashByValue 8 (.ref x)) Q' E s := fun Q' q => (asked_key _ _ 8 _ hx.num hx.at_ hx.dep).2 _ _ _ q
    first
      | (refine wpAny_bind ?_; refine wp_if_pos pl ?_; refine hb _ ?_)
      | refine wp_if_pos pl (wpAny_bind (hb _ ?_))
    simp only [if_true]
    generalize hq : SetTable.below t.place j = q at p2 ⊢
    have rows1 : (SetTable.insertAt es q (k.hash w, Value.ref x)).toList = rowsN w (L.take q ++ (x, k) :: L.drop q) := by
      rw [SetTable.toList_insertAt, R.rows]
      unfold rowsN
      rw [List.map_append, List.map_cons, List.map_take, List.map_drop]
    have pm := put_perm L q (x, k)
    have len1 := pm.length_eq
    rw [List.length_cons] at len1
    have hes1 := rows_len rows1
    generalize SetTable.insertAt es q (k.hash w, Value.ref x) = es1 at rows1 hes1 ⊢
    generalize L.take q ++ (x, k) :: L.drop q = L1 at pm len1 rows1 hes1
    refine wpAny_bind (wpAny_storeSet_of ho hd ?_ (by rw [hes1, len1, sizeLine_eq]; omega))
    have sb : Heap.SameBut a s.heap (s.heap.update a (Obj.putSet es1 t1)) := Heap.SameBut.update ..
    have ho1 := store_at (es' := es1) (t' := t1) ho hd
    generalize s.heap.update a (Obj.putSet es1 t1) = h1 at sb ho1 ⊢
    have hk1 : ∀ p ∈ L1, Ky h1 p.2 p.1 := fun p hp => by
      rcases List.mem_cons.mp (pm.mem_iff.mp hp) with rfl | hp
      · exact hx.put ho hd sb
      · exact (R.key p hp).put ho hd sb
    have T1 : Tab t1 L1.length := by rw [len1]; exact p3
    have fill : t1.fill = L1.length := by rw [p7, len1]
    by_cases full : t1.tooFull = true
    · first
        | (refine wpAny_bind ?_; refine wp_if_pos (by simp [full]) ?_)
        | (refine wp_if_pos (by simp [full]) ?_; refine wpAny_bind ?_)
      rw [hes, show L.length + 1 = L1.length from len1.symm]
      refine relay (s := { s with heap := h1 }) ho1 ⟨hex.1, hex.2.1, hex.2.2⟩ rfl rows1 T1 (by rw [p4]; have := R.tab.m7; omega) hk1 pl ld (by omega) fun h2 L2 es2 ep2 t2 sb2 R2 pm2 => ?_
      exact wpAny_pure (hQ true h2 L2 es2 ep2 t2 (sb.trans sb2) R2 (.inr (pm2.trans pm)))
    · first
        | refine wp_if_neg (by simp [full]) ?_
        | (refine wpAny_bind ?_; refine wp_if_neg (by simp [full]) ?_; refine wpAny_pure ?_)
      refine wpAny_pure (hQ true h1 L1 es1 (ep + 1) t1 sb ⟨⟨_, ho1, ⟨hex.1, hex.2.1, hex.2.2⟩, rfl⟩, rows1, T1, hk1, pl, ld, ?_⟩ (.inr pm))
      unfold SetTable.tooFull at full
      rw [decide_eq_true_eq, fill] at full
      omega
end
end Sn
/-! set(xs), xs a list of nested tuples of numbers. -/
namespace Sn
open PySem PySem.Spec PyProof.Rows L2
/-- what a set has of the first i items -/
structure Has (ks : SL) (i : Nat) (L : SL) : Prop where
  sub : ∀ p ∈ L, p ∈ ks.take i
  all : ∀ p ∈ ks.take i, ∃ q ∈ L, q.2 = p.2
  len : L.length ≤ i
theorem Has.zero (ks : SL) : Has ks 0 [] := ⟨(fun p h => nomatch h), (fun p h => by rw [List.take_zero] at h; cases h), Nat.le_refl _⟩
theorem Has.next {ks L L' : SL} {i : Nat} {x : Addr × NestedKey} (g : Has ks i L) (h : ks[i]? = some x) (c : ((∃ p ∈ L, p.2 = x.2) ∧ L' = L) ∨ L'.Perm (x :: L)) : Has ks (i + 1) L' := by
  have tk : ks.take (i + 1) = ks.take i ++ [x] := by rw [List.take_add_one, h]; rfl
  rcases c with ⟨hx, rfl⟩ | pm
  · refine ⟨fun p hp => ?_, fun p hp => ?_, Nat.le_succ_of_le g.len⟩
    · rw [tk]; exact List.mem_append_left _ (g.sub p hp)
    · rw [tk, List.mem_append, List.mem_singleton] at hp
      rcases hp with hp | rfl
      · exact g.all p hp
      · exact hx
  · refine ⟨fun p hp => ?_, fun p hp => ?_, ?_⟩
    · rw [tk, List.mem_append, List.mem_singleton]
      rcases List.mem_cons.mp (pm.mem_iff.mp hp) with rfl | hp
      · exact .inr rfl
      · exact .inl (g.sub p hp)
    · rw [tk, List.mem_append, List.mem_singleton] at hp
      rcases hp with hp | rfl
      · obtain ⟨q, q1, q2⟩ := g.all p hp
        exact ⟨q, pm.mem_iff.mpr (List.mem_cons_of_mem _ q1), q2⟩
      · exact ⟨p, pm.mem_iff.mpr List.mem_cons_self, rfl⟩
    · rw [pm.length_eq, List.length_cons]
      have := g.len
      omega
section
variable {P : Program} {w : World} {A : Around} {E : Value → Shared → Prop} {s : Shared}
theorem SN.move {h h' : Heap} {a : Addr} {L : SL} {es : Array (Int × Value)} {ep : Nat} {t : SetTable} (R : SN w h a L es ep t) (ha : ∀ o, h.get? a = some o → h'.get? a = some o) (hk : ∀ p ∈ L, Ky h' p.2 p.1) : SN w h' a L es ep t := by
  obtain ⟨o, ho, r⟩ := R.ob
  exact ⟨⟨o, ha o ho, r⟩, R.rows, R.tab, hk, R.plain, R.led, R.room⟩
theorem Ky.all {h h' : Heap} {k : NestedKey} {a : Addr} (x : Ky h k a) (e : ∀ b o, h.get? b = some o → h'.get? b = some o) : Ky h' k a := x.keep fun b o _ _ hb _ => e b o hb
theorem sn_new {h : Heap} {a : Addr} (ho : h.get? a = some { cls := .type "set", dict := none, data := .set #[] 0 (.fresh 0 0 (!w.params.followText "set-order")) }) : SN w h a [] #[] 0 (.fresh 0 0 (!w.params.followText "set-order")) := by
  refine ⟨⟨_, ho, ⟨rfl, rfl, rfl⟩, rfl⟩, rfl, ⟨List.Pairwise.nil, rfl, rfl, ⟨3, rfl⟩, Nat.le_refl 7⟩, (fun p hp => nomatch hp), rfl, ?_, by show 0 * 5 < 7 * 3; decide⟩
  show _ ∨ (!w.params.followText "set-order") = true
  cases w.params.followText "set-order"
  · exact .inr rfl
  · exact .inl rfl
/-- the loop that adds all -/
theorem add_all {I : Addr} {fp wr : List Addr} {G : Array GenState → Array GenState → Prop} {n : Nat} {Pv : Nat → Value → Prop} {St : Nat → Shared → Prop} {R : Result → Shared → Prop}
    (W : WalksS P w A.in1 I fp wr G n Pv St) (S : Addr) (hSf : S ∉ fp) (ks : SL) (hn : n = ks.length) (few : ks.length ≤ 9900) (hval : ∀ i v, Pv i v → ∃ p, ks[i]? = some p ∧ v = .ref p.1)
    (h0 : Heap) (hk : ∀ p ∈ ks, Ky h0 p.2 p.1) (hS0 : h0.get? S = none) (hw0 : ∀ b ∈ wr, h0.get? b = none) (hu : A.in1.units + 8 < cLine) :
    ∀ (k i : Nat) (s : Shared), n - i = k → i ≤ n → St i s → (∀ b o, h0.get? b = some o → s.heap.get? b = some o) → (∃ L es ep t, SN w s.heap S L es ep t ∧ Has ks i L) →
      (∀ s' L es ep t, Moved (S :: wr) G s s' → SN w s'.heap S L es ep t → Has ks n L → (∀ b o, h0.get? b = some o → s'.heap.get? b = some o) → R (.ok (.ret .none)) s') →
      codeAny (model P w) A (.builtin "set.update.loop" ⟨[.ref S, .ref I], []⟩) R s := by
  have hSw : S ∉ wr := fun h => hSf (W.sub _ h)
  have hsub : ∀ b ∈ wr, b ∈ S :: wr := fun b hb => List.mem_cons_of_mem _ hb
  have old : ∀ {s s' : Shared}, Moved wr G s s' → (∀ b o, h0.get? b = some o → s.heap.get? b = some o) → ∀ b o, h0.get? b = some o → s'.heap.get? b = some o := fun hm hkp b o e => hm.heap b o (fun hb => by rw [hw0 b hb] at e; cases e) (hkp b o e)
  have mem : ∀ {i : Nat} {L : SL}, Has ks i L → ∀ p ∈ L, p ∈ ks := fun g p hp => List.mem_of_mem_take (g.sub p hp)
  intro k
  induction k with
  | zero =>
    intro i s hki hi hst hkp ⟨L, es, ep, t, hS, g⟩ hR
    obtain rfl : i = n := by omega
    refine codeAny_builtin F.entry_set_update_loop ?_
    rw [Around.under_plainId F.plain_set_update_loop _]
    show wpAny _ A.in1 (pyNext (.ref I) >>= _) _ _ s
    refine wpAny_bind (W.done s _ _ hst fun s' hm => ?_)
    show wpAny _ A.in1 (ret Value.none) _ _ s'
    have hkp' := old hm hkp
    exact wpAny_pure (hR s' L es ep t (hm.mono hsub) (hS.move (fun o e => hm.heap S o hSw e) fun p hp => (hk p (mem g p hp)).all hkp') g hkp')
  | succ k ih =>
    intro i s hki hi hst hkp ⟨L, es, ep, t, hS, g⟩ hR
    have lt : i < n := by omega
    refine codeAny_builtin F.entry_set_update_loop ?_
    rw [Around.under_plainId F.plain_set_update_loop _]
    show wpAny _ A.in1 (pyNext (.ref I) >>= _) _ _ s
    refine wpAny_bind (W.item i s _ _ lt hst fun v s' hP hst' hm => ?_)
    obtain ⟨p, hp, rfl⟩ := hval i v hP
    have hkp' := old hm hkp
    have hS' : SN w s'.heap S L es ep t := hS.move (fun o e => hm.heap S o hSw e) fun q hq => (hk q (mem g q hq)).all hkp'
    have hx : Ky s'.heap p.2 p.1 := (hk p (List.mem_of_getElem? hp)).all hkp'
    show wpAny _ A.in1 (holding [Value.ref p.1] (setAdd S (.ref p.1)) >>= _) _ _ s'
    refine wpAny_bind (wpAny_holding ?_)
    unfold setAdd
    refine wpAny_holding (wpAny_bind ((nestedKind P w).pyHash hu hx.is ?_))
    refine add (s := { s' with toks := s'.toks + (nestedKind P w).draws p.2 }) hS' hx hu (by have := g.len; omega) fun b h' L' es' ep' t' hsb hS2 c => ?_
    have g' := g.next hp c
    have hkp2 : ∀ b o, h0.get? b = some o → h'.get? b = some o := fun b o e => (hsb.2 b (fun z => by rw [z, hS0] at e; cases e)).trans (hkp' b o e)
    refine wpAny_pure ⟨plainId_quiet F.plain_set_update_loop _, ih (i + 1) _ (by omega) lt (W.frame _ s' _ _ hst' (Nat.le_add_right _ _) fun b hb o e => ?_) hkp2 ⟨L', es', ep', t', hS2, g'⟩ fun s'' L2 es2 ep2 t2 hm2 hS3 g2 hkp3 => ?_⟩
    · exact (hsb.2 b (fun z : b = S => hSf (z ▸ hb))).trans e
    · refine hR s'' L2 es2 ep2 t2 (Moved.trans W.gtrans ((hm.mono hsub).then_heap (Nat.le_add_right _ _) fun b o hb e => ?_) hm2) hS3 g2 hkp3
      exact (hsb.2 b (fun z : b = S => hb (by rw [z]; exact List.mem_cons_self))).trans e
end
end Sn
/-! the call set(xs). -/
namespace Sn
open PySem PySem.Spec PyProof.Rows L2
/-- a set as it is made -/
abbrev set0 (w : World) : Obj := { cls := .type "set", dict := none, data := .set #[] 0 (.fresh 0 0 (!w.params.followText "set-order")) }
theorem none_beyond {h : Heap} {b : Addr} (hb : h.objs.size ≤ b) : h.get? b = none := by
  cases q : h.get? b with
  | none => rfl
  | some o => exact absurd (Nat.lt_of_lt_of_le (Heap.lt_size q) hb) (Nat.lt_irrefl _)
section
variable {P : Program} {w : World} {A : Around} {E : Value → Shared → Prop} {s : Shared}
/-- set.__init__ of a list: the loop over it, from the state in which the set and the iterator have been made -/
theorem init_loop {B : Around} {l : Addr} {items : Array Value} {ks : SL} {R : Result → Shared → Prop} (hh : B.in1.handled = none) (hl : s.heap.IsList l items) (hit : items.toList = ks.map fun p => Value.ref p.1) (hk : ∀ p ∈ ks, Ky s.heap p.2 p.1) (few : ks.length ≤ 9900) (hu : B.in1.units + 8 < cLine)
    (h : ∀ (h' : Heap) (tk : Nat) L es ep t, SN w h' s.heap.objs.size L es ep t → Has ks ks.length L → (∀ b o, s.heap.get? b = some o → h'.get? b = some o) → R (.ok (.ret .none)) { s with heap := h', toks := tk }) :
    codeAny (model P w) B (.builtin "set.update.loop" ⟨[.ref s.heap.objs.size, .ref (s.heap.push (set0 w)).objs.size], []⟩) R { s with heap := (s.heap.push (set0 w)).push { cls := .type "list_iterator", data := .fields #[.ref l, .int 0 0] } } := by
  obtain ⟨ol, hol, hcl, nl, hdl⟩ := hl
  have hl1 : (s.heap.push (set0 w)).IsList l items := ⟨ol, Heap.get?_push_of_some _ hol, hcl, nl, hdl⟩
  have lt : l < s.heap.objs.size := Heap.lt_size hol
  have sz : (s.heap.push (set0 w)).objs.size = s.heap.objs.size + 1 := Heap.size_push ..
  have isz : items.size = ks.length := by
    have q := congrArg List.length hit
    rw [Array.length_toList, List.length_map] at q
    exact q
  have ne : l ≠ (s.heap.push (set0 w)).objs.size := by rw [sz]; exact Nat.ne_of_lt (Nat.lt_succ_of_lt lt)
  have nS : s.heap.objs.size ∉ [(s.heap.push (set0 w)).objs.size, l] := by
    rw [sz]
    simp only [List.mem_cons, List.not_mem_nil, or_false, not_or]
    exact ⟨Nat.ne_of_lt (Nat.lt_succ_self _), Nat.ne_of_gt lt⟩
  have val : ∀ (i : Nat) (v : Value), items[i]? = some v → ∃ p, ks[i]? = some p ∧ v = .ref p.1 := fun i v hv => by
    have q : items.toList[i]? = some v := by rw [Array.getElem?_toList]; exact hv
    rw [hit, List.getElem?_map] at q
    cases hq : ks[i]? with
    | none => rw [hq] at q; cases q
    | some p => rw [hq] at q; exact ⟨p, rfl, (Option.some.inj q).symm⟩
  refine add_all ((Walks.list hh _ l ne items).toS) s.heap.objs.size nS ks isz few val s.heap hk (none_beyond (Nat.le_refl _)) (fun b hb => none_beyond (by rw [List.mem_singleton.mp hb, sz]; omega)) hu items.size 0 _ (by omega) (Nat.zero_le _)
    ⟨⟨_, Heap.get?_push_size _ rfl, rfl, rfl⟩, hl1.push _⟩ (fun b o e => Heap.get?_push_of_some _ (Heap.get?_push_of_some _ e)) ⟨[], #[], 0, _, sn_new (Heap.get?_push_of_some _ (Heap.get?_push_size _ rfl)), Has.zero ks⟩ ?_
  intro s' L es ep t hm hS g kp
  obtain ⟨h', g2, d', tk', os'⟩ := s'
  have eg : g2 = s.gens := hm.gens
  have ed : d' = s.drawn := hm.drawn
  have eo : os' = s.os := hm.os
  subst eg; subst ed; subst eo
  rw [isz] at g
  exact h h' tk' L es ep t hS g kp
set_option maxHeartbeats 8000000 in
theorem call_set {l : Addr} {items : Array Value} (ks : SL) {Q : Value → Shared → Prop} (hh : A.handled = none) (hl : s.heap.IsList l items) (hit : items.toList = ks.map fun p => Value.ref p.1) (hk : ∀ p ∈ ks, Ky s.heap p.2 p.1) (few : ks.length ≤ 9900) (hu : A.units + 16 < cLine)
    (h : ∀ (h' : Heap) (tk : Nat) L es ep t, SN w h' s.heap.objs.size L es ep t → Has ks ks.length L → (∀ b o, s.heap.get? b = some o → h'.get? b = some o) → Q (.ref s.heap.objs.size) { s with heap := h', toks := tk }) :
    wpAny (model P w) A (call (.type "set") [.ref l]) Q E s := by
  obtain ⟨c, tl, hmro⟩ := F.called_set.mro
  have hmade := F.called_set.made
  have hsub := F.called_set.sub
  have h1 := F.called_set.notType
  have h2 := F.called_set.canCreate
  have hct := F.typeCall_set_1 (.ref l)
  refine wpAny_call (codeAny_of_tree ?_)
  show wpAny _ _ (callAny (.type "set") _) _ _ _
  refine wpAny_pure ⟨Code.quiet_builtin _ (by decide +kernel), codeAny_builtin F.entry_type_call ?_⟩
  rw [Around.under_plain (weight_type_call_type "set" [.ref l] []) rfl]
  repeat (any_goals (first | assumption | wp_step))
  refine codeAny_mono (code_set_led1 (.ref l) (E := E) (Q₁ := fun obj s₁ => obj = .ref s.heap.objs.size ∧ s₁ = { s with heap := s.heap.push (set0 w) }) ⟨rfl, rfl⟩) fun r s₁ hr => ?_
  cases r with
  | error e => exact hr
  | ok fl =>
  cases fl with
  | ret obj =>
    obtain ⟨rfl, rfl⟩ := hr
    have hT : Shared.TypeIs { s with heap := s.heap.push (set0 w) } (.ref s.heap.objs.size) "set" := ⟨_, Heap.get?_push_size _ rfl, rfl⟩
    have hli := F.called_set.init.lookup
    have hbi := F.called_set.init.bind (.ref s.heap.objs.size)
    repeat (any_goals (first | assumption | wp_step))
    refine codeAny_mono (codeAny_call_builtin (R := wants (fun r s₂ => r = .none ∧ ∃ h' tk L es ep t, s₂ = { s with heap := h', toks := tk } ∧ SN w h' s.heap.objs.size L es ep t ∧ Has ks ks.length L ∧ (∀ b o, s.heap.get? b = some o → h'.get? b = some o)) E) F.called_set.init.plain F.entry_set_init (check_set_init_1 hT ?_)) fun r₂ s₂ hr₂ => ?_
    · obtain ⟨ol, hol, hcl, nl, hdl⟩ := id hl
      obtain ⟨ocls, odict, odata, oslots⟩ := ol
      simp only at hcl hdl
      subst hcl; subst hdl
      have hol' : (s.heap.push (set0 w)).get? l = some { cls := .type "list", dict := odict, data := .seq items nl, slots := oslots } := Heap.get?_push_of_some _ hol
      have hsls := F.sub_list_set
      have hslf := F.sub_list_frozenset
      have hne : (Value.type "list" == Value.type "dict") = false := by decide
      have hl1 : (s.heap.push (set0 w)).IsList l items := ⟨_, hol', rfl, nl, rfl⟩
      unfold Builtin.«set.__init__» noKeywords Builtin.Frozenset.updateFrom
      generalize hPI : pyIter = PI
      wp_walk
      subst hPI
      refine wpAny_pyIter_list hl1 ?_
      refine wpAny_bind (wpAny_runValue ?_)
      refine init_loop (by simp [hh]) hl hit hk few (by simp; omega) ?_
      intro h' tk L es ep t hS g kp
      show wpAny _ _ _ _ _ _
      refine wpAny_pure ?_
      show wpAny _ _ (ret Value.none) _ _ _
      exact wpAny_pure ⟨rfl, h', tk, L, es, ep, t, rfl, hS, g, kp⟩
    · cases r₂ with
      | error e => exact hr₂
      | ok fl₂ =>
      cases fl₂ with
      | ret r =>
        obtain ⟨rfl, h', tk, L, es, ep, t, rfl, hS, g, kp⟩ := hr₂
        repeat (any_goals (first | assumption | wp_step))
        exact h _ _ _ _ _ _ hS g kp
      | _ => exact hr₂.elim
  | _ => exact hr.elim
end
end Sn
/-! sorted(xs), xs such a set. -/
namespace Sn
open PySem PySem.Spec PyProof.Rows L2
section
variable {P : Program} {w : World} {A : Around} {E : Value → Shared → Prop} {s : Shared} {a : Addr} {L : SL} {es : Array (Int × Value)} {ep : Nat} {t : SetTable}
theorem SN.setAt (R : SN w s.heap a L es ep t) : SetAt s.heap a es ep t := by
  obtain ⟨o, ho, hex, hd⟩ := R.ob
  exact ⟨o, ho, hex.1, hd⟩
/-- iter(xs) -/
theorem iterN {Q : Value → Shared → Prop} (R : SN w s.heap a L es ep t) (hQ : ∀ s₂ I, SetIt P w s a es s₂ I → Q (.ref I) s₂) : wpAny (model P w) A (pyIter (.ref a)) Q E s := by
  have ha := R.setAt
  have hf := R.fits
  obtain ⟨o, ho, hc, hd⟩ := id ha
  have hT : s.TypeIs (.ref a) "set" := ⟨o, ho, hc⟩
  have ne : a ≠ s.heap.objs.size := Nat.ne_of_lt (Heap.lt_size ho)
  have plain : (!t.plain && decide (es.size > 1)) = false := by rw [R.plain]; rfl
  have foot : ∀ b ∈ [s.heap.objs.size, a], b = a ∨ s.heap.objs.size ≤ b := fun b hb => by
    rcases List.mem_cons.mp hb with rfl | hb
    · exact .inr (Nat.le_refl _)
    · exact .inl (List.mem_singleton.mp hb)
  refine wpAny_pyIter_slot hT F.slot_set_iter (wpAny_call_entry F.slot_set_iter hT entry_s_iter ?_ (F.args_set_iter_1 _))
  unfold Builtin.«frozenset.__iter__»
  refine wpAny_bind (m := Builtin.Frozenset.slot0 "__iter__" _) (wpAny_of_eq (a := a) (by rfl) ?_)
  refine wpAny_bind (m := Builtin.Frozenset.sizeOf a) ?_
  unfold Builtin.Frozenset.sizeOf
  refine wpAny_bind (wpAny_setEntries_of ho hd hf (wpAny_pure ?_))
  first | refine wpAny_bind (setDrawn_at ha hf ?_) | refine wpAny_bind (wpAny_bind (setDrawn_at ha hf ?_))
  rw [plain, Bool.and_false]
  refine wp_if_neg (by simp) ?_
  first | refine wpAny_bind (wpAny_pure ?_) | refine wpAny_pure ?_
  refine wpAny_bind (wpAny_setEpoch_of ho hd hf ?_)
  refine wpAny_bind (wpAny_newObj_type (wpAny_pure ⟨_, rfl, "set_iterator", _, ⟨_, Heap.get?_push_size _ rfl, rfl⟩, slot_si_next.lookup, ?_⟩))
  cases hb : w.params.followText "set-order" with
  | true =>
    refine hQ _ _ (SetIt.of (out := (pickOrder (w.params.setOrder a ep) es).toList.map (·.2)) (fun A' hA' => walks_text (P := P) (ep := ep) hA' ne hf hb) (by rw [List.length_map, Array.length_toList]) (fun b u e => Heap.get?_push_of_some _ e) rfl rfl rfl (Nat.le_refl _) foot ((pick_perm _ es).map _) (fun j v q => ?_)
      ⟨⟨_, Heap.get?_push_size _ rfl, rfl, rfl⟩, ha.at fun u e => Heap.get?_push_of_some _ e⟩)
    rw [List.getElem?_map, Array.getElem?_toList]; exact q
  | false =>
    have led : t.led = true := R.led.resolve_left (by rw [hb]; exact Bool.false_ne_true)
    refine hQ _ _ (SetIt.of (out := es.toList.map (·.2)) (fun A' hA' => walks_led (P := P) (ep := ep) hA' ne hf R.tab.ris hb plain led) (by rw [List.length_map, Array.length_toList]) (fun b u e => Heap.get?_push_of_some _ e) rfl rfl rfl (Nat.le_refl _) foot (List.Perm.refl _) (fun j v q => ?_)
      ⟨⟨_, Heap.get?_push_size _ rfl, rfl, rfl⟩, ha.at fun u e => Heap.get?_push_of_some _ e⟩)
    rw [List.getElem?_map, Array.getElem?_toList]; exact q
/-- all that stands in it, in some order -/
theorem collectN {Q : List Value → Shared → Prop} (hh : A.handled = none) (R : SN w s.heap a L es ep t) (few : L.length ≤ 9900)
    (hQ : ∀ s' out, (∀ b o, s.heap.get? b = some o → s'.heap.get? b = some o) → s.heap.objs.size ≤ s'.heap.objs.size → s'.gens = s.gens → s'.os = s.os → out.Perm (L.map fun p => Value.ref p.1) → Q out s') : wpAny (model P w) A (collect (.ref a)) Q E s := by
  obtain ⟨o, ho, hex, hd⟩ := R.ob
  have lt : a < s.heap.objs.size := Heap.lt_size ho
  have Sa : s.heap.objs.size ≠ a := Nat.ne_of_gt lt
  have hes := rows_len R.rows
  have vals : es.toList.map (·.2) = L.map fun p => Value.ref p.1 := by
    rw [R.rows]
    unfold rowsN
    rw [List.map_map]; rfl
  unfold collect
  refine wpAny_bind (wpAny_runValue (codeAny_builtin F.entry_proto_collect ?_))
  rw [Around.under_plainId F.plain_proto_collect _]
  show wpAny _ A.in1 (newList [] >>= fun l => again (.builtin "list.__iadd__" ⟨[l, .ref a], []⟩)) _ _ s
  refine wpAny_bind (wpAny_newObj_type (wpAny_pure ⟨plainId_quiet F.plain_list_iadd _, codeAny_builtin F.entry_list_iadd ?_⟩))
  rw [Around.under_plainId F.plain_list_iadd _]
  have hS : (s.heap.push { cls := .type "list", data := .seq ([] : List Value).toArray }).get? s.heap.objs.size = some { cls := .type "list", data := .seq ([] : List Value).toArray } := Heap.get?_push_size _ rfl
  have up : ∀ b u, s.heap.get? b = some u → (s.heap.push { cls := .type "list", data := .seq ([] : List Value).toArray }).get? b = some u := fun b u e => Heap.get?_push_of_some _ e
  have z1 : (s.heap.push { cls := .type "list", data := .seq ([] : List Value).toArray }).objs.size = s.heap.objs.size + 1 := size_push' _ _
  have R1 : SN w (s.heap.push { cls := .type "list", data := .seq ([] : List Value).toArray }) a L es ep t := R.move (fun u e => up a u e) fun p hp => (R.key p hp).all up
  show wpAny _ A.in1 (Builtin.List.listExtendWith (.ref s.heap.objs.size) (.ref a) (.ref s.heap.objs.size)) _ _ _
  unfold Builtin.List.listExtendWith
  refine wpAny_bind (wpAny_typeOf (T := "set") ⟨o, up a o ho, hex.1⟩ ?_)
  have c1 : Builtin.List.listSameRef (.ref s.heap.objs.size) (.ref a) = false := by simp [Builtin.List.listSameRef, Sa]
  have c2 : (Value.type "set" == Value.type "list") = false := by decide
  have c3 : (Value.type "set" == Value.type "tuple") = false := by decide
  simp only [c1, c2, c3, Bool.or_false, Bool.false_eq_true, if_false]
  refine wpAny_bind (iterN (s := { s with heap := s.heap.push { cls := .type "list", data := .seq ([] : List Value).toArray } }) R1 fun s₂ I hit => ?_)
  obtain ⟨fp, St, out, Pv, k2, g2, o2, t2, hI, hfp, hp, hW, hPv, hst⟩ := hit
  have hI' : s.heap.objs.size + 1 ≤ I := by rw [← z1]; exact hI
  have Sf : s.heap.objs.size ∉ fp := fun hm => by
    rcases hfp _ hm with z | z
    · exact Sa z
    · exact absurd (show s.heap.objs.size + 1 ≤ s.heap.objs.size by rw [← z1]; exact z) (Nat.not_succ_le_self _)
  have T2 : s₂.TypeIs (.ref a) "set" := ⟨o, k2 a o (up a o ho), hex.1⟩
  refine wpAny_bind (wpAny_holding ?_)
  unfold Builtin.List.listLengthHint
  refine wpAny_bind (wpAny_specialOf T2 F.slot_set_len.lookup ?_)
  (generalize hid : ("set.__len__" : String) = id0; (fail_if_success (clear hid id0)); wp_delta; rw [show splitId id0 = some ("set", "__len__") from by subst hid; decide +kernel]; subst hid)
  refine wpAny_bind (wpAny_isInstance (b := true) T2 sub_set_self ?_)
  show wpAny _ A.in1 (typeOf (.ref a) >>= _) _ _ _
  refine wpAny_bind (wpAny_typeOf T2 (wpAny_pure ?_))
  show wpAny _ A.in1 (rule "list.extend.makes-room" >>= fun _ => Builtin.List.listTouch (.ref s.heap.objs.size) >>= fun _ =>
    again (.builtin "list.extend.loop" ⟨[.ref s.heap.objs.size, .ref I, .ref s.heap.objs.size], []⟩)) _ _ _
  refine wpAny_bind (wpAny_rule ?_)
  have S2 := k2 _ _ hS
  refine wpAny_bind ?_
  show wpAny _ A.in1 (updateSeq s.heap.objs.size (·.push .none) >>= fun _ => updateSeq s.heap.objs.size (·.pop)) _ _ _
  refine wpAny_bind (wpAny_updateSeq S2 rfl ?_)
  have S3 := Heap.get?_update_self (Obj.mapSeq (·.push Value.none)) S2 rfl
  refine wpAny_updateSeq S3 rfl ?_
  have S4 := Heap.get?_update_self (Obj.mapSeq (·.pop)) S3 rfl
  have oth : ∀ b u, b ≠ s.heap.objs.size → s₂.heap.get? b = some u → ((s₂.heap.update s.heap.objs.size (Obj.mapSeq (·.push Value.none))).update s.heap.objs.size (Obj.mapSeq (·.pop))).get? b = some u :=
    fun b u hb e => (Heap.get?_update_other _ _ (Ne.symm hb)).trans ((Heap.get?_update_other _ _ (Ne.symm hb)).trans e)
  have W := hW A.in1 hh
  have hn : out.length ≤ sizeLine := by rw [hp.length_eq, List.length_map, Array.length_toList, hes, sizeLine_eq]; omega
  have st2 := W.frame 0 _ ((s₂.heap.update s.heap.objs.size (Obj.mapSeq (·.push Value.none))).update s.heap.objs.size (Obj.mapSeq (·.pop))) hst fun b hb u e => oth b u (fun z => Sf (z ▸ hb)) e
  refine wpAny_pure ⟨plainId_quiet F.plain_extend_loop _, codeAny_extend_loopS W.toS hn _ Sf _ out.length 0 _ _ _ rfl (Nat.zero_le _) st2 S4 (ItemsOf.nil Pv) fun s' acc' c' hm hS' hacc => ?_⟩
  show wpAny _ A (load s.heap.objs.size >>= _) _ _ s'
  refine wpAny_bind (wpAny_load hS' (wpAny_pure ?_))
  show Q acc'.toList s'
  rw [items_out hacc hPv]
  rw [vals] at hp
  refine hQ s' out (fun b u e => ?_) (Nat.le_of_lt (Heap.lt_size hS')) (Eq.trans hm.gens g2) (Eq.trans hm.os o2) hp
  have bl : b < s.heap.objs.size := Heap.lt_size e
  refine hm.heap b u (fun z => ?_) (oth b u (Nat.ne_of_lt bl) (k2 b u (up b u e)))
  rcases List.mem_cons.mp z with z | z
  · exact absurd bl (by rw [z]; exact Nat.lt_irrefl _)
  · exact absurd bl (by rw [List.mem_singleton.mp z]; exact Nat.not_lt_of_le (Nat.le_of_succ_le hI'))
end
end Sn
/-! Runs: (tuple of numbers, number): as keys, as data; sorted(xs), xs a set or a dict of them. -/
namespace Sn
open PySem PySem.Spec PyProof.Rows L2
abbrev Run := List Int × Int
abbrev RL := List (Addr × Run)
def kk (r : Run) : NestedKey := .tup [.tup (r.1.map .num), .num r.2]
def rd (r : Run) : PyData := .tuple [.tuple (r.1.map PyData.int), .int r.2]
theorem num_inj : ∀ {a b : List Int}, a.map NestedKey.num = b.map NestedKey.num → a = b
  | [], [], _ => rfl
  | [], _ :: _, h => by simp at h
  | _ :: _, [], h => by simp at h
  | x :: a, y :: b, h => by
    simp only [List.map_cons, List.cons.injEq, NestedKey.num.injEq] at h
    rw [h.1, num_inj h.2]
theorem kk_inj {a b : Run} (h : kk a = kk b) : a = b := by
  unfold kk at h
  simp only [NestedKey.tup.injEq, List.cons.injEq, NestedKey.num.injEq, and_true] at h
  exact Prod.ext (num_inj h.1) h.2
theorem nums_ok : ∀ a : List Int, numKs (a.map .num) = true
  | [] => by rw [List.map_nil, numKs]
  | x :: a => by rw [List.map_cons, numKs, numK, nums_ok a]; rfl
theorem nums_depth : ∀ a : List Int, NestedKey.depthAll (a.map .num) = 0
  | [] => by rw [List.map_nil, NestedKey.depthAll]
  | x :: a => by rw [List.map_cons, NestedKey.depthAll, NestedKey.depth, nums_depth a]; rfl
theorem kk_num (r : Run) : numK (kk r) = true := by
  unfold kk
  rw [numK, numKs, numK, numKs, numK, numKs, nums_ok]; rfl
theorem kk_depth (r : Run) : (kk r).depth ≤ 8 := by
  unfold kk
  simp only [NestedKey.depth, NestedKey.depthAll, nums_depth]
  decide
theorem rd_depth (r : Run) : (rd r).depth ≤ 2 := by
  unfold rd
  simp only [PyData.depth, PyData.depthAll, PySem.W.depth_ints]
  decide
theorem rd_alike (a b : Run) : PySem.W.alike (rd a) (rd b) = true := by
  have := PySem.W.alike_ints a.1 b.1
  unfold rd
  simp only [PySem.W.alike, PySem.W.alikeAll, Bool.and_true]
  exact this
theorem perm_of_map {α β : Type} (f : α → β) {l1 l2 : List β} (h : l1.Perm l2) : ∀ ps : List α, l2 = ps.map f → ∃ qs : List α, qs.Perm ps ∧ l1 = qs.map f := by
  induction h with
  | nil =>
    intro ps e
    cases ps with
    | nil => exact ⟨[], .nil, rfl⟩
    | cons p ps => cases e
  | @cons x l1 l2 _ ih =>
    intro ps e
    cases ps with
    | nil => cases e
    | cons p ps =>
      rw [List.map_cons, List.cons.injEq] at e
      obtain ⟨qs, h1, h2⟩ := ih ps e.2
      exact ⟨p :: qs, h1.cons p, by rw [List.map_cons, e.1, h2]⟩
  | swap x y l =>
    intro ps e
    match ps, e with
    | p :: q :: ps, e =>
      simp only [List.map_cons, List.cons.injEq] at e
      exact ⟨q :: p :: ps, List.Perm.swap p q ps, by simp only [List.map_cons, List.cons.injEq]; exact ⟨e.2.1, e.1, e.2.2⟩⟩
  | trans _ _ ih1 ih2 =>
    intro ps e
    obtain ⟨qs, h1, h2⟩ := ih2 ps e
    obtain ⟨rs, h3, h4⟩ := ih1 qs h2
    exact ⟨rs, h3.trans h1, h4⟩
theorem each_ref : ∀ {vs : List Value} {bs : RL}, PySem.W.EachIs (fun v (b : Addr × Run) => v = Value.ref b.1) vs bs → vs = bs.map fun b => Value.ref b.1
  | _, [], .nil => rfl
  | _, _ :: _, .cons h t => by rw [List.map_cons, h, each_ref t]
theorem ref_each : ∀ bs : RL, PySem.W.EachIs (fun v (b : Addr × Run) => v = Value.ref b.1) (bs.map fun b => Value.ref b.1) bs
  | [] => .nil
  | b :: bs => .cons rfl (ref_each bs)
section
variable {P : Program} {w : World} {A : Around} {E : Value → Shared → Prop} {s : Shared} {a : Addr}
theorem reads_each {h h' : Heap} (k : ∀ b o, h.get? b = some o → h'.get? b = some o) {n : Addr} (hn : h.get? n = none) : ∀ {bs : RL}, (∀ p ∈ bs, ∃ as, Reads h (.ref p.1) (rd p.2) as) → PySem.W.EachIs (fun v (b : Addr × Run) => ∃ as, Reads h' v (rd b.2) as ∧ n ∉ as) (bs.map fun b => Value.ref b.1) bs
  | [], _ => .nil
  | b :: bs, hr => by
    obtain ⟨as, r⟩ := hr b List.mem_cons_self
    refine .cons ⟨as, PyProof.Rows.Reads.keeps (fun b o => k b o) r, fun hm => ?_⟩ (reads_each k hn fun p hp => hr p (List.mem_cons_of_mem _ hp))
    obtain ⟨o, ho⟩ := PyProof.On.reads_mem_get r n hm
    rw [hn] at ho
    cases ho
/-- sorted(xs), xs of whatever kind from which these are collected -/
theorem sorted_any {ps : RL} {Q : Value → Shared → Prop} (hu : A.units + 32 < cLine) (reads : ∀ p ∈ ps, ∃ as, Reads s.heap (.ref p.1) (rd p.2) as) (few : ps.length ≤ sizeLine)
    (hc : ∀ R : List Value → Shared → Prop, (∀ s' out, (∀ b o, s.heap.get? b = some o → s'.heap.get? b = some o) → s.heap.objs.size ≤ s'.heap.objs.size → s'.gens = s.gens → s'.os = s.os → out.Perm (ps.map fun p => Value.ref p.1) → R out s') → wpAny (model P w) A.in1 (collect (.ref a)) R E s)
    (hQ : ∀ s' p (out : Array Value) (c : Nat) (qs : RL), (∀ b o, s.heap.get? b = some o → s'.heap.get? b = some o) → s'.gens = s.gens → s'.os = s.os → s.heap.objs.size ≤ p → s'.heap.get? p = some (seqObj "list" out c) → out.toList = qs.map (fun q => Value.ref q.1) → qs.Perm ps → Q (.ref p) s') :
    wpAny (model P w) A (call (.builtin "sorted") [.ref a]) Q E s := by
  refine Calls.call_function_entry kind_sorted plain_sorted entry_sorted (args_sorted1 _) ?_
  unfold Builtin.«sorted»
  refine wpAny_bind (m := checkCount "sorted" 1 1 _) (wpAny_pure ?_)
  refine wpAny_bind (hc _ fun s1 vs k1 hz g1 o1 pm => ?_)
  obtain ⟨qs, pq, rfl⟩ := perm_of_map (fun p : Addr × Run => Value.ref p.1) pm ps rfl
  have ql : qs.length ≤ sizeLine := by rw [pq.length_eq]; exact few
  refine wpAny_bind (wpAny_newList ?_ (by rw [List.length_map]; exact ql))
  have hoL : (s1.heap.push (seqObj "list" (qs.map fun q => Value.ref q.1).toArray 0)).get? s1.heap.objs.size = some (seqObj "list" (qs.map fun q => Value.ref q.1).toArray 0) := Heap.get?_push_size _ rfl
  have k2 : ∀ b o, s.heap.get? b = some o → (s1.heap.push (seqObj "list" (qs.map fun q => Value.ref q.1).toArray 0)).get? b = some o := fun b o e => Heap.get?_push_of_some _ (k1 b o e)
  have nn : s.heap.get? s1.heap.objs.size = none := none_beyond hz
  refine wpAny_bind (wpAny_holding (PySem.W.list_sort_data (s := { s1 with heap := s1.heap.push (seqObj "list" (qs.map fun q => Value.ref q.1).toArray 0) }) (bs := qs) (enc := fun b => rd b.2) (R := fun v b => v = Value.ref b.1) hoL (ref_each qs) (reads_each k2 nn fun p hp => reads p (pq.mem_iff.mp hp)) (PySem.W.AllAlike.of fun b b' => rd_alike b.2 b'.2) (PySem.W.Sortable.tuples fun b => ⟨_, _, rfl⟩) ql
    (fun b hb => by have := rd_depth b.2; show A.in1.units + 1 + (rd b.2).depth < cLine; have : A.in1.units = A.units + 1 := rfl; omega) fun out a1 a2 => ?_))
  obtain ⟨c, hc2⟩ := sortedHeap_at (vs := qs.map fun q => Value.ref q.1) (out := out.toArray) hoL
  refine wpAny_pure ⟨_, rfl, hQ _ s1.heap.objs.size out.toArray c _ (fun b u e => ?_) g1 o1 hz hc2 (each_ref a2) ((List.mergeSort_perm _ _).trans pq)⟩
  have q := k1 b u e
  have hlt := Heap.lt_size q
  show (sortedHeap (s1.heap.push (seqObj "list" (qs.map fun q => Value.ref q.1).toArray 0)) s1.heap.objs.size (qs.map fun q => Value.ref q.1) out.toArray).get? b = some u
  rw [sortedHeap_old (Nat.ne_of_lt hlt) (by rw [size_push']; exact Nat.lt_succ_of_lt hlt)]
  exact Heap.get?_push_of_some _ q
/-- a dict of runs -/
def xsOf (ps : RL) : List (NestedKey × Addr × Value) := ps.map fun p => (kk p.2, p.1, Value.bool true)
theorem raw_dict {es : Array DictEntry} {ep : Nat} {xs : List (NestedKey × Addr × Value)} (lo : (a == sysModules) = false) (hx : ∀ i (hi : i < es.size), ∃ y, xs[i]? = some y ∧ es[i].key = .ref y.2.1 ∧ es[i].val = y.2.2) :
    PySem.W.KdlSrc P w "dict" a a es.size (fun i v => ∃ y, xs[i]? = some y ∧ v = .ref y.2.1) (fun h => h.DictRaw a es ep) where
  type := fun _ hm => hm.typeIs
  there := fun _ hm => by obtain ⟨o, ho, _⟩ := hm; exact ⟨Heap.lt_size ho, Heap.lt_size ho⟩
  keep := fun _ _ hm hk => hm.at fun o e => hk a (.inl rfl) o e
  notList := by decide
  notTuple := by decide
  hint := fun _ _ _ _ hm hq => PySem.W.kdl_hint_dict hm.typeIs hq
  iter := fun _ _ hh hm => ⟨_, _, (fun _ _ hq => wpAny_pyIter_dict_raw lo hm hq), Walks.keysH hh _ a (by obtain ⟨o, ho, _⟩ := hm; exact Nat.ne_of_lt (Heap.lt_size ho)) es ep hx, ⟨⟨_, Heap.get?_push_size _ rfl, rfl, rfl⟩, hm.at fun o e => Heap.get?_push_of_some _ e⟩⟩
theorem collectD {ps : RL} {R : List Value → Shared → Prop} (hh : A.handled = none) (lo : (a == sysModules) = false) (hD : s.heap.DictOfH (nestedKind P w) a (xsOf ps)) (few : ps.length ≤ sizeLine)
    (h : ∀ s' out, (∀ b o, s.heap.get? b = some o → s'.heap.get? b = some o) → s.heap.objs.size ≤ s'.heap.objs.size → s'.gens = s.gens → s'.os = s.os → out.Perm (ps.map fun p => Value.ref p.1) → R out s') : wpAny (model P w) A (collect (.ref a)) R E s := by
  obtain ⟨es, ep, hm, hs, hx⟩ := hD.raw
  have sz : es.size = ps.length := by rw [hs]; unfold xsOf; rw [List.length_map]
  have key := raw_dict (P := P) (w := w) (a := a) (xs := xsOf ps) (es := es) (ep := ep) lo fun i hi => by
    obtain ⟨y, h1, h2, h3, _⟩ := hx i hi
    exact ⟨y, h1, h2, h3⟩
  have lt := (key.there _ hm).1
  have upD : (s.heap.push { cls := .type "list", data := .seq ([] : List Value).toArray }).DictRaw a es ep := hm.at fun o e => Heap.get?_push_of_some _ e
  unfold collect
  refine wpAny_bind (wpAny_runValue (codeAny_builtin F.entry_proto_collect ?_))
  rw [Around.under_plainId F.plain_proto_collect _]
  show wpAny _ A.in1 (newList [] >>= fun l => again (.builtin "list.__iadd__" ⟨[l, .ref a], []⟩)) _ _ s
  refine wpAny_bind (wpAny_newObj_type (wpAny_pure ⟨plainId_quiet F.plain_list_iadd _, codeAny_builtin F.entry_list_iadd ?_⟩))
  rw [Around.under_plainId F.plain_list_iadd _]
  show wpAny _ A.in1 (Builtin.List.listExtendWith (.ref s.heap.objs.size) (.ref a) (.ref s.heap.objs.size)) _ _ _
  have step := PySem.W.kdl_extend (A := A) (s := { s with heap := s.heap.push { cls := .type "list", data := .seq ([] : List Value).toArray } })
    (R := fun (q : Result) (s' : Shared) => ∃ (acc : Array Value) (c : Nat), q = .ok (.ret (.ref s.heap.objs.size)) ∧ (∀ b o, s.heap.get? b = some o → s'.heap.get? b = some o) ∧ s'.gens = s.gens ∧ s'.os = s.os ∧
      s'.heap.get? s.heap.objs.size = some { cls := .type "list", dict := none, data := .seq acc c, slots := #[] } ∧ ItemsOf (fun i v => ∃ y, (xsOf ps)[i]? = some y ∧ v = .ref y.2.1) acc es.size)
    key hh upD s.heap.objs.size (Nat.ne_of_gt lt) (Nat.ne_of_gt lt) (.ref s.heap.objs.size) 0 (Heap.get?_push_size _ rfl)
    (fun h' tk acc c k hS it => ⟨acc, c, rfl, fun b o e => k b o (Nat.ne_of_lt (Heap.lt_size e)) (Heap.get?_push_of_some _ e), rfl, rfl, hS, it⟩) (by rw [sz]; exact few)
  have fin : ∀ (acc : Array Value) (c : Nat) (s' : Shared), (∀ b o, s.heap.get? b = some o → s'.heap.get? b = some o) → s'.gens = s.gens → s'.os = s.os → s'.heap.get? s.heap.objs.size = some { cls := .type "list", dict := none, data := .seq acc c, slots := #[] } →
      ItemsOf (fun i v => ∃ y, (xsOf ps)[i]? = some y ∧ v = .ref y.2.1) acc es.size → R acc.toList s' := fun acc c s' k g o hS it => by
    refine h _ _ k (Nat.le_of_lt (Heap.lt_size hS)) g o (List.Perm.of_eq ?_)
    refine List.ext_getElem? fun i => ?_
    rw [Array.getElem?_toList, List.getElem?_map]
    by_cases c : i < ps.length
    · have ci : i < acc.size := by rw [it.1, sz]; exact c
      obtain ⟨y, y1, y2⟩ := it.2 i acc[i] (Array.getElem?_eq_getElem ci)
      unfold xsOf at y1
      rw [List.getElem?_map, List.getElem?_eq_getElem c] at y1
      rw [Array.getElem?_eq_getElem ci, List.getElem?_eq_getElem c, y2, ← Option.some.inj y1]; rfl
    · rw [Array.getElem?_eq_none (by rw [it.1, sz]; omega), List.getElem?_eq_none (by omega)]; rfl
  refine wpAny_mono step (fun f s' x => ?_) fun e s' x => ?_
  · cases f with
    | done f =>
      obtain ⟨acc, c, e, k, g, o, hS, it⟩ := x
      cases e
      show wpAny _ A (load s.heap.objs.size >>= _) _ _ _
      refine wpAny_bind (wpAny_load hS ?_)
      exact wpAny_pure (fin acc c s' k g o hS it)
    | again c1 =>
      refine ⟨x.1, codeAny_mono x.2 fun q s2 y => ?_⟩
      obtain ⟨acc, c, rfl, k, g, o, hS, it⟩ := y
      show wpAny _ A (load s.heap.objs.size >>= _) _ _ _
      refine wpAny_bind (wpAny_load hS ?_)
      exact wpAny_pure (fin acc c s2 k g o hS it)
  · obtain ⟨_, _, e', _⟩ := x
    cases e'
end
end Sn
/-! Rules for sets and dicts of runs. -/
namespace Sn
open PySem PySem.Spec PyProof.Rows L2 Wd
/-- at a stands the run r -/
def RunAt (K : PySem.W.Frag) (H : Hp) (a : Addr) (r : Run) : Prop := ∃ t, SqT K H a [.ref t, .int r.2] ∧ SqT K H t (r.1.map V.int)
def RunsAt (K : PySem.W.Frag) (H : Hp) (ps : RL) : Prop := ∀ p ∈ ps, RunAt K H p.1 p.2
section
variable {X : Cx} {pins : List (Addr × Obj)} {σ : L2.St} {H : Hp} {s : Shared}
theorem nums_all {h : Heap} : ∀ {ns : List Int} {us : List Value}, Vals (ns.map V.int) us → NestedAll h (ns.map .num) us
  | [], _, .nil => .nil
  | n :: ns, _, .cons r t => by
    obtain ⟨tk, rfl⟩ := r
    exact .cons (.int n tk) (nums_all t)
theorem run_key (I : Inv X pins σ H s) {a : Addr} {r : Run} (h : RunAt X.K H a r) : Ky s.heap (kk r) a := by
  obtain ⟨t, h1, h2⟩ := h
  obtain ⟨its, rv, ⟨o, ho, hc, n, hd⟩, hz⟩ := I.tuple h1
  obtain ⟨its2, rv2, ⟨o2, ho2, hc2, n2, hd2⟩, hz2⟩ := I.tuple h2
  refine ⟨?_, kk_depth r, kk_num r⟩
  refine .tup ho hc hd ?_
  cases rv with
  | cons r1 rv =>
    cases rv with
    | cons r2 rv =>
      cases rv
      obtain rfl := r1
      obtain ⟨tk, rfl⟩ := r2
      exact .cons (.tup ho2 hc2 hd2 (nums_all rv2)) (.cons (.int _ _) .nil)
theorem dp_nums {K : PySem.W.Frag} : ∀ ns : List Int, DpAll K H (ns.map V.int) (ns.map PyData.int)
  | [] => .nil
  | n :: ns => .cons (.int n) (dp_nums ns)
theorem run_reads (I : Inv X pins σ H s) {a : Addr} {r : Run} (h : RunAt X.K H a r) : ∃ as, Reads s.heap (.ref a) (rd r) as := by
  obtain ⟨t, h1, h2⟩ := h
  exact Dp.reads I (rd r) (.ref a) (.ref a) (.tup h1 (.cons (.tup h2 (dp_nums _)) (.cons (.int _) .nil))) rfl
end
/-- the set at a, without its keys -/
structure SN0 (w : World) (h : Heap) (a : Addr) (L : SL) : Prop where
  ex : ∃ (es : Array (Int × Value)) (ep : Nat) (t : SetTable), (∃ o, h.get? a = some o ∧ o.ExactSet ∧ o.data = .set es ep t) ∧ es.toList = rowsN w L ∧ Tab t L.length ∧ t.plain = true ∧ (w.params.followText "set-order" = true ∨ t.led = true) ∧ L.length * 5 < t.mask * 3
theorem SN.zero {w : World} {h : Heap} {a : Addr} {L : SL} {es : Array (Int × Value)} {ep : Nat} {t : SetTable} (R : SN w h a L es ep t) : SN0 w h a L := ⟨es, ep, t, R.ob, R.rows, R.tab, R.plain, R.led, R.room⟩
theorem SN0.full {w : World} {h : Heap} {a : Addr} {L : SL} (R : SN0 w h a L) (hk : ∀ p ∈ L, Ky h p.2 p.1) : ∃ es ep t, SN w h a L es ep t := by
  obtain ⟨es, ep, t, h1, h2, h3, h4, h5, h6⟩ := R.ex
  exact ⟨es, ep, t, h1, h2, h3, hk, h4, h5, h6⟩
def toSL (L : RL) : SL := L.map fun p => (p.1, kk p.2)
theorem toSL_len (L : RL) : (toSL L).length = L.length := List.length_map _
theorem toSL_mem {L : RL} {q : Addr × NestedKey} (h : q ∈ toSL L) : ∃ p ∈ L, q = (p.1, kk p.2) := by
  obtain ⟨p, hp, e⟩ := List.mem_map.mp h
  exact ⟨p, hp, e.symm⟩
theorem toSL_of {ps : RL} : ∀ L : SL, (∀ q ∈ L, q ∈ toSL ps) → ∃ L' : RL, toSL L' = L ∧ ∀ p ∈ L', p ∈ ps
  | [], _ => ⟨[], rfl, (fun p h => nomatch h)⟩
  | q :: L, h => by
    obtain ⟨p, hp, e⟩ := toSL_mem (h q List.mem_cons_self)
    obtain ⟨L', e2, h2⟩ := toSL_of L fun x hx => h x (List.mem_cons_of_mem _ hx)
    refine ⟨p :: L', by unfold toSL at e2 ⊢; rw [List.map_cons, e2, e], fun x hx => ?_⟩
    rcases List.mem_cons.mp hx with rfl | hx
    · exact hp
    · exact h2 x hx
theorem toSL_refs (L : RL) : ((toSL L).map fun p => Value.ref p.1) = L.map fun p => Value.ref p.1 := by
  unfold toSL
  rw [List.map_map]; rfl
theorem refs_vals : ∀ {ps : RL} {us : List Value}, Vals (ps.map fun p => V.ref p.1) us → us = ps.map fun p => Value.ref p.1
  | [], _, .nil => rfl
  | p :: ks, _, .cons r t => by
    cases r
    rw [refs_vals t] <;> rfl
theorem vals_refs : ∀ ps : RL, Vals (ps.map fun p => V.ref p.1) (ps.map fun p => Value.ref p.1)
  | [] => .nil
  | p :: ks => .cons rfl (vals_refs ks)
/-- the set of runs at a -/
def SetRO (w : World) (a : Addr) (L : RL) : HO := .ext fun h => SN0 w h a (toSL L)
theorem setRO_new {P : Program} {w : World} {H : Hp} {h : Heap} {a : Addr} {L : RL} (R : SN0 w h a (toSL L)) : ObjOk P w H h a (SetRO w a L) := by
  have ⟨es, ep, t, ⟨o, ho, r⟩, q⟩ := R.ex
  refine ⟨R, ⟨o, ho⟩, fun h1 h2 p k => ?_⟩
  have ⟨es', ep', t', ⟨o', ho', r'⟩, q'⟩ := SN0.ex p
  exact ⟨es', ep', t', ⟨o', k o' ho', r'⟩, q'⟩
/-- set(xs), xs a list of runs -/
def rSetRun (K : PySem.W.Frag) (w : World) : List V → Hp → VK → Prop := fun xs H Q => ∃ (l : Addr) (ps : RL), xs = [V.ref l] ∧ SqL K H l (ps.map fun p => V.ref p.1) ∧ RunsAt K H ps ∧ ps.length ≤ 9900 ∧
  ∀ a L, H a = none → (∀ p ∈ L, p ∈ ps) → (∀ p ∈ ps, p.2 ∈ L.map (·.2)) → L.length ≤ ps.length → Q (.ref a) (upd H a (SetRO w a L))
/-- sorted(xs), xs a set of runs -/
def rSortRun (K : PySem.W.Frag) (w : World) : List V → Hp → VK → Prop := fun vs H Q => ∃ (a : Addr) (L : RL), vs = [V.ref a] ∧ H a = some (SetRO w a L) ∧ RunsAt K H L ∧ L.length ≤ 9900 ∧
  ∀ (L' : RL) (p : Addr), L'.Perm L → H p = none → Q (.ref p) (upd H p (.lst (L'.map fun q => V.ref q.1)))
section
variable {X : Cx}
theorem cr_setRun (hc : X.calm = true) (hu : X.A.units + 64 < cLine) : CallR X (.type "set") (rSetRun X.K X.w) := by
  intro pins s σ H xs us Q I r h
  obtain ⟨l, ps, rfl, hl, hk, hf, q⟩ := h
  rw [Vals.ref1 r]
  obtain ⟨its, rv, pl, hz⟩ := I.list hl
  have hn : H s.heap.objs.size = none := I.hok.fresh (Nat.le_refl _)
  refine call_set (P := X.prog) (w := X.w) (toSL ps) (I.ok.hd hc) pl.isList (by rw [toSL_refs]; simpa using refs_vals rv) (fun p hp => ?_) (by rw [toSL_len]; exact hf) (by omega) fun h' tk L es ep t R g k => ?_
  · obtain ⟨p', hp', rfl⟩ := toSL_mem hp
    exact run_key I (hk p' hp')
  · obtain ⟨L', rfl, hs⟩ := toSL_of (ps := ps) L fun x hx => List.mem_of_mem_take (g.sub x hx)
    refine ⟨.ref s.heap.objs.size, upd H s.heap.objs.size (SetRO X.w s.heap.objs.size L'), I.laid (t' := tk) k (Nat.le_refl _) (setRO_new R.zero), rfl, q _ L' hn hs (fun p hp => ?_) ?_⟩
    · obtain ⟨x, hx, e⟩ := g.all (p.1, kk p.2) (by rw [List.take_length]; exact List.mem_map.mpr ⟨p, hp, rfl⟩)
      obtain ⟨y, hy, rfl⟩ := toSL_mem hx
      exact List.mem_map.mpr ⟨y, hy, kk_inj e⟩
    · have := g.len
      rw [toSL_len, toSL_len] at this
      exact this
/-- a new list is laid by a call -/
theorem list_laid {pins : List (Addr × Obj)} {σ : L2.St} {H : Hp} {s s' : Shared} {p : Addr} {out : Array Value} {c : Nat} {qs : RL} (I : Inv X pins σ H s) (k : ∀ b o, s.heap.get? b = some o → s'.heap.get? b = some o) (g : s'.gens = s.gens) (o : s'.os = s.os) (hp : s.heap.objs.size ≤ p)
    (hg : s'.heap.get? p = some (seqObj "list" out c)) (hout : out.toList = qs.map fun q => Value.ref q.1) (few : qs.length ≤ sizeLine) : H p = none ∧ Inv X pins σ (upd H p (.lst (qs.map fun q => V.ref q.1))) s' := by
  have hlen : (qs.map fun q => V.ref q.1).length ≤ sizeLine := by rw [List.length_map]; exact few
  have hn : H p = none := I.hok.fresh hp
  have hv : Vals (qs.map fun q => V.ref q.1) out.toList := by rw [hout]; exact vals_refs qs
  have J : Inv X pins σ (upd H p (.lst (qs.map fun q => V.ref q.1))) { s with heap := s'.heap, gens := s'.gens, drawn := s'.drawn, toks := s'.toks } :=
    I.call (ch := []) (Un.laid k hp hn) (I.hok.laid k hp ⟨hlen, out.toList, c, hv, hg⟩) (by rw [g]; exact I.bare) (fun _ z => nomatch z)
  have e : s' = { s with heap := s'.heap, gens := s'.gens, drawn := s'.drawn, toks := s'.toks } := by
    cases s'
    cases s
    cases o
    rfl
  rw [e]
  exact ⟨hn, J⟩
theorem cr_sortRun (hc : X.calm = true) (hu : X.A.units + 64 < cLine) : CallR X (.builtin "sorted") (rSortRun X.K X.w) := by
  intro pins s σ H vs us Q I r h
  obtain ⟨a, L, rfl, ha, hk, few, q⟩ := h
  have R0 : SN0 X.w s.heap a (toSL L) := (I.hok a _ ha).1
  obtain ⟨es, ep, t, R⟩ := R0.full fun p hp => by
    obtain ⟨p', hp', rfl⟩ := toSL_mem hp
    exact run_key I (hk p' hp')
  rw [Vals.ref1 r]
  have few2 : L.length ≤ sizeLine := by rw [sizeLine_eq]; omega
  refine sorted_any (ps := L) (by omega) (fun p hp => run_reads I (hk p hp)) few2 (fun R' hR' => collectN (by simp [I.ok.hd hc]) R (by rw [toSL_len]; exact few) fun s' out k z g o pm => hR' s' out k z g o (by rw [toSL_refs] at pm; exact pm)) fun s' p out c qs k g o hp hg hout pm => ?_
  obtain ⟨hn, J⟩ := list_laid I k g o hp hg hout (by rw [pm.length_eq]; exact few2)
  exact ⟨.ref p, _, J, rfl, q qs p pm hn⟩
end
/-! ### dicts -/
def RDNat (P : Program) (w : World) (h : Heap) (d : Addr) (ps : RL) : Prop := (d == sysModules) = false ∧ ps.length ≤ sizeLine ∧ (ps.map (·.2)).Nodup ∧
  ∃ o es ep, h.get? d = some o ∧ o.ExactDict ∧ o.data = .dict es ep ∧ es.toList = (xsOf ps).map (entryOfKey (nestedKind P w))
/-- the dict of runs at d, each with True -/
def RDO (P : Program) (w : World) (d : Addr) (ps : RL) : HO := .ext fun h => RDNat P w h d ps
def addR (ps : RL) (a : Addr) (r : Run) : RL := if r ∈ ps.map (·.2) then ps else ps ++ [(a, r)]
theorem addR_nodup {ps : RL} {a : Addr} {r : Run} (h : (ps.map (·.2)).Nodup) : ((addR ps a r).map (·.2)).Nodup := by
  unfold addR
  split
  · exact h
  · rename_i c
    rw [List.map_append]
    refine List.nodup_append.mpr ⟨h, by simp, fun x hx y hy e => ?_⟩
    simp only [List.map_cons, List.map_nil, List.mem_singleton] at hy
    subst hy; subst e
    exact c hx
theorem addR_mem {ps : RL} {a : Addr} {r x : Run} : x ∈ (addR ps a r).map (·.2) ↔ x = r ∨ x ∈ ps.map (·.2) := by
  unfold addR
  split
  · rename_i c
    exact ⟨.inr, fun h => h.elim (fun e => e ▸ c) id⟩
  · rw [List.map_append, List.mem_append]
    simp only [List.map_cons, List.map_nil, List.mem_singleton]
    exact Or.comm
theorem addR_len {ps : RL} {a : Addr} {r : Run} : (addR ps a r).length ≤ ps.length + 1 := by
  unfold addR
  split
  · omega
  · rw [List.length_append]; simp
theorem addR_at {K : PySem.W.Frag} {H : Hp} {ps : RL} {a : Addr} {r : Run} (h : RunsAt K H ps) (h2 : RunAt K H a r) : RunsAt K H (addR ps a r) := by
  unfold addR
  split
  · exact h
  · intro p hp
    rcases List.mem_append.mp hp with hp | hp
    · exact h p hp
    · rw [List.mem_singleton.mp hp]; exact h2
theorem at_none {ps : RL} {r : Run} (h : r ∉ ps.map (·.2)) : atKey (xsOf ps) (kk r) = none := by
  unfold atKey xsOf
  rw [Option.map_eq_none_iff, List.find?_eq_none]
  intro x hx
  obtain ⟨p, hp, rfl⟩ := List.mem_map.mp hx
  simp only [decide_eq_true_eq]
  exact fun e => h (List.mem_map.mpr ⟨p, hp, kk_inj e⟩)
theorem put_same (r : Run) : ∀ ps : RL, (xsOf ps).map (putAt (kk r) (Value.bool true)) = xsOf ps
  | [] => rfl
  | p :: ps => by
    unfold xsOf
    rw [List.map_cons, List.map_cons]
    have := put_same r ps
    unfold xsOf at this
    rw [this]
    unfold putAt
    split <;> rfl
theorem at_some {ps : RL} {r : Run} (h : r ∈ ps.map (·.2)) : ∃ p, atKey (xsOf ps) (kk r) = some p := by
  cases hq : atKey (xsOf ps) (kk r) with
  | some p => exact ⟨p, rfl⟩
  | none =>
    unfold atKey xsOf at hq
    rw [Option.map_eq_none_iff, List.find?_eq_none] at hq
    obtain ⟨p, hp, rfl⟩ := List.mem_map.mp h
    exact absurd (by simp) (hq _ (List.mem_map.mpr ⟨p, hp, rfl⟩))
theorem stored_runs (ps : RL) (a : Addr) (r : Run) : storedH (xsOf ps) (kk r) a (Value.bool true) = xsOf (addR ps a r) := by
  unfold addR
  by_cases c : r ∈ ps.map (·.2)
  · obtain ⟨p, hp⟩ := at_some c
    rw [if_pos c, storedH_old hp, put_same]
  · rw [if_neg c, storedH_new (at_none c)]
    unfold xsOf
    rw [List.map_append]; rfl
theorem rd_new {P : Program} {w : World} {H : Hp} {h : Heap} {d : Addr} {ps : RL} (n : RDNat P w h d ps) : ObjOk P w H h d (RDO P w d ps) := by
  have ⟨_, _, _, o, _, _, ho, _⟩ := n
  refine ⟨n, ⟨o, ho⟩, fun h1 h2 ⟨a1, a2, a3, o, es, ep, b1, b2⟩ k => ⟨a1, a2, a3, o, es, ep, k _ b1, b2⟩⟩
theorem rd_empty {P : Program} {w : World} {h : Heap} (hb : sysModules < h.objs.size) : RDNat P w (h.push { cls := .type "dict", data := .dict #[] }) h.objs.size [] :=
  ⟨beq_eq_false_iff_ne.mpr (Nat.ne_of_gt hb), Nat.zero_le _, List.nodup_nil, _, #[], _, Heap.get?_push_size _ rfl, ⟨rfl, rfl, rfl⟩, rfl, rfl⟩
section
variable {X : Cx} {pins : List (Addr × Obj)} {σ : L2.St} {H : Hp} {s : Shared} {d : Addr} {ps : RL}
theorem xs_nodup : ∀ {ps : RL}, (ps.map (·.2)).Nodup → ((xsOf ps).map (·.1)).Nodup := fun {ps} h => by
  unfold xsOf
  rw [List.map_map]
  have : ps.map ((fun x : NestedKey × Addr × Value => x.1) ∘ fun p => (kk p.2, p.1, Value.bool true)) = (ps.map (·.2)).map kk := by rw [List.map_map]; rfl
  rw [this]
  exact List.pairwise_map.mpr (List.Pairwise.imp (fun hne e => hne (kk_inj e)) h)
theorem rd_of (I : Inv X pins σ H s) (h : H d = some (RDO X.prog X.w d ps)) (nk : RunsAt X.K H ps) : (d == sysModules) = false ∧ ps.length ≤ sizeLine ∧ (ps.map (·.2)).Nodup ∧ s.heap.DictOfH (nestedKind X.prog X.w) d (xsOf ps) := by
  obtain ⟨⟨h1, h2, h3, o, es, ep, ho, hx, hd, he⟩, _⟩ := I.hok d _ h
  refine ⟨h1, h2, h3, o, es, ep, ho, hx, hd, he, fun y hy => ?_, xs_nodup h3⟩
  unfold xsOf at hy
  obtain ⟨x, hx, rfl⟩ := List.mem_map.mp hy
  exact (run_key I (nk x hx)).is
end
def tRNew (P : Program) (w : World) : TE := fun _ H Q => ∀ d, H d = none → Q (.ref d) (upd H d (RDO P w d []))
/-- d[r] = True -/
def sRPut (P : Program) (w : World) (K : PySem.W.Frag) (td ty tv : TE) : TS := fun D σ H => tv σ H fun v H1 => td σ H1 fun x H2 => ty σ H2 fun y H3 => ∃ (r : Run) (a d : Addr) (ps : RL), v = .bl true ∧ y = .ref a ∧ x = .ref d ∧ H3 d = some (RDO P w d ps) ∧ RunsAt K H3 ps ∧ RunAt K H3 a r ∧ ps.length < sizeLine ∧
  D.nx σ (upd H3 d (RDO P w d (addR ps a r)))
/-- sorted(d) -/
def rSortDict (K : PySem.W.Frag) (P : Program) (w : World) : List V → Hp → VK → Prop := fun vs H Q => ∃ (d : Addr) (ps : RL), vs = [V.ref d] ∧ H d = some (RDO P w d ps) ∧ RunsAt K H ps ∧
  ∀ (qs : RL) (p : Addr), qs.Perm ps → H p = none → Q (.ref p) (upd H p (.lst (qs.map fun q => V.ref q.1)))
section
variable {X : Cx} {o i e value kx vx : Expr} {pos pos' : Pos} {td ty tv tk : TE}
theorem pe_rnew : PE X (.Dict [] [] pos) (tRNew X.prog X.w) := ⟨fun pins s σ H Q I h =>
  wpAny_Dict_empty ⟨.ref s.heap.objs.size, _, I.laid (a := s.heap.objs.size) (o := RDO X.prog X.w s.heap.objs.size []) (t' := s.toks) (fun _ _ q => Heap.get?_push_of_some _ q) (Nat.le_refl _) (rd_new (rd_empty I.big)), rfl, h _ (I.hok.fresh (Nat.le_refl _))⟩⟩
theorem ps_rput (hu : X.A.units + 64 < cLine) (ho : PE X o td) (hi : PE X i ty) (hv : PE X value tv) (hs : swapsWith value (some (.Subscript o i pos')) pos.line X.env = pure false) :
    PS X (.Assign [.Subscript o i pos'] value pos) (sRPut X.prog X.w X.K td ty tv) := by
  refine ⟨fun pins s σ H D I h => ?_⟩
  refine wpAny_Assign_Subscript (thn (hv.run pins s σ H _ I h) fun r s1 ⟨v, H1, I1, rv, q1⟩ => thn (ho.run pins s1 σ H1 _ I1 q1) fun u s2 ⟨x, H2, I2, rx, q2⟩ => thn (hi.run pins s2 σ H2 _ I2 q2) fun iv s3 ⟨y, H3, I3, ry, k, a, d, ps, ev, ea, ed, hd, nk, nv, hl, q3⟩ => ?_) hs
  subst ev ea ed
  obtain rfl : u = Value.ref d := rx
  obtain rfl : iv = Value.ref a := ry
  obtain rfl : r = Value.bool true := rv
  obtain ⟨h1, h2, h3, hD⟩ := rd_of I3 hd nk
  refine wpAny_setItem_heap (hsz := by unfold xsOf; rw [List.length_map]; exact h2) (knd := nestedKind X.prog X.w) (show X.A.in1.units + 8 < cLine by show X.A.units + 1 + 8 < cLine; omega) (run_key I3 nv).is hD fun h' dd' hs' => ?_
  rw [stored_runs] at dd'
  obtain ⟨ob, es, ep, b1, b2, b3, b4, _, _⟩ := dd'
  have := @addR_len ps a k
  exact ⟨σ, _, I3.write (e := d) (by rw [hd]; trivial) (.inl rfl) (fun b u hb z => (hs'.2 b hb).trans z) ⟨ob, b1⟩ (rd_new ⟨h1, by omega, addR_nodup h3, ob, es, ep, b1, b2, b3, b4⟩), q3⟩
theorem cr_sortDict (hc : X.calm = true) (hu : X.A.units + 64 < cLine) : CallR X (.builtin "sorted") (rSortDict X.K X.prog X.w) := by
  intro pins s σ H vs us Q I r h
  obtain ⟨d, ps, rfl, hd, hk, q⟩ := h
  obtain ⟨h1, h2, h3, hD⟩ := rd_of I hd hk
  rw [Vals.ref1 r]
  refine sorted_any (ps := ps) (by omega) (fun p hp => run_reads I (hk p hp)) h2 (fun R' hR' => collectD (by simp [I.ok.hd hc]) h1 hD h2 hR') fun s' p out c qs k g o hp hg hout pm => ?_
  obtain ⟨hn, J⟩ := list_laid I k g o hp hg hout (by rw [pm.length_eq]; exact h2)
  exact ⟨.ref p, _, J, rfl, q qs p pm hn⟩
end
end Sn
/-! The runs of a plan, and where they lead. -/
namespace Sn
open PySem PySem.Spec PyProof.Rows L2 Wd
/-- one run, and another behind it -/
def cat (a b : Run) : Run := (a.1 ++ b.1.map fun x => a.2 + x, a.2 + b.2)
def nilR : Run := ([], 0)
theorem cat_nil (a : Run) : cat a nilR = a := by
  unfold cat nilR
  simp
theorem nil_cat (a : Run) : cat nilR a = a := by
  unfold cat nilR
  simp
theorem cat_assoc (a b c : Run) : cat (cat a b) c = cat a (cat b c) := by
  unfold cat
  simp only [List.map_append, List.map_map, List.append_assoc, Prod.mk.injEq]
  refine ⟨?_, by omega⟩
  congr 2
  refine List.map_congr_left fun x _ => ?_
  show a.2 + b.2 + x = a.2 + (b.2 + x)
  omega
/-- one of each, one behind the other -/
def RowP : List (Run → Prop) → Run → Prop
  | [], r => r = nilR
  | F :: Fs, r => ∃ r1 r2, F r1 ∧ RowP Fs r2 ∧ r = cat r1 r2
theorem rowP_snoc : ∀ (Fs : List (Run → Prop)) (F : Run → Prop) (r : Run), RowP (Fs ++ [F]) r ↔ ∃ r1 r2, RowP Fs r1 ∧ F r2 ∧ r = cat r1 r2
  | [], F, r => by
    show (∃ r1 r2, F r1 ∧ r2 = nilR ∧ r = cat r1 r2) ↔ ∃ r1 r2, r1 = nilR ∧ F r2 ∧ r = cat r1 r2
    constructor
    · rintro ⟨r1, r2, h, rfl, rfl⟩; exact ⟨_, r1, rfl, h, by rw [cat_nil, nil_cat]⟩
    · rintro ⟨r1, r2, rfl, h, rfl⟩; exact ⟨r2, _, h, rfl, by rw [cat_nil, nil_cat]⟩
  | G :: Fs, F, r => by
    show (∃ r1 r2, G r1 ∧ RowP (Fs ++ [F]) r2 ∧ r = cat r1 r2) ↔ ∃ r1 r2, (∃ a b, G a ∧ RowP Fs b ∧ r1 = cat a b) ∧ F r2 ∧ r = cat r1 r2
    constructor
    · rintro ⟨r1, r2, h, h2, rfl⟩
      obtain ⟨a, b, h3, h4, rfl⟩ := (rowP_snoc Fs F r2).mp h2
      exact ⟨cat r1 a, b, ⟨r1, a, h, h3, rfl⟩, h4, (cat_assoc _ _ _).symm⟩
    · rintro ⟨r1, r2, ⟨a, b, h, h2, rfl⟩, h3, rfl⟩
      exact ⟨a, cat b r2, h, (rowP_snoc Fs F _).mpr ⟨b, r2, h2, h3, rfl⟩, cat_assoc _ _ _⟩
/-- n of one -/
def RunN (F : Run → Prop) (n : Nat) : Run → Prop := RowP (List.replicate n F)
mutual
/-- r is a run of p, from nought on -/
def RunOf : Pl → Run → Prop
  | .pat, r => r = ([0], 0)
  | .work a b, r => r.1 = [] ∧ a ≤ r.2 ∧ r.2 ≤ b
  | .row ps, r => RunRow ps r
  | .either ps, r => RunE ps r
  | .loop a b p, r => ∃ n : Nat, a ≤ (n : Int) ∧ (n : Int) ≤ b ∧ RunN (RunOf p) n r
def RunRow : List Pl → Run → Prop
  | [], r => r = nilR
  | p :: ps, r => ∃ r1 r2, RunOf p r1 ∧ RunRow ps r2 ∧ r = cat r1 r2
def RunE : List Pl → Run → Prop
  | [], _ => False
  | p :: ps, r => RunOf p r ∨ RunE ps r
end
theorem runRow_eq : ∀ (ps : List Pl) (r : Run), RunRow ps r ↔ RowP (ps.map RunOf) r
  | [], r => by rw [RunRow]; rfl
  | p :: ps, r => by
    rw [RunRow]
    show _ ↔ ∃ r1 r2, RunOf p r1 ∧ RowP (ps.map RunOf) r2 ∧ r = cat r1 r2
    constructor
    · rintro ⟨r1, r2, h, h2, e⟩; exact ⟨r1, r2, h, (runRow_eq ps r2).mp h2, e⟩
    · rintro ⟨r1, r2, h, h2, e⟩; exact ⟨r1, r2, h, (runRow_eq ps r2).mpr h2, e⟩
theorem runE_eq : ∀ (ps : List Pl) (r : Run), RunE ps r ↔ ∃ p ∈ ps, RunOf p r
  | [], r => by rw [RunE]; exact ⟨(fun h => h.elim), fun ⟨p, hp, _⟩ => nomatch hp⟩
  | p :: ps, r => by
    rw [RunE, runE_eq ps r]
    constructor
    · rintro (h | ⟨q, hq, h⟩)
      · exact ⟨p, List.mem_cons_self, h⟩
      · exact ⟨q, List.mem_cons_of_mem _ hq, h⟩
    · rintro ⟨q, hq, h⟩
      rcases List.mem_cons.mp hq with rfl | hq
      · exact .inl h
      · exact .inr ⟨q, hq, h⟩
/-- the pats lie between nought and the end -/
def WfR (r : Run) : Prop := (∀ x ∈ r.1, 0 ≤ x ∧ x ≤ r.2) ∧ 0 ≤ r.2
theorem wf_cat {a b : Run} (h1 : WfR a) (h2 : WfR b) : WfR (cat a b) := by
  obtain ⟨x1, x2⟩ := h1
  obtain ⟨y1, y2⟩ := h2
  refine ⟨fun x hx => ?_, by show 0 ≤ a.2 + b.2; omega⟩
  show 0 ≤ x ∧ x ≤ a.2 + b.2
  rcases List.mem_append.mp hx with hx | hx
  · have := x1 x hx; omega
  · obtain ⟨z, hz, rfl⟩ := List.mem_map.mp hx
    have := y1 z hz
    show 0 ≤ a.2 + z ∧ a.2 + z ≤ a.2 + b.2
    omega
theorem wf_row : ∀ (Fs : List (Run → Prop)), (∀ F ∈ Fs, ∀ r, F r → WfR r) → ∀ r, RowP Fs r → WfR r
  | [], _, r, h => by
    obtain rfl : r = nilR := h
    exact ⟨(fun x hx => nomatch hx), Int.le_refl 0⟩
  | F :: Fs, hF, r, h => by
    obtain ⟨r1, r2, h1, h2, rfl⟩ := h
    exact wf_cat (hF F List.mem_cons_self r1 h1) (wf_row Fs (fun G hG => hF G (List.mem_cons_of_mem _ hG)) r2 h2)
mutual
theorem wf_run : ∀ (p : Pl) (d l : Nat), okP d l p → ∀ r, RunOf p r → WfR r
  | .pat, d, l, _, r, h => by
    rw [RunOf] at h
    subst h
    refine ⟨fun x hx => ?_, Int.le_refl 0⟩
    rw [List.mem_singleton.mp hx]
    exact ⟨Int.le_refl 0, Int.le_refl 0⟩
  | .work a b, d, l, ok, r, h => by
    unfold okP at ok
    rw [RunOf] at h
    refine ⟨fun x hx => ?_, by omega⟩
    rw [h.1] at hx
    cases hx
  | .row ps, 0, l, ok, _, _ => by unfold okP at ok; exact ok.elim
  | .row ps, d + 1, l, ok, r, h => by
    unfold okP at ok
    rw [RunOf, runRow_eq] at h
    exact wf_row _ (fun F hF => wf_runs ps d l ok.2.2 F hF) r h
  | .either ps, 0, l, ok, _, _ => by unfold okP at ok; exact ok.elim
  | .either ps, d + 1, l, ok, r, h => by
    unfold okP at ok
    rw [RunOf, runE_eq] at h
    obtain ⟨p, hp, h⟩ := h
    exact wf_runs ps d l ok.2.2 _ (List.mem_map.mpr ⟨p, hp, rfl⟩) r h
  | .loop a b p, 0, l, ok, _, _ => by unfold okP at ok; exact ok.elim
  | .loop a b p, d + 1, 0, ok, _, _ => by unfold okP at ok; exact ok.elim
  | .loop a b p, d + 1, l + 1, ok, r, h => by
    unfold okP at ok
    rw [RunOf] at h
    obtain ⟨n, _, _, h⟩ := h
    exact wf_row _ (fun F hF r hr => by rw [List.eq_of_mem_replicate hF] at hr; exact wf_run p d l ok.2.2.2 r hr) r h
theorem wf_runs : ∀ (ps : List Pl) (d l : Nat), okPs d l ps → ∀ F ∈ ps.map RunOf, ∀ r, F r → WfR r
  | [], d, l, _, F, hF => nomatch hF
  | p :: ps, d, l, ok, F, hF => by
    unfold okPs at ok
    rw [List.map_cons] at hF
    rcases List.mem_cons.mp hF with rfl | hF
    · exact wf_run p d l ok.1
    · exact wf_runs ps d l ok.2 F hF
end
/-! ### gaps -/
/-- the last pat -/
def bh (lo hi : Int) : Int → List Int → Option Int
  | last, [] => some last
  | last, p :: ps => if lo ≤ p - last ∧ p - last ≤ hi then bh lo hi p ps else none
/-- the gap behind a run; none where it is bitten -/
def behind (lo hi g : Int) (r : Run) : Option Int := (bh lo hi (0 - g) r.1).bind fun last => if r.2 - last ≤ hi then some (r.2 - last) else none
/-- the same, hi + 1 where it is bitten -/
def bG (lo hi g : Nat) (r : Run) : Nat := if g ≤ hi then ((behind lo hi g r).map Int.toNat).getD (hi + 1) else hi + 1
theorem bh_app {lo hi : Int} : ∀ (a b : List Int) (last : Int), bh lo hi last (a ++ b) = (bh lo hi last a).bind fun x => bh lo hi x b
  | [], b, last => rfl
  | p :: a, b, last => by
    show (if _ then bh lo hi p (a ++ b) else none) = (if _ then bh lo hi p a else none).bind _
    split
    · exact bh_app a b p
    · rfl
theorem bh_shift {lo hi e : Int} : ∀ (ps : List Int) (last : Int), bh lo hi (e + last) (ps.map fun x => e + x) = (bh lo hi last ps).map fun x => e + x
  | [], last => rfl
  | p :: ps, last => by
    show (if lo ≤ e + p - (e + last) ∧ e + p - (e + last) ≤ hi then bh lo hi (e + p) (ps.map fun x => e + x) else none) = (if _ then bh lo hi p ps else none).map _
    rw [show e + p - (e + last) = p - last by omega]
    split
    · exact bh_shift ps p
    · rfl
theorem bh_le {lo hi : Int} {top : Int} : ∀ (ps : List Int) (last x : Int), last ≤ top → (∀ y ∈ ps, y ≤ top) → bh lo hi last ps = some x → x ≤ top
  | [], last, x, h, _, e => by cases e; exact h
  | p :: ps, last, x, h, h2, e => by
    have e' : (if lo ≤ p - last ∧ p - last ≤ hi then bh lo hi p ps else none) = some x := e
    split at e'
    · exact bh_le ps p x (h2 p List.mem_cons_self) (fun y hy => h2 y (List.mem_cons_of_mem _ hy)) e'
    · cases e'
theorem bG_out {lo hi g : Nat} {r : Run} (h : ¬ g ≤ hi) : bG lo hi g r = hi + 1 := if_neg h
theorem bG_in {lo hi g : Nat} {r : Run} (h : g ≤ hi) : bG lo hi g r = ((behind lo hi g r).map Int.toNat).getD (hi + 1) := if_pos h
/-- what behind tells, as a number -/
theorem behind_some {lo hi g : Nat} {r : Run} {x : Int} (w : WfR r) (h : behind lo hi g r = some x) : 0 ≤ x ∧ x ≤ hi := by
  unfold behind at h
  cases e : bh lo hi (0 - (g : Int)) r.1 with
  | none => rw [e] at h; cases h
  | some last =>
    rw [e] at h
    have h' : (if r.2 - last ≤ hi then some (r.2 - last) else none) = some x := h
    have := bh_le (top := r.2) r.1 _ _ (by have := w.2; omega) (fun y hy => (w.1 y hy).2) e
    split at h'
    · cases h'; omega
    · cases h'
theorem bG_le {lo hi g : Nat} {r : Run} (w : WfR r) : bG lo hi g r ≤ hi + 1 := by
  by_cases c : g ≤ hi
  · rw [bG_in c]
    cases e : behind lo hi g r with
    | none => exact Nat.le_refl _
    | some x =>
      have := behind_some w e
      show x.toNat ≤ hi + 1
      omega
  · rw [bG_out c]; exact Nat.le_refl _
theorem bG_nil {lo hi g : Nat} (h : g ≤ hi + 1) : bG lo hi g nilR = g := by
  by_cases c : g ≤ hi
  · rw [bG_in c]
    have : behind lo hi g nilR = some (g : Int) := by
      show (if (0 : Int) - (0 - (g : Int)) ≤ hi then some ((0 : Int) - (0 - (g : Int))) else none) = _
      rw [if_pos (by omega)]
      congr 1
      omega
    rw [this]
    show (g : Int).toNat = g
    omega
  · rw [bG_out c]; omega
theorem bG_pat {lo hi g : Nat} : bG lo hi g ([0], 0) = gP lo hi g := by
  unfold gP
  by_cases c : g ≤ hi
  · rw [bG_in c]
    have e : behind lo hi g ([0], 0) = if lo ≤ g then some 0 else none := by
      show ((if (lo : Int) ≤ 0 - (0 - (g : Int)) ∧ 0 - (0 - (g : Int)) ≤ hi then some (0 : Int) else none).bind fun last => if (0 : Int) - last ≤ hi then some ((0 : Int) - last) else none) = _
      by_cases c2 : lo ≤ g
      · rw [if_pos c2, if_pos (by omega)]
        show (if (0 : Int) - 0 ≤ hi then some ((0 : Int) - 0) else none) = _
        rw [if_pos (by omega)]; rfl
      · rw [if_neg c2, if_neg (by omega)]; rfl
    rw [e]
    by_cases c2 : lo ≤ g
    · rw [if_pos c2, if_pos ⟨c2, c⟩]; rfl
    · rw [if_neg c2, if_neg (fun z => c2 z.1)]; rfl
  · rw [bG_out c, if_neg (fun z => c z.2)]
theorem bG_work {lo hi g d : Nat} : bG lo hi g ([], (d : Int)) = gW hi g d := by
  unfold gW
  by_cases c : g ≤ hi
  · rw [bG_in c]
    have e : behind lo hi g ([], (d : Int)) = if g + d ≤ hi then some ((g + d : Nat) : Int) else none := by
      show (if (d : Int) - (0 - (g : Int)) ≤ hi then some ((d : Int) - (0 - (g : Int))) else none) = _
      by_cases c2 : g + d ≤ hi
      · rw [if_pos c2, if_pos (by omega)]
        congr 1
        omega
      · rw [if_neg c2, if_neg (by omega)]
    rw [e]
    by_cases c2 : g + d ≤ hi
    · rw [if_pos c2]
      show ((g + d : Nat) : Int).toNat = _
      omega
    · rw [if_neg c2]
      show hi + 1 = _
      omega
  · rw [bG_out c]; omega
theorem bG_cat {lo hi g : Nat} {a b : Run} (wa : WfR a) (wb : WfR b) (hl : lo ≤ hi) : bG lo hi g (cat a b) = bG lo hi (bG lo hi g a) b := by
  by_cases c : g ≤ hi
  · rw [bG_in c]
    cases e : bh lo hi (0 - (g : Int)) a.1 with
    | none =>
      have e1 : behind lo hi g a = none := by unfold behind; rw [e]; rfl
      have e2 : behind lo hi g (cat a b) = none := by unfold behind cat; simp only; rw [bh_app, e]; rfl
      have e3 : bG lo hi g a = hi + 1 := by rw [bG_in c, e1]; rfl
      rw [e2, e3, bG_out (by omega)]; rfl
    | some last =>
      have lt : last ≤ a.2 := bh_le (top := a.2) a.1 _ _ (by have := wa.2; omega) (fun y hy => (wa.1 y hy).2) e
      have e2 : behind lo hi g (cat a b) = (bh lo hi last (b.1.map fun x => a.2 + x)).bind fun l => if a.2 + b.2 - l ≤ hi then some (a.2 + b.2 - l) else none := by
        unfold behind cat
        simp only
        rw [bh_app, e]; rfl
      have sh : bh lo hi last (b.1.map fun x => a.2 + x) = (bh lo hi (last - a.2) b.1).map fun x => a.2 + x := by
        rw [← bh_shift, show a.2 + (last - a.2) = last by omega]
      rw [e2, sh]
      by_cases c2 : a.2 - last ≤ hi
      · have e1 : behind lo hi g a = some (a.2 - last) := by
          unfold behind
          rw [e]
          exact if_pos c2
        have e3 : bG lo hi g a = (a.2 - last).toNat := by rw [bG_in c, e1]; rfl
        have e4 : (((a.2 - last).toNat : Nat) : Int) = a.2 - last := by omega
        rw [e3, bG_in (by omega)]
        unfold behind
        rw [e4, show (0 : Int) - (a.2 - last) = last - a.2 by omega]
        cases bh lo hi (last - a.2) b.1 with
        | none => rfl
        | some l =>
          show ((if a.2 + b.2 - (a.2 + l) ≤ hi then some (a.2 + b.2 - (a.2 + l)) else none).map Int.toNat).getD (hi + 1) = ((if b.2 - l ≤ hi then some (b.2 - l) else none).map Int.toNat).getD (hi + 1)
          rw [show a.2 + b.2 - (a.2 + l) = b.2 - l by omega]
      · have e1 : behind lo hi g a = none := by
          unfold behind
          rw [e]
          exact if_neg c2
        have e3 : bG lo hi g a = hi + 1 := by rw [bG_in c, e1]; rfl
        rw [e3, bG_out (by omega)]
        cases hb : b.1 with
        | nil =>
          show ((if a.2 + b.2 - (a.2 + (last - a.2)) ≤ hi then some (a.2 + b.2 - (a.2 + (last - a.2))) else none).map Int.toNat).getD (hi + 1) = hi + 1
          rw [if_neg (by have := wb.2; omega)]; rfl
        | cons p ps =>
          have hp := (wb.1 p (by rw [hb]; exact List.mem_cons_self)).1
          show (((if (lo : Int) ≤ p - (last - a.2) ∧ p - (last - a.2) ≤ hi then bh lo hi p ps else none).map fun x => a.2 + x).bind _ |>.map Int.toNat).getD (hi + 1) = hi + 1
          rw [if_neg (by omega)]; rfl
  · rw [bG_out c, bG_out c, bG_out (by omega)]
/-! ### Led is by runs -/
def ByRuns (lo hi : Nat) (L : (Nat → Prop) → Nat → Prop) (F : Run → Prop) : Prop := ∀ G g, g ≤ hi + 1 → (L G g ↔ ∃ r, F r ∧ G (bG lo hi g r))
theorem by_seq {lo hi : Nat} (hl : lo ≤ hi) {L1 L2 : (Nat → Prop) → Nat → Prop} {F1 F2 : Run → Prop} (h1 : ByRuns lo hi L1 F1) (h2 : ByRuns lo hi L2 F2) (w1 : ∀ r, F1 r → WfR r) (w2 : ∀ r, F2 r → WfR r) :
    ByRuns lo hi (fun G g => L1 (L2 G) g) (fun r => ∃ r1 r2, F1 r1 ∧ F2 r2 ∧ r = cat r1 r2) := fun G g hg => by
  show L1 (L2 G) g ↔ ∃ r, (∃ r1 r2, F1 r1 ∧ F2 r2 ∧ r = cat r1 r2) ∧ G (bG lo hi g r)
  rw [h1 (L2 G) g hg]
  constructor
  · rintro ⟨r1, hr, h⟩
    obtain ⟨r2, hr2, h⟩ := (h2 G _ (bG_le (w1 r1 hr))).mp h
    exact ⟨cat r1 r2, ⟨r1, r2, hr, hr2, rfl⟩, by rw [bG_cat (w1 r1 hr) (w2 r2 hr2) hl]; exact h⟩
  · rintro ⟨r, ⟨r1, r2, hr, hr2, rfl⟩, h⟩
    rw [bG_cat (w1 r1 hr) (w2 r2 hr2) hl] at h
    exact ⟨r1, hr, (h2 G _ (bG_le (w1 r1 hr))).mpr ⟨r2, hr2, h⟩⟩
theorem by_nil {lo hi : Nat} : ByRuns lo hi (fun G g => G g) (fun r => r = nilR) := fun G g hg => by
  constructor
  · intro h; exact ⟨nilR, rfl, by rw [bG_nil hg]; exact h⟩
  · rintro ⟨r, rfl, h⟩; rw [bG_nil hg] at h; exact h
theorem by_iter {lo hi : Nat} (hl : lo ≤ hi) {L : (Nat → Prop) → Nat → Prop} {F : Run → Prop} (h : ByRuns lo hi L F) (wf : ∀ r, F r → WfR r) : ∀ n, ByRuns lo hi (iterP L n) (RunN F n)
  | 0 => by_nil
  | n + 1 => by_seq (L1 := L) (L2 := iterP L n) (F1 := F) (F2 := RunN F n) hl h (by_iter hl h wf n) wf (fun r hr => wf_row _ (fun G hG r hr => by rw [List.eq_of_mem_replicate hG] at hr; exact wf r hr) r hr)
mutual
theorem led_run {lo hi : Nat} (hl : lo ≤ hi) : ∀ (p : Pl) (d l : Nat), okP d l p → ByRuns lo hi (Led lo hi p) (RunOf p)
  | .pat, d, l, ok => fun G g hg => by
    rw [Led]
    constructor
    · intro h; exact ⟨([0], 0), by rw [RunOf], by rw [bG_pat]; exact h⟩
    · rintro ⟨r, hr, h⟩
      rw [RunOf] at hr
      subst hr
      rw [bG_pat] at h; exact h
  | .work a b, d, l, ok => fun G g hg => by
    unfold okP at ok
    rw [Led]
    constructor
    · rintro ⟨n, h1, h2, h⟩
      exact ⟨([], (n : Int)), by rw [RunOf]; exact ⟨rfl, h1, h2⟩, by rw [bG_work]; exact h⟩
    · rintro ⟨r, hr, h⟩
      rw [RunOf] at hr
      obtain ⟨h0, h1, h2⟩ := hr
      obtain ⟨r1, r2⟩ := r
      simp only at h0 h1 h2
      subst h0
      obtain ⟨n, rfl⟩ : ∃ n : Nat, r2 = n := ⟨r2.toNat, by omega⟩
      rw [bG_work] at h
      exact ⟨n, h1, h2, h⟩
  | .row ps, 0, l, ok => by unfold okP at ok; exact ok.elim
  | .row ps, d + 1, l, ok => fun G g hg => by
    unfold okP at ok
    simp only [Led, RunOf]
    exact leds_run hl ps d l ok.2.2 G g hg
  | .either ps, 0, l, ok => by unfold okP at ok; exact ok.elim
  | .either ps, d + 1, l, ok => fun G g hg => by
    unfold okP at ok
    simp only [Led, RunOf]
    exact ledE_run hl ps d l ok.2.2 G g hg
  | .loop a b p, 0, l, ok => by unfold okP at ok; exact ok.elim
  | .loop a b p, d + 1, 0, ok => by unfold okP at ok; exact ok.elim
  | .loop a b p, d + 1, l + 1, ok => fun G g hg => by
    unfold okP at ok
    have ih := by_iter hl (led_run hl p d l ok.2.2.2) (wf_run p d l ok.2.2.2)
    simp only [Led, RunOf]
    constructor
    · rintro ⟨n, h1, h2, h⟩
      obtain ⟨r, hr, h⟩ := (ih n G g hg).mp h
      exact ⟨r, ⟨n, h1, h2, hr⟩, h⟩
    · rintro ⟨r, ⟨n, h1, h2, hr⟩, h⟩
      exact ⟨n, h1, h2, (ih n G g hg).mpr ⟨r, hr, h⟩⟩
theorem leds_run {lo hi : Nat} (hl : lo ≤ hi) : ∀ (ps : List Pl) (d l : Nat), okPs d l ps → ByRuns lo hi (Leds lo hi ps) (RunRow ps)
  | [], d, l, ok => fun G g hg => by
    simp only [Leds, RunRow]
    exact by_nil G g hg
  | p :: ps, d, l, ok => fun G g hg => by
    unfold okPs at ok
    simp only [Leds, RunRow]
    exact by_seq hl (led_run hl p d l ok.1) (leds_run hl ps d l ok.2) (wf_run p d l ok.1) (fun r hr => wf_row _ (wf_runs ps d l ok.2) r ((runRow_eq ps r).mp hr)) G g hg
theorem ledE_run {lo hi : Nat} (hl : lo ≤ hi) : ∀ (ps : List Pl) (d l : Nat), okPs d l ps → ByRuns lo hi (LedE lo hi ps) (RunE ps)
  | [], d, l, ok => fun G g hg => by
    simp only [LedE, RunE]
    exact ⟨(fun h => h.elim), fun ⟨r, h, _⟩ => h.elim⟩
  | p :: ps, d, l, ok => fun G g hg => by
    unfold okPs at ok
    simp only [LedE, RunE]
    rw [led_run hl p d l ok.1 G g hg, ledE_run hl ps d l ok.2 G g hg]
    constructor
    · rintro (⟨r, h, h2⟩ | ⟨r, h, h2⟩)
      · exact ⟨r, .inl h, h2⟩
      · exact ⟨r, .inr h, h2⟩
    · rintro ⟨r, h | h, h2⟩
      · exact .inl ⟨r, h, h2⟩
      · exact .inr ⟨r, h, h2⟩
end
end Sn
/-! The shape of drawn plans; how many runs they have. -/
namespace Sn
open PySem PySem.Spec PyProof.Rows L2 Wd
mutual
def okS : Nat → Pl → Prop
  | _, .pat => True
  | _, .work a b => b ≤ a + 2
  | 0, .row _ => False
  | d + 1, .row ps => ps.length ≤ 3 ∧ okSs d ps
  | 0, .either _ => False
  | d + 1, .either ps => (ps.length ≤ 3 ∧ okSs d ps) ∨ (ps.length ≤ 10 ∧ okSs (d - 1) ps)
  | 0, .loop _ _ _ => False
  | d + 1, .loop a b p => b ≤ a + 1 ∧ okS d p
def okSs : Nat → List Pl → Prop
  | _, [] => True
  | d, p :: ps => okS d p ∧ okSs d ps
end
theorem okSs_snoc {d : Nat} : ∀ {ps : List Pl} {p : Pl}, okSs d ps → okS d p → okSs d (ps ++ [p])
  | [], p, _, h => by
    show okSs d [p]
    unfold okSs
    exact ⟨h, by unfold okSs; trivial⟩
  | q :: ps, p, h, h2 => by
    show okSs d (q :: (ps ++ [p]))
    unfold okSs at h ⊢
    exact ⟨h.1, okSs_snoc h.2 h2⟩
theorem okSs_at {d : Nat} : ∀ {ps : List Pl} {p : Pl}, okSs d ps → p ∈ ps → okS d p
  | q :: ps, p, h, hp => by
    unfold okSs at h
    rcases List.mem_cons.mp hp with rfl | hp
    · exact h.1
    · exact okSs_at h.2 hp
/-- how many runs a plan d levels deep has at the most -/
def MR : Nat → Nat
  | 0 => 3
  | 1 => 100
  | 2 => 3000
  | _ => 9000
theorem mr_le (d : Nat) : MR d ≤ 9000 := by
  match d with
  | 0 => decide
  | 1 => decide
  | 2 => decide
  | d + 3 => exact Nat.le_refl _
theorem mr_row {n d : Nat} (h : n ≤ 1500) (hd : 1 ≤ d) : n ≤ MR (d + 1) := by
  match d, hd with
  | 1, _ => show n ≤ 3000; omega
  | d + 2, _ => show n ≤ 9000; omega
theorem mr_loop {n d : Nat} (h : n ≤ 3000) (hd : 1 ≤ d) : n ≤ MR (d + 1) := by
  match d, hd with
  | 1, _ => show n ≤ 3000; omega
  | d + 2, _ => show n ≤ 9000; omega
theorem mr_three (d : Nat) (hd : d ≤ 2) : 3 * MR d ≤ MR (d + 1) := by
  match d, hd with
  | 0, _ => decide
  | 1, _ => decide
  | 2, _ => decide
theorem mr_ten (d : Nat) (hd : d ≤ 2) : 10 * MR (d - 1) ≤ MR (d + 1) := by
  match d, hd with
  | 0, _ => decide
  | 1, _ => decide
  | 2, _ => decide
/-- numbers that are unlike and lie in so small a range are few -/
theorem few_ints {l : List Int} {a : Int} {n : Nat} (nd : l.Nodup) (h : ∀ x ∈ l, a ≤ x ∧ x < a + n) : l.length ≤ n := by
  have h2 : (l.map fun x => (x - a).toNat).Nodup := List.pairwise_map.mpr (List.Pairwise.imp_of_mem (fun {x y} hx hy hne e => hne (by have := h x hx; have := h y hy; omega)) nd)
  have := nat_nodup_len (l.map fun x => (x - a).toNat) (List.range n) h2 fun x hx => by
    obtain ⟨y, hy, rfl⟩ := List.mem_map.mp hx
    have := h y hy
    exact List.mem_range.mpr (by omega)
  rw [List.length_map, List.length_range] at this
  exact this
/-- rows of one part without parts -/
theorem row_pat : ∀ (n : Nat) (r : Run), RunN (RunOf .pat) n r → r = (List.replicate n 0, 0)
  | 0, r, h => h
  | n + 1, r, h => by
    obtain ⟨r1, r2, h1, h2, rfl⟩ := h
    rw [RunOf] at h1
    rw [h1, row_pat n r2 h2]
    unfold cat
    simp [List.replicate_succ]
theorem row_work {a b : Int} : ∀ (n : Nat) (r : Run), RunN (RunOf (.work a b)) n r → r.1 = [] ∧ n * a ≤ r.2 ∧ r.2 ≤ n * b
  | 0, r, h => by
    obtain rfl : r = nilR := h
    exact ⟨rfl, by show ((0 : Nat) : Int) * a ≤ 0; simp, by show (0 : Int) ≤ ((0 : Nat) : Int) * b; simp⟩
  | n + 1, r, h => by
    obtain ⟨r1, r2, h1, h2, rfl⟩ := h
    rw [RunOf] at h1
    obtain ⟨x1, x2, x3⟩ := row_work n r2 h2
    unfold cat
    simp only [h1.1, x1, List.map_nil, List.append_nil, true_and]
    have e1 : ((n + 1 : Nat) : Int) * a = n * a + a := by rw [Int.natCast_add, Int.add_mul]; simp
    have e2 : ((n + 1 : Nat) : Int) * b = n * b + b := by rw [Int.natCast_add, Int.add_mul]; simp
    omega
theorem nodup_le_one {α : Type} {l : List α} {x : α} (nd : l.Nodup) (h : ∀ y ∈ l, y = x) : l.length ≤ 1 := by
  match l, nd, h with
  | [], _, _ => exact Nat.zero_le _
  | [a], _, _ => exact Nat.le_refl _
  | a :: b :: l, nd, h =>
    have e1 := h a List.mem_cons_self
    have e2 := h b (List.mem_cons_of_mem _ List.mem_cons_self)
    rw [e1, e2] at nd
    exact absurd List.mem_cons_self (List.nodup_cons.mp nd).1
theorem few_leaf {p : Pl} {n : Nat} {l : List Run} (hp : okS 0 p) (hn : n ≤ 9) (nd : l.Nodup) (h : ∀ r ∈ l, RunN (RunOf p) n r) : l.length ≤ 19 := by
  cases p with
  | pat => have := nodup_le_one nd fun r hr => row_pat n r (h r hr); omega
  | work a b =>
    unfold okS at hp
    have nd2 : (l.map (·.2)).Nodup := List.pairwise_map.mpr (List.Pairwise.imp_of_mem (fun {x y} hx hy hne e => hne (Prod.ext ((row_work n x (h x hx)).1.trans (row_work n y (h y hy)).1.symm) e)) nd)
    have := few_ints (a := n * a) (n := 2 * n + 1) nd2 fun x hx => by
      obtain ⟨r, hr, rfl⟩ := List.mem_map.mp hx
      obtain ⟨_, h1, h2⟩ := row_work n r (h r hr)
      have : (n : Int) * b ≤ n * (a + 2) := Int.mul_le_mul_of_nonneg_left hp (Int.natCast_nonneg n)
      rw [Int.mul_add] at this
      omega
    rw [List.length_map] at this
    omega
  | row ps => unfold okS at hp; exact hp.elim
  | either ps => unfold okS at hp; exact hp.elim
  | loop a b p => unfold okS at hp; exact hp.elim
/-! ### rows of all runs -/
/-- the runs of such a length -/
def LenR (n : Nat) (F : Run → Prop) : Prop := ∀ r, F r → r.1.length ≤ n
theorem len_row {n : Nat} : ∀ (Fs : List (Run → Prop)), (∀ F ∈ Fs, LenR n F) → ∀ r, RowP Fs r → r.1.length ≤ Fs.length * n
  | [], _, r, h => by
    obtain rfl : r = nilR := h
    exact Nat.zero_le _
  | F :: Fs, hF, r, h => by
    obtain ⟨r1, r2, h1, h2, rfl⟩ := h
    have := hF F List.mem_cons_self r1 h1
    have := len_row Fs (fun G hG => hF G (List.mem_cons_of_mem _ hG)) r2 h2
    unfold cat
    rw [List.length_append, List.length_map, List.length_cons, Nat.add_mul]
    omega
mutual
theorem len_run : ∀ (p : Pl) (d l : Nat), okP d l p → LenR (20 ^ d) (RunOf p)
  | .pat, d, l, _, r, h => by
    rw [RunOf] at h
    subst h
    exact Nat.pos_of_ne_zero (by simp)
  | .work a b, d, l, ok, r, h => by
    rw [RunOf] at h
    rw [h.1]
    exact Nat.zero_le _
  | .row ps, 0, l, ok, _, _ => by unfold okP at ok; exact ok.elim
  | .row ps, d + 1, l, ok, r, h => by
    unfold okP at ok
    rw [RunOf, runRow_eq] at h
    have := len_row _ (fun F hF => len_runs ps d l ok.2.2 F hF) r h
    rw [List.length_map] at this
    rw [Nat.pow_succ, Nat.mul_comm]
    exact Nat.le_trans this (Nat.mul_le_mul_right _ ok.2.1)
  | .either ps, 0, l, ok, _, _ => by unfold okP at ok; exact ok.elim
  | .either ps, d + 1, l, ok, r, h => by
    unfold okP at ok
    rw [RunOf, runE_eq] at h
    obtain ⟨p, hp, h⟩ := h
    have := len_runs ps d l ok.2.2 _ (List.mem_map.mpr ⟨p, hp, rfl⟩) r h
    exact Nat.le_trans this (Nat.pow_le_pow_right (by decide) (Nat.le_succ d))
  | .loop a b p, 0, l, ok, _, _ => by unfold okP at ok; exact ok.elim
  | .loop a b p, d + 1, 0, ok, _, _ => by unfold okP at ok; exact ok.elim
  | .loop a b p, d + 1, l + 1, ok, r, h => by
    unfold okP at ok
    rw [RunOf] at h
    obtain ⟨n, _, h2, h⟩ := h
    have := len_row _ (fun F hF => by rw [List.eq_of_mem_replicate hF]; exact len_run p d l ok.2.2.2) r h
    rw [List.length_replicate] at this
    rw [Nat.pow_succ, Nat.mul_comm]
    exact Nat.le_trans this (Nat.mul_le_mul_right _ (by omega))
theorem len_runs : ∀ (ps : List Pl) (d l : Nat), okPs d l ps → ∀ F ∈ ps.map RunOf, LenR (20 ^ d) F
  | [], d, l, _, F, hF => nomatch hF
  | p :: ps, d, l, ok, F, hF => by
    unfold okPs at ok
    rw [List.map_cons] at hF
    rcases List.mem_cons.mp hF with rfl | hF
    · exact len_run p d l ok.1
    · exact len_runs ps d l ok.2 F hF
end
/-- a row of lists: how many at the most -/
def prodL : List Nat → Nat
  | [] => 1
  | n :: ns => n * prodL ns
theorem prodL_snoc : ∀ (ns : List Nat) (n : Nat), prodL (ns ++ [n]) = prodL ns * n
  | [], n => by show n * 1 = 1 * n; omega
  | m :: ns, n => by
    show m * prodL (ns ++ [n]) = m * prodL ns * n
    rw [prodL_snoc ns n, Nat.mul_assoc]
theorem prodL_le {m : Nat} (hm : 1 ≤ m) : ∀ (ns : List Nat), (∀ n ∈ ns, n ≤ m) → prodL ns ≤ m ^ ns.length
  | [], _ => Nat.le_refl _
  | n :: ns, h => by
    show n * prodL ns ≤ m ^ (ns.length + 1)
    rw [Nat.pow_succ, Nat.mul_comm]
    exact Nat.mul_le_mul (prodL_le hm ns fun x hx => h x (List.mem_cons_of_mem _ hx)) (h n List.mem_cons_self)
/-! ### a search over gaps -/
/-- a gap reached from nought -/
inductive Rch (lo hi : Nat) (F : Run → Prop) : Nat → Prop
  | zero : Rch lo hi F 0
  | step {g : Nat} {r : Run} : Rch lo hi F g → g ≤ hi → F r → Rch lo hi F (bG lo hi g r)
/-- some rounds are bitten -/
def Bites (lo hi : Nat) (p : Pl) : Prop := ∃ m, iterP (Led lo hi p) m (fun g => g = hi + 1) 0
theorem rch_iter {lo hi : Nat} (hl : lo ≤ hi) {p : Pl} {d l : Nat} (ok : okP d l p) {g : Nat} (h : Rch lo hi (RunOf p) g) : ∀ m, iterP (Led lo hi p) m (fun g => g = hi + 1) g → Bites lo hi p := by
  induction h with
  | zero => exact fun m h => ⟨m, h⟩
  | @step g r hg g1 hr ih => exact fun m h => ih (m + 1) ((led_run hl p d l ok _ g (by omega)).mpr ⟨r, hr, h⟩)
theorem bites_of {lo hi : Nat} (hl : lo ≤ hi) {p : Pl} {d l : Nat} (ok : okP d l p) {g : Nat} {r : Run} (h : Rch lo hi (RunOf p) g) (h1 : g ≤ hi) (hr : RunOf p r) (hb : bG lo hi g r = hi + 1) : Bites lo hi p :=
  rch_iter hl ok h 1 ((led_run hl p d l ok _ g (by omega)).mpr ⟨r, hr, hb⟩)
theorem no_bites {lo hi : Nat} (hl : lo ≤ hi) {p : Pl} {d l : Nat} (ok : okP d l p) {Z : Nat → Prop} (z0 : Z 0) (hz : ∀ g, Z g → g ≤ hi) (hs : ∀ g r, Z g → RunOf p r → Z (bG lo hi g r)) : ¬ Bites lo hi p := by
  rintro ⟨m, h⟩
  have key : ∀ m g, Z g → iterP (Led lo hi p) m (fun g => g = hi + 1) g → False := by
    intro m
    induction m with
    | zero =>
      intro g hg h
      have := hz g hg
      have : g = hi + 1 := h
      omega
    | succ m ih =>
      intro g hg h
      obtain ⟨r, hr, h2⟩ := (led_run hl p d l ok _ g (by have := hz g hg; omega)).mp h
      exact ih _ (hs g r hg hr) h2
  exact key m 0 z0 h
end Sn
namespace K05
open PySem PySem.Spec PyProof.Rows L2 Wd
def top (i : Nat) : Stmt := PySem.Challenge.pw_windowdog_k05_whole_judged_right.main.body.getD i (.Pass ⟨0, 0, 0, 0⟩)
/-- the built-in names that the text calls -/
structure Txt (K : PySem.W.Frag) (mg : Str → Option Value) : Prop where
  n_isinstance : mg "isinstance" = none
  n_len : mg "len" = none
  n_int : mg "int" = none
  n_bool : mg "bool" = none
  n_range : mg "range" = none
  n_list : mg "list" = none
  n_tuple : mg "tuple" = none
  n_str : mg "str" = none
  n_sum : mg "sum" = none
section
variable {P : Program} {w : World} {K : PySem.W.Frag} {mg : Str → Option Value} {base : Heap}
abbrev s_law_start : Stmt := top 38
theorem sc_law_start : FnScope ["_law_script", "_law_mixed", "_law_cell"] ["_law_script"] (C8.fnScope s_law_start) := C8.fnScope_by (by decide +kernel)
def sp_start (K : PySem.W.Frag) : Sp := fun vs H Q _ => ∃ (B : Hp) (sc : Addr) (ns : List Int), vs = [.ref sc] ∧ SqL K B sc (ns.map V.int) ∧ Same B H ∧ ns.length ≤ 63 ∧ ∀ H' S, H S = none → Same H H' → Dst K B H' S → Q (.ref S) H'
theorem ok_start (T : Txt K mg) {f : Addr} {fd : FuncData} (D : C8.Def K mg "_law_start" s_law_start f fd) (b : Binds K fd ["_law_script"] []) : C8.Cal P w K mg base 1 "_law_start" (sp_start K) [] := by
  refine C8.cal0 D b .nil sc_law_start (fun vs H Q E h => ?_) fun cdv A outer s H vs Q E hr h => ?_
  · obtain ⟨B, sc, ns, rfl, _⟩ := h; rfl
  · obtain ⟨B, sc, ns, rfl, hB, sB, hl, q⟩ := h
    have hS := list_same sB hB
    have nd := sc_law_start.nd
    refine ⟨_, (pss_cons (ps_set (i := 1) nd rfl (Or.inl rfl) pe_int)
      (pss_cons (ps_for PassesOwn.never rfl (pi_list (pv 0)) (pg_name (i := 2) nd rfl (Or.inl rfl)) (pss_one (ps_set (i := 1) nd rfl (Or.inl rfl) (pe_op op_mod (pe_op op_add (pe_op op_add (pe_op op_mulW (pv 1) pe_int) (pv 2)) pe_int) pe_int))))
      (pss_one (ps_ret (pe_lst (pa_cons (pv 0) (pa_cons pe_int (pa_cons (pv 1) (pa_cons pe_int pa_nil))))))))), ?_⟩
    walk_at "go"
    refine w_list (xs := ns.map V.int) (fun i σ H' => H' = H ∧ ∃ (m : Int) (v : Option V), σ = [some (.ref sc), some (.int m), v] ∧ 0 ≤ m ∧ m < 2147483647) ?_ ?_ ?_ ?_
    · exact ⟨rfl, 1, none, rfl, by decide, by decide⟩
    · rintro i σ H' _ ⟨rfl, _⟩; exact hS
    · rintro i x σ H' hx ⟨rfl, m, v, rfl, h1, h2⟩
      obtain ⟨c, hc, rfl⟩ := map_at hx
      walk_at "go"
      refine g_I (mulW_small h1 (by omega) (by decide) (by decide)) ?_
      walk_at "go"
      refine g_I (show (0 : Int) < 2147483647 by decide) ?_
      walk_at "go"
      exact ⟨rfl, _, _, rfl, by omega, by omega⟩
    · rintro σ H' ⟨rfl, m, v, rfl, h1, h2⟩
      walk_at "go"
      intro S hn
      exact q _ S hn (same_new hn) ⟨sc, ns, 0, m, 0, upd_same, .of hB (fun _ _ h => h) (Same.back sB hn), .of (sB.trans (same_new hn)), hl, by decide, h1, h2⟩

abbrev s_law_drawn : Stmt := top 39
theorem sc_law_drawn : FnScope ["_law_state", "_law_many", "_law_found", "_law_cell"] ["_law_state", "_law_many"] (C8.fnScope s_law_drawn) := C8.fnScope_by (by decide +kernel)
def sp_drawn (K : PySem.W.Frag) : Sp := fun vs H Q _ => ∃ (B : Hp) (S : Addr) (n : Int), vs = [.ref S, .int n] ∧ Dst K B H S ∧ 0 < n ∧ n < 10 ^ 38 ∧ ∀ H' v, Frm S H H' → Dst K B H' S → 0 ≤ v → v < n → Q (.int v) H'
theorem ok_drawn (T : Txt K mg) {f : Addr} {fd : FuncData} (D : C8.Def K mg "_law_drawn" s_law_drawn f fd) (b : Binds K fd ["_law_state", "_law_many"] []) : C8.Cal P w K mg base 1 "_law_drawn" (sp_drawn K) [] := by
  refine C8.cal0 D b .nil sc_law_drawn (fun vs H Q E h => ?_) fun cdv A outer s H vs Q E hr h => ?_
  · obtain ⟨B, S, n, rfl, _⟩ := h; rfl
  · obtain ⟨B, S, n, rfl, ⟨sc, ns, c, m, r, hS, hsB, fB, hl, c0, m0, m1⟩, n0, n1, q⟩ := h
    have hsc := hsB.frm fB
    have nd := sc_law_drawn.nd
    refine ⟨_, (pss_cons (ps_if (pt_cmpR op_gt (pe_ix (r := rIxL K) ix_list (pv 0) pe_int (fun _ _ => rfl)) pe_int (nomark _)) (pss_cons (ps_set (i := 2) nd rfl (Or.inl rfl) (pe_op op_mod (pe_ix (r := rIxL K) ix_list (pv 0) pe_int (fun _ _ => rfl)) (pv 1)))
      (pss_cons (ps_asg (pe_op op_fdivW (pe_ix (r := rIxL K) ix_list (pv 0) pe_int (fun _ _ => rfl)) (pv 1)) (pg_sub (pv 0) pe_int set_list))
      (pss_one (ps_ret (pv 2))))) pss_nil)
      (pss_cons (ps_asg (pe_op op_add (pe_ix (r := rIxL K) ix_list (pv 0) pe_int (fun _ _ => rfl)) pe_int) (pg_sub (pv 0) pe_int set_list))
      (pss_cons (ps_if (pt_cmpR op_le (pe_ix (r := rIxL K) ix_list (pv 0) pe_int (fun _ _ => rfl)) (pe_callB (r := Wd.rLen K) call_len1 (by rfl) T.n_len PySem.boot_len (pa_cons (pe_ix (r := rIxL K) ix_list (pv 0) pe_int (fun _ _ => rfl)) pa_nil)) (nomark _)) (pss_cons (ps_set (i := 3) nd rfl (Or.inl rfl) (pe_ix (r := rIxL K) ix_list (pe_ix (r := rIxL K) ix_list (pv 0) pe_int (fun _ _ => rfl)) (pe_op op_sub (pe_ix (r := rIxL K) ix_list (pv 0) pe_int (fun _ _ => rfl)) pe_int) (fun _ _ => rfl)))
      (pss_cons (ps_asg (pe_ifExp (pt_cmpR op_ge (pv 3) (pe_op op_pow pe_int pe_int) (nomark _)) (pe_op op_fdivW (pv 3) (pv 1)) pe_int) (pg_sub (pv 0) pe_int set_list))
      (pss_one (ps_ret (pe_op op_mod (pv 3) (pv 1)))))) pss_nil)
      (pss_cons (ps_asg (pe_op op_mod (pe_op op_add (pe_op op_mulW (pe_ix (r := rIxL K) ix_list (pv 0) pe_int (fun _ _ => rfl)) pe_int) pe_int) pe_int) (pg_sub (pv 0) pe_int set_list))
      (pss_one (ps_ret (pe_op op_mod (pe_op op_fdivW (pe_ix (r := rIxL K) ix_list (pv 0) pe_int (fun _ _ => rfl)) pe_int) (pv 1)))))))), ?_⟩
    walk_at "go"
    refine g_ixL (SqL.of hS) rfl ?_
    walk_at "go"
    refine g_ite (fun hr0 => ?_) (fun hr0 => ?_)
    · walk_at "go"
      refine g_ixL (SqL.of hS) rfl ?_
      walk_at "go"
      refine g_I n0 ?_
      walk_at "go"
      refine g_ixL (SqL.of hS) rfl ?_
      walk_at "go"
      refine g_I (divW_small n0 n1) ?_
      walk_at "go"
      refine g_setL hS rfl ?_
      walk_at "go"
      exact q _ _ .set ⟨sc, ns, c, m, r / n, upd_same, hsB, fB.trans .set, hl, c0, m0, m1⟩ (Int.emod_nonneg _ (by omega)) (Int.emod_lt_of_pos _ n0)
    · walk_at "go"
      refine g_ixL (SqL.of hS) rfl ?_
      walk_at "go"
      refine g_setL hS rfl ?_
      walk_at "go"
      refine g_ixL (SqL.of upd_same) rfl ?_
      walk_at "go"
      refine g_ixL (SqL.of upd_same) rfl ?_
      walk_at "go"
      refine g_len (.inl (hsc.frm .set).sq) ?_
      walk_at "go"
      rw [List.length_map]
      refine g_ite (fun hc => ?_) (fun hc => ?_)
      · walk_at "go"
        refine g_ixL (SqL.of upd_same) rfl ?_
        walk_at "go"
        refine g_ixL (SqL.of upd_same) rfl ?_
        walk_at "go"
        have hcl : c.toNat < ns.length := by omega
        refine g_ixL (hsc.frm .set).sq (at_of (j := c.toNat) (v := V.int (ns[c.toNat]'hcl)) (by omega) (by rw [List.getElem?_map, List.getElem?_eq_getElem hcl]; rfl)) ?_
        generalize ns[c.toNat]'hcl = z
        walk_at "go"
        refine g_I (pow_small (by decide) (by decide) (by decide)) ?_
        walk_at "go"
        have fin : ∀ x : Int, Frm S H (upd (upd H S (HO.lst [V.ref sc, V.int (c + 1), V.int m, V.int r])) S (HO.lst [V.ref sc, V.int (c + 1), V.int m, V.int x])) ∧ Dst K B (upd (upd H S (HO.lst [V.ref sc, V.int (c + 1), V.int m, V.int r])) S (HO.lst [V.ref sc, V.int (c + 1), V.int m, V.int x])) S := fun x =>
          ⟨Frm.set.trans .set, sc, ns, c + 1, m, x, upd_same, hsB, (fB.trans .set).trans .set, hl, by omega, m0, m1⟩
        refine g_ite (fun hz => ?_) (fun hz => ?_)
        · walk_at "go"
          refine g_I (divW_small n0 n1) ?_
          walk_at "go"
          refine g_setL upd_same rfl ?_
          walk_at "go"
          refine g_I n0 ?_
          exact q _ _ (fin _).1 (fin _).2 (Int.emod_nonneg _ (by omega)) (Int.emod_lt_of_pos _ n0)
        · walk_at "go"
          refine g_setL upd_same rfl ?_
          walk_at "go"
          refine g_I n0 ?_
          exact q _ _ (fin _).1 (fin _).2 (Int.emod_nonneg _ (by omega)) (Int.emod_lt_of_pos _ n0)
      · walk_at "go"
        refine g_ixL (SqL.of upd_same) rfl ?_
        walk_at "go"
        refine g_I (mulW_small m0 (by omega) (by decide) (by decide)) ?_
        walk_at "go"
        refine g_I (show (0 : Int) < 2147483647 by decide) ?_
        walk_at "go"
        refine g_setL upd_same rfl ?_
        walk_at "go"
        refine g_ixL (SqL.of upd_same) rfl ?_
        walk_at "go"
        refine g_I (divW_small (by decide) (by decide)) ?_
        walk_at "go"
        refine g_I n0 ?_
        exact q _ _ (Frm.set.trans .set) ⟨sc, ns, c + 1, _, r, upd_same, hsB, (fB.trans .set).trans .set, hl, by omega, Int.emod_nonneg _ (by decide), Int.emod_lt_of_pos _ (by decide)⟩ (Int.emod_nonneg _ (by omega)) (Int.emod_lt_of_pos _ n0)
theorem use_drawn {B H : Hp} {S : Addr} {n : Int} {Q : VK} {E : XK} (d : Dst K B H S) (h0 : 0 < n) (h1 : n < 10 ^ 38) (k : ∀ H' v, Frm S H H' → Dst K B H' S → 0 ≤ v → v < n → Q (.int v) H') : sp_drawn K ([.ref S, .int n] ++ []) H Q E := ⟨B, S, n, rfl, d, h0, h1, k⟩
end
end K05
namespace K05
open PySem PySem.Spec PyProof.Rows L2 Wd
/-! ### a plan done: its pats, the delays left, the moment behind it -/
abbrev Res := Option (List Int × List Int × Int)
def seqR (r : Res) (k : List Int → Int → Res) : Res := match r with
  | none => none
  | some (a, ds, t) => match k ds t with
    | none => none
    | some (b, ds', t') => some (a ++ b, ds', t')
def iter (f : List Int → Int → Res) : Nat → List Int → Int → Res
  | 0, ds, t => some ([], ds, t)
  | n + 1, ds, t => seqR (f ds t) (iter f n)
mutual
def rn : Pl → List Int → Int → Res
  | .pat, ds, t => some ([t], ds, t)
  | .work _ _, [], _ => none
  | .work a b, d :: ds, t => if a ≤ d ∧ d ≤ b then some ([], ds, t + d) else none
  | .row ps, ds, t => rns ps ds t
  | .either _, [], _ => none
  | .either ps, d :: ds, t => if 0 ≤ d then rnAt ps d.toNat ds t else none
  | .loop _ _ _, [], _ => none
  | .loop a b p, d :: ds, t => if a ≤ d ∧ d ≤ b then iter (rn p) d.toNat ds t else none
def rns : List Pl → List Int → Int → Res
  | [], ds, t => some ([], ds, t)
  | p :: ps, ds, t => seqR (rn p ds t) (rns ps)
def rnAt : List Pl → Nat → List Int → Int → Res
  | [], _, _, _ => none
  | p :: _, 0, ds, t => rn p ds t
  | _ :: ps, n + 1, ds, t => rnAt ps n ds t
end
theorem seqR_some {a ds : List Int} {t : Int} {k : List Int → Int → Res} {b ds' : List Int} {t' : Int} (h : k ds t = some (b, ds', t')) : seqR (some (a, ds, t)) k = some (a ++ b, ds', t') := by
  unfold seqR; simp only [h]
theorem seqR_inv {r : Res} {k : List Int → Int → Res} {x ds' : List Int} {t' : Int} (h : seqR r k = some (x, ds', t')) : ∃ a ds t b, r = some (a, ds, t) ∧ k ds t = some (b, ds', t') ∧ x = a ++ b := by
  unfold seqR at h
  match r, h with
  | some (a, ds, t), h =>
    simp only at h
    cases e : k ds t with
    | none => rw [e] at h; cases h
    | some z =>
      obtain ⟨b, d2, t2⟩ := z
      rw [e] at h
      cases h
      exact ⟨a, ds, t, b, rfl, e, rfl⟩
theorem iter_rep (p : Pl) : ∀ (n : Nat) (ds : List Int) (t : Int), iter (rn p) n ds t = rns (List.replicate n p) ds t
  | 0, ds, t => by simp only [iter, List.replicate_zero, rns]
  | n + 1, ds, t => by
    have e : iter (rn p) n = rns (List.replicate n p) := funext fun a => funext fun b => iter_rep p n a b
    simp only [iter, List.replicate_succ, rns, e]
theorem rnAt_at : ∀ {ps : List Pl} {n : Nat} {p : Pl}, ps[n]? = some p → ∀ ds t, rnAt ps n ds t = rn p ds t
  | _ :: _, 0, _, e, ds, t => by cases e; simp only [rnAt]
  | _ :: ps, n + 1, _, e, ds, t => by simp only [rnAt]; exact rnAt_at (ps := ps) e ds t
theorem rnAt_some : ∀ {ps : List Pl} {n : Nat} {ds : List Int} {t : Int} {r : List Int × List Int × Int}, rnAt ps n ds t = some r → ∃ p, ps[n]? = some p ∧ rn p ds t = some r
  | [], _, _, _, _, h => by simp only [rnAt] at h; cases h
  | p :: _, 0, ds, t, r, h => by simp only [rnAt] at h; exact ⟨p, rfl, h⟩
  | _ :: ps, n + 1, ds, t, r, h => by simp only [rnAt] at h; exact rnAt_some (ps := ps) h
/-- delays that are used up -/
def Val (f : List Int → Int → Res) (ds : List Int) : Prop := ∀ rest t, ∃ np t', f (ds ++ rest) t = some (np, rest, t')
theorem val_nil : Val (rns []) [] := fun rest t => ⟨[], t, by simp only [List.nil_append, rns]⟩
theorem val_snoc : ∀ {ps : List Pl} {ds : List Int} {p : Pl} {d : List Int}, Val (rns ps) ds → Val (rn p) d → Val (rns (ps ++ [p])) (ds ++ d)
  | [], ds, p, d, h, hp => fun rest t => by
    obtain ⟨np, t1, e⟩ := h (d ++ rest) t
    simp only [rns] at e
    obtain ⟨rfl, e2, rfl⟩ : np = [] ∧ ds ++ (d ++ rest) = d ++ rest ∧ t = t1 := by
      have := Option.some.inj e
      simp only [Prod.mk.injEq] at this
      exact ⟨this.1.symm, this.2.1, this.2.2⟩
    obtain ⟨np2, t2, e3⟩ := hp rest t
    refine ⟨np2 ++ [], t2, ?_⟩
    rw [List.append_assoc, e2]
    simp only [List.nil_append, rns]
    rw [e3]
    exact seqR_some (by simp only [rns])
  | q :: ps, ds, p, d, h, hp => fun rest t => by
    obtain ⟨np, t1, e⟩ := h (d ++ rest) t
    simp only [rns] at e
    obtain ⟨a, ds1, s1, b, e1, e2, e3⟩ := seqR_inv e
    -- the rest of the parts, from what the first leaves
    obtain ⟨np2, t2, e4⟩ := hp rest t1
    have app : ∀ (ps : List Pl) (x : List Int) (s : Int) (b y : List Int) (s' : Int), rns ps x s = some (b, y, s') → ∀ (c z : List Int) (s'' : Int), rn p y s' = some (c, z, s'') → rns (ps ++ [p]) x s = some (b ++ c, z, s'') := by
      intro ps
      induction ps with
      | nil =>
        intro x s b y s' h1 c z s'' h2
        simp only [rns] at h1
        cases h1
        simp only [List.nil_append, rns, h2]
        have := seqR_some (a := c) (k := rns []) (ds := z) (t := s'') (b := []) (ds' := z) (t' := s'') (by simp only [rns])
        rw [List.append_nil] at this
        exact this
      | cons r ps ih =>
        intro x s b y s' h1 c z s'' h2
        simp only [rns] at h1
        obtain ⟨a1, x1, u1, b1, g1, g2, rfl⟩ := seqR_inv h1
        simp only [List.cons_append, rns, g1]
        rw [List.append_assoc]
        exact seqR_some (ih x1 u1 b1 y s' g2 c z s'' h2)
    refine ⟨a ++ (b ++ np2), t2, ?_⟩
    rw [List.append_assoc]
    simp only [List.cons_append, rns, e1]
    exact seqR_some (app ps ds1 s1 b (d ++ rest) t1 e2 np2 rest t2 e4)
mutual
/-- how many delays at the most -/
def mx : Pl → Nat
  | .pat => 0
  | .work _ _ => 1
  | .row ps => mxs ps
  | .either ps => 1 + mxs ps
  | .loop _ _ p => 1 + 9 * mx p
def mxs : List Pl → Nat
  | [] => 0
  | p :: ps => mx p + mxs ps
end
theorem ten_pos (l : Nat) : 1 ≤ 10 ^ l := Nat.pow_pos (by decide)
mutual
theorem mx_le : ∀ (p : Pl) (d l : Nat), okP d l p → mx p ≤ Wd.cnt p * 10 ^ l
  | .pat, d, l, h => Nat.zero_le _
  | .work _ _, d, l, h => by simp only [mx, Wd.cnt, Nat.one_mul]; exact ten_pos l
  | .row ps, 0, l, h => by unfold okP at h; exact h.elim
  | .row ps, d + 1, l, h => by
    unfold okP at h
    have := mxs_le ps d l h.2.2
    simp only [mx, Wd.cnt, Nat.add_mul]
    omega
  | .either ps, 0, l, h => by unfold okP at h; exact h.elim
  | .either ps, d + 1, l, h => by
    unfold okP at h
    have := mxs_le ps d l h.2.2
    have h1 : 1 ≤ 10 ^ l := ten_pos l
    simp only [mx, Wd.cnt, Nat.add_mul]
    omega
  | .loop a b p, 0, l, h => by unfold okP at h; exact h.elim
  | .loop a b p, d + 1, 0, h => by unfold okP at h; exact h.elim
  | .loop a b p, d + 1, l + 1, h => by
    unfold okP at h
    have := mx_le p d l h.2.2.2
    have h1 : 1 ≤ 10 ^ l := ten_pos l
    simp only [mx, Wd.cnt, Nat.add_mul, Nat.pow_succ]
    have e : Wd.cnt p * (10 ^ l * 10) = 10 * (Wd.cnt p * 10 ^ l) := by rw [← Nat.mul_assoc, Nat.mul_comm]
    omega
theorem mxs_le : ∀ (ps : List Pl) (d l : Nat), okPs d l ps → mxs ps ≤ Wd.cnts ps * 10 ^ l
  | [], d, l, h => Nat.zero_le _
  | p :: ps, d, l, h => by
    unfold okPs at h
    have h1 := mx_le p d l h.1
    have h2 := mxs_le ps d l h.2
    simp only [mxs, Wd.cnts, Nat.add_mul]
    omega
end
theorem mxs_take {ps : List Pl} {i : Nat} {p : Pl} (h : ps[i]? = some p) : mxs (ps.take i) + mx p ≤ mxs ps ∧ mxs (ps.take (i + 1)) = mxs (ps.take i) + mx p := by
  induction ps generalizing i with
  | nil => cases h
  | cons q ps ih =>
    match i, h with
    | 0, h => cases h; simp only [List.take_zero, List.take_succ_cons, mxs]; omega
    | i + 1, h =>
      have := ih (i := i) h
      simp only [List.take_succ_cons, mxs]
      omega
theorem mx_at {ps : List Pl} {i : Nat} {p : Pl} (h : ps[i]? = some p) : mx p ≤ mxs ps := by have := (mxs_take h).1; omega
end K05
namespace K05
open PySem PySem.Spec PyProof.Rows L2 Wd
/-- .. and what the program's own text names -/
structure TxtP (K : PySem.W.Frag) (mg : Str → Option Value) : Prop extends Txt K mg where
  k_LONGEST_WORK : ∃ t, mg "LONGEST_WORK" = some (.int 1000 t)
  k_MOST_TIMES : ∃ t, mg "MOST_TIMES" = some (.int 9 t)
  k_LONGEST_ROW : ∃ t, mg "LONGEST_ROW" = some (.int 20 t)
  k_MOST_PLANS : ∃ t, mg "MOST_PLANS" = some (.int 30 t)
  k_MOST_DEEP : ∃ t, mg "MOST_DEEP" = some (.int 6 t)
  k_MOST_LOOPS : ∃ t, mg "MOST_LOOPS" = some (.int 2 t)
section
variable {P : Program} {w : World} {K : PySem.W.Frag} {mg : Str → Option Value} {base : Heap}
theorem g_truT {H : Hp} {p : Addr} {xs : List V} {QB : Bool → Hp → Prop} (h : SqT K H p xs) (q : QB (!xs.isEmpty) H) : ∃ k, TruV K (.ref p) H k ∧ QB k H := ⟨_, .inr (.inl ⟨xs, h, rfl⟩), q⟩
theorem g_truL {H : Hp} {p : Addr} {xs : List V} {QB : Bool → Hp → Prop} (h : SqL K H p xs) (q : QB (!xs.isEmpty) H) : ∃ k, TruV K (.ref p) H k ∧ QB k H := ⟨_, .inl ⟨xs, h, rfl⟩, q⟩
abbrev s_is_number : Stmt := top 6
theorem sc_is_number : FnScope ["value"] ["value"] (C8.fnScope s_is_number) := C8.fnScope_by (by decide +kernel)
def sp_is_number : Sp := fun vs H Q _ => ∃ i : Int, vs = [.int i] ∧ Q (.bl true) H
theorem ok_is_number (T : TxtP K mg) {f : Addr} {fd : FuncData} (D : C8.Def K mg "is_number" s_is_number f fd) (b : Binds K fd ["value"] []) : C8.Cal P w K mg base 1 "is_number" sp_is_number [] := by
  refine C8.cal0 D b .nil sc_is_number (fun vs H Q E h => ?_) fun cdv A outer s H vs Q E hr h => ?_
  · obtain ⟨i, rfl, _⟩ := h; rfl
  · obtain ⟨i, rfl, q⟩ := h
    have nd := sc_is_number.nd
    refine ⟨_, (pss_one (ps_ret (pe_and (pe_callB (r := rIsi K) call_isi (by rfl) T.n_isinstance (by decide +kernel) (pa_cons (pv 0) (pa_cons (pe_bltn (v := .ty "int") (by rfl) T.n_int (by decide +kernel) rfl) pa_nil))) (pe_one (pe_not (pe_callB (r := rIsi K) call_isi (by rfl) T.n_isinstance (by decide +kernel) (pa_cons (pv 0) (pa_cons (pe_bltn (v := .ty "bool") (by rfl) T.n_bool (by decide +kernel) rfl) pa_nil)))))))), ?_⟩
    walk_at "go"
    refine g_isi (.ty "int") (.base (.int i)) (kit_ty (r := true) (by decide +kernel)) ?_
    walk_at "go"
    refine g_isi (.ty "bool") (.base (.int i)) (kit_ty (r := false) (by decide +kernel)) ?_
    walk_at "go"
    exact q

abbrev s_is_range : Stmt := top 7
theorem sc_is_range : FnScope ["least", "most", "limit"] ["least", "most", "limit"] (C8.fnScope s_is_range) := C8.fnScope_by (by decide +kernel)
def sp_is_range : Sp := fun vs H Q _ => ∃ i j k : Int, vs = [.int i, .int j, .int k] ∧ (0 ≤ i ∧ i ≤ j ∧ j ≤ k) ∧ Q (.bl true) H
theorem ok_is_range (T : TxtP K mg) {f : Addr} {fd : FuncData} (D : C8.Def K mg "is_range" s_is_range f fd) (b : Binds K fd ["least", "most", "limit"] []) (g_is_number : C8.Cal P w K mg base 1 "is_number" sp_is_number []) : C8.Cal P w K mg base 2 "is_range" sp_is_range [] := by
  refine C8.cal0 D b .nil sc_is_range (fun vs H Q E h => ?_) fun cdv A outer s H vs Q E hr h => ?_
  · obtain ⟨i, j, k, rfl, _⟩ := h; rfl
  · obtain ⟨i, j, k, rfl, ⟨h1, h2, h3⟩, q⟩ := h
    have nd := sc_is_range.nd
    refine ⟨_, (pss_one (ps_ret (pe_and (C8.pe_c g_is_number hr (by first | decide | exact Nat.le_refl _ | omega) (by rfl) (pa_cons (pv 0) pa_nil)) (pe_and (C8.pe_c g_is_number hr (by first | decide | exact Nat.le_refl _ | omega) (by rfl) (pa_cons (pv 1) pa_nil)) (pe_one (pe_chain3 op_le op_le op_le pe_int (pv 0) (pv 1) (pv 2))))))), ?_⟩
    walk_at "go"
    refine ⟨i, rfl, ?_⟩
    walk_at "go"
    refine ⟨j, rfl, ?_⟩
    walk_at "go"
    refine g_ite (fun _ => ?_) (fun h => absurd h1 h)
    walk_at "go"
    refine g_ite (fun _ => ?_) (fun h => absurd h2 h)
    walk_at "go"
    rw [decide_eq_true h3]
    exact q

abbrev s_has_form : Stmt := top 15
theorem sc_has_form : FnScope ["plan", "word"] ["plan"] (C8.fnScope s_has_form) := C8.fnScope_by (by decide +kernel)
def sp_has_form (K : PySem.W.Frag) : Sp := fun vs H Q _ => ∃ (v : V) (p : Pl) (d l : Nat), vs = [v] ∧ PlA H v p ∧ okP d l p ∧ Q (.bl true) H
theorem ok_has_form (T : TxtP K mg) {f : Addr} {fd : FuncData} (D : C8.Def K mg "has_form" s_has_form f fd) (b : Binds K fd ["plan"] []) (g_is_range : C8.Cal P w K mg base 2 "is_range" sp_is_range []) : C8.Cal P w K mg base 3 "has_form" (sp_has_form K) [] := by
  refine C8.cal0 D b .nil sc_has_form (fun vs H Q E h => ?_) fun cdv A outer s H vs Q E hr h => ?_
  · obtain ⟨v, p, d, l, rfl, _⟩ := h; rfl
  · obtain ⟨v, p, d, l, rfl, hp, ok, q⟩ := h
    have nd := sc_has_form.nd
    obtain ⟨_, c_LONGEST_WORK⟩ := T.k_LONGEST_WORK
    obtain ⟨_, c_MOST_TIMES⟩ := T.k_MOST_TIMES
    obtain ⟨_, c_LONGEST_ROW⟩ := T.k_LONGEST_ROW
    refine ⟨_, (pss_cons (ps_if (PW.pt (pw_or (pt_not (pt_val (pe_callB (r := rIsi K) call_isi (by rfl) T.n_isinstance (by decide +kernel) (pa_cons (pv 0) (pa_cons (pe_bltn (v := .ty "tuple") (by rfl) T.n_tuple (by decide +kernel) rfl) pa_nil))))) (pw_or1 (pt_not (pt_truth (pv 0) (by intro _; rfl)))))) (pss_one (ps_ret pe_bl)) pss_nil)
      (pss_cons (ps_set (i := 1) nd rfl (Or.inl rfl) (pe_ix (r := rIxT K) ix_tup (pv 0) pe_int (fun _ _ => rfl)))
      (pss_cons (ps_if (pt_cmpR op_eq (pv 1) pe_str (nomark _)) (pss_one (ps_ret (pe_cmpR op_eq (pe_callB (r := Wd.rLen K) call_len1 (by rfl) T.n_len PySem.boot_len (pa_cons (pv 0) pa_nil)) pe_int (nomark _)))) pss_nil)
      (pss_cons (ps_if (pt_cmpR op_eq (pv 1) pe_str (nomark _)) (pss_one (ps_ret (pe_and (pe_cmpR op_eq (pe_callB (r := Wd.rLen K) call_len1 (by rfl) T.n_len PySem.boot_len (pa_cons (pv 0) pa_nil)) pe_int (nomark _)) (pe_one (C8.pe_c g_is_range hr (by first | decide | exact Nat.le_refl _ | omega) (by rfl) (pa_cons (pe_ix (r := rIxT K) ix_tup (pv 0) pe_int (fun _ _ => rfl)) (pa_cons (pe_ix (r := rIxT K) ix_tup (pv 0) pe_int (fun _ _ => rfl)) (pa_cons (pe_glob (v := .int 1000) rfl c_LONGEST_WORK ⟨_, rfl⟩) pa_nil)))))))) pss_nil)
      (pss_cons (ps_if (PW.pt (pw_or (pt_cmpR op_eq (pv 1) pe_str (nomark _)) (pw_or1 (pt_cmpR op_eq (pv 1) pe_str (nomark _))))) (pss_one (ps_ret (pe_and (pe_cmpR op_eq (pe_callB (r := Wd.rLen K) call_len1 (by rfl) T.n_len PySem.boot_len (pa_cons (pv 0) pa_nil)) pe_int (nomark _)) (pe_and (pe_callB (r := rIsi K) call_isi (by rfl) T.n_isinstance (by decide +kernel) (pa_cons (pe_ix (r := rIxT K) ix_tup (pv 0) pe_int (fun _ _ => rfl)) (pa_cons (pe_bltn (v := .ty "tuple") (by rfl) T.n_tuple (by decide +kernel) rfl) pa_nil))) (pe_one (pe_chain op_le op_le pe_int (pe_callB (r := Wd.rLen K) call_len1 (by rfl) T.n_len PySem.boot_len (pa_cons (pe_ix (r := rIxT K) ix_tup (pv 0) pe_int (fun _ _ => rfl)) pa_nil)) (pe_glob (v := .int 20) rfl c_LONGEST_ROW ⟨_, rfl⟩))))))) pss_nil)
      (pss_cons (ps_if (pt_cmpR op_eq (pv 1) pe_str (nomark _)) (pss_one (ps_ret (pe_and (pe_cmpR op_eq (pe_callB (r := Wd.rLen K) call_len1 (by rfl) T.n_len PySem.boot_len (pa_cons (pv 0) pa_nil)) pe_int (nomark _)) (pe_one (C8.pe_c g_is_range hr (by first | decide | exact Nat.le_refl _ | omega) (by rfl) (pa_cons (pe_ix (r := rIxT K) ix_tup (pv 0) pe_int (fun _ _ => rfl)) (pa_cons (pe_ix (r := rIxT K) ix_tup (pv 0) pe_int (fun _ _ => rfl)) (pa_cons (pe_glob (v := .int 9) rfl c_MOST_TIMES ⟨_, rfl⟩) pa_nil)))))))) pss_nil)
      (pss_one (ps_ret pe_bl)))))))), ?_⟩
    cases hp with
    | pat ha =>
      walk_at "go"
      refine g_isiB (.ty _) (ty_tup (SqT.of ha)) (b := true) (by decide +kernel) ?_
      walk_at "go"
      refine ⟨_, .inr (.inl ⟨_, SqT.of ha, rfl⟩), ?_⟩
      walk_at "go"
      refine g_ixT (SqT.of ha) rfl ?_
      walk_at "go"
      refine g_len (.inr (SqT.of ha)) ?_
      walk_at "go"
      exact q
    | @work a x y ha =>
      unfold okP at ok
      walk_at "go"
      refine g_isiB (.ty _) (ty_tup (SqT.of ha)) (b := true) (by decide +kernel) ?_
      walk_at "go"
      refine ⟨_, .inr (.inl ⟨_, SqT.of ha, rfl⟩), ?_⟩
      walk_at "go"
      refine g_ixT (SqT.of ha) rfl ?_
      walk_at "go"
      refine g_len (.inr (SqT.of ha)) ?_
      walk_at "go"
      refine g_ixT (SqT.of ha) rfl ?_
      walk_at "go"
      refine g_ixT (SqT.of ha) rfl ?_
      walk_at "go"
      exact ⟨x, y, 1000, rfl, ok, q⟩
    | @row a c vs ps ha hc hps =>
      match d, ok with
      | 0, ok => unfold okP at ok; exact ok.elim
      | d + 1, ok =>
      unfold okP at ok
      have ln := hps.len
      walk_at "go"
      refine g_isiB (.ty _) (ty_tup (SqT.of ha)) (b := true) (by decide +kernel) ?_
      walk_at "go"
      refine ⟨_, .inr (.inl ⟨_, SqT.of ha, rfl⟩), ?_⟩
      walk_at "go"
      refine g_ixT (SqT.of ha) rfl ?_
      walk_at "go"
      refine g_len (.inr (SqT.of ha)) ?_
      walk_at "go"
      refine g_ixT (SqT.of ha) rfl ?_
      walk_at "go"
      refine g_isiB (.ty _) (ty_tup (SqT.of hc)) (b := true) (by decide +kernel) ?_
      walk_at "go"
      refine g_ixT (SqT.of ha) rfl ?_
      walk_at "go"
      refine g_len (.inr (SqT.of hc)) ?_
      walk_at "go"
      refine g_ite (fun _ => ?_) (fun h => absurd (by omega) h)
      walk_at "go"
      rw [decide_eq_true (by omega)]
      exact q
    | @either a c vs ps ha hc hps =>
      match d, ok with
      | 0, ok => unfold okP at ok; exact ok.elim
      | d + 1, ok =>
      unfold okP at ok
      have ln := hps.len
      walk_at "go"
      refine g_isiB (.ty _) (ty_tup (SqT.of ha)) (b := true) (by decide +kernel) ?_
      walk_at "go"
      refine ⟨_, .inr (.inl ⟨_, SqT.of ha, rfl⟩), ?_⟩
      walk_at "go"
      refine g_ixT (SqT.of ha) rfl ?_
      walk_at "go"
      refine g_len (.inr (SqT.of ha)) ?_
      walk_at "go"
      refine g_ixT (SqT.of ha) rfl ?_
      walk_at "go"
      refine g_isiB (.ty _) (ty_tup (SqT.of hc)) (b := true) (by decide +kernel) ?_
      walk_at "go"
      refine g_ixT (SqT.of ha) rfl ?_
      walk_at "go"
      refine g_len (.inr (SqT.of hc)) ?_
      walk_at "go"
      refine g_ite (fun _ => ?_) (fun h => absurd (by omega) h)
      walk_at "go"
      rw [decide_eq_true (by omega)]
      exact q
    | @loop a x y u p ha hu =>
      match d, ok with
      | 0, ok => unfold okP at ok; exact ok.elim
      | d + 1, ok =>
      match l, ok with
      | 0, ok => unfold okP at ok; exact ok.elim
      | l + 1, ok =>
      unfold okP at ok
      walk_at "go"
      refine g_isiB (.ty _) (ty_tup (SqT.of ha)) (b := true) (by decide +kernel) ?_
      walk_at "go"
      refine ⟨_, .inr (.inl ⟨_, SqT.of ha, rfl⟩), ?_⟩
      walk_at "go"
      refine g_ixT (SqT.of ha) rfl ?_
      walk_at "go"
      refine g_len (.inr (SqT.of ha)) ?_
      walk_at "go"
      refine g_ixT (SqT.of ha) rfl ?_
      walk_at "go"
      refine g_ixT (SqT.of ha) rfl ?_
      walk_at "go"
      exact ⟨x, y, 9, rfl, ⟨ok.1, ok.2.1, ok.2.2.1⟩, q⟩
end
end K05
namespace K05
open PySem PySem.Spec PyProof.Rows L2 Wd
theorem take_snoc {α : Type} {l : List α} {i : Nat} {x : α} (h : l[i]? = some x) : l.take (i + 1) = l.take i ++ [x] := by
  rw [List.take_succ, h]; rfl
theorem cnts_app : ∀ ps qs : List Pl, cnts (ps ++ qs) = cnts ps + cnts qs
  | [], qs => by simp only [List.nil_append, Wd.cnts]; omega
  | p :: ps, qs => by have ih := cnts_app ps qs; simp only [List.cons_append, Wd.cnts, ih]; omega
section
variable {P : Program} {w : World} {K : PySem.W.Frag} {mg : Str → Option Value} {base : Heap}
/-- the plans that a plan is made of -/
def kids : Pl → List Pl
  | .row ps => ps
  | .either ps => ps
  | .loop _ _ p => [p]
  | _ => []
abbrev s_plans_in : Stmt := top 16
theorem sc_plans_in : FnScope ["plan"] ["plan"] (C8.fnScope s_plans_in) := C8.fnScope_by (by decide +kernel)
def sp_plans_in (K : PySem.W.Frag) : Sp := fun vs H Q _ => ∃ (v : V) (p : Pl), vs = [v] ∧ PlA H v p ∧ ∀ H' t us, Same H H' → H' t = some (.tup us) → PlAs H' us (kids p) → Q (.ref t) H'
theorem ok_plans_in (T : TxtP K mg) {f : Addr} {fd : FuncData} (D : C8.Def K mg "plans_in" s_plans_in f fd) (b : Binds K fd ["plan"] []) : C8.Cal P w K mg base 1 "plans_in" (sp_plans_in K) [] := by
  refine C8.cal0 D b .nil sc_plans_in (fun vs H Q E h => ?_) fun cdv A outer s H vs Q E hr h => ?_
  · obtain ⟨v, p, rfl, _⟩ := h; rfl
  · obtain ⟨v, p, rfl, hp, q⟩ := h
    have nd := sc_plans_in.nd
    refine ⟨_, (pss_cons (ps_if (PW.pt (pw_or (pt_cmpR op_eq (pe_ix (r := rIxT K) ix_tup (pv 0) pe_int (fun _ _ => rfl)) pe_str (nomark _)) (pw_or1 (pt_cmpR op_eq (pe_ix (r := rIxT K) ix_tup (pv 0) pe_int (fun _ _ => rfl)) pe_str (nomark _))))) (pss_one (ps_ret (pe_ix (r := rIxT K) ix_tup (pv 0) pe_int (fun _ _ => rfl)))) pss_nil)
      (pss_cons (ps_if (pt_cmpR op_eq (pe_ix (r := rIxT K) ix_tup (pv 0) pe_int (fun _ _ => rfl)) pe_str (nomark _)) (pss_one (ps_ret (pe_tup (pa_cons (pe_ix (r := rIxT K) ix_tup (pv 0) pe_int (fun _ _ => rfl)) pa_nil)))) pss_nil)
      (pss_one (ps_ret (pe_tup pa_nil))))), ?_⟩
    cases hp with
    | pat ha =>
      walk_at "go"
      refine g_ixT (SqT.of ha) rfl ?_
      walk_at "go"
      refine g_ixT (SqT.of ha) rfl ?_
      walk_at "go"
      refine g_ixT (SqT.of ha) rfl ?_
      walk_at "go"
      intro t ht
      exact q _ t [] (same_new ht) upd_same .nil
    | work ha =>
      walk_at "go"
      refine g_ixT (SqT.of ha) rfl ?_
      walk_at "go"
      refine g_ixT (SqT.of ha) rfl ?_
      walk_at "go"
      refine g_ixT (SqT.of ha) rfl ?_
      walk_at "go"
      intro t ht
      exact q _ t [] (same_new ht) upd_same .nil
    | row ha hc hps =>
      walk_at "go"
      refine g_ixT (SqT.of ha) rfl ?_
      walk_at "go"
      refine g_ixT (SqT.of ha) rfl ?_
      walk_at "go"
      exact q _ _ _ (fun _ _ h => h) hc hps
    | either ha hc hps =>
      walk_at "go"
      refine g_ixT (SqT.of ha) rfl ?_
      walk_at "go"
      refine g_ixT (SqT.of ha) rfl ?_
      walk_at "go"
      refine g_ixT (SqT.of ha) rfl ?_
      walk_at "go"
      exact q _ _ _ (fun _ _ h => h) hc hps
    | @loop a x y u p ha hu =>
      walk_at "go"
      refine g_ixT (SqT.of ha) rfl ?_
      walk_at "go"
      refine g_ixT (SqT.of ha) rfl ?_
      walk_at "go"
      refine g_ixT (SqT.of ha) rfl ?_
      walk_at "go"
      refine g_ixT (SqT.of ha) rfl ?_
      walk_at "go"
      intro t ht
      exact q _ t _ (same_new ht) upd_same (.cons (PlA_keep (keepT_same (same_new ht)) _ _ hu) .nil)

/-- what waits to be looked at: of each its depth and its loops; n plans in all -/
inductive Wa (H : Hp) : List V → Nat → Prop
  | nil : Wa H [] 0
  | snoc {vs : List V} {n : Nat} {t : Addr} {v : V} {p : Pl} {deep loops : Int} {d l : Nat} : Wa H vs n → H t = some (.tup [v, .int deep, .int loops]) → PlA H v p → okP d l p → deep + d ≤ 6 → loops + l ≤ 2 → Wa H (vs ++ [.ref t]) (n + Wd.cnt p)
theorem Wa.keep {H H' : Hp} (e : KeepT H H') {vs : List V} {n : Nat} (h : Wa H vs n) : Wa H' vs n := by
  induction h with
  | nil => exact .nil
  | snoc _ h1 h2 h3 h4 h5 ih => exact .snoc ih (e _ _ h1) (PlA_keep e _ _ h2) h3 h4 h5
theorem Wa.len {H : Hp} {vs : List V} {n : Nat} (h : Wa H vs n) : vs.length ≤ n := by
  induction h with
  | nil => exact Nat.le_refl _
  | @snoc vs n t v p deep loops d l _ _ _ _ _ _ ih => rw [List.length_append, List.length_singleton]; have := cnt_pos p; omega
theorem cnt_kids : ∀ p : Pl, Wd.cnt p = 1 + Wd.cnts (kids p)
  | .pat => rfl
  | .work _ _ => rfl
  | .row _ => by simp only [Wd.cnt, kids]
  | .either _ => by simp only [Wd.cnt, kids]
  | .loop _ _ _ => by simp only [Wd.cnt, kids, Wd.cnts, Nat.add_zero]
theorem cnts_take {ps : List Pl} {i : Nat} {p : Pl} (h : ps[i]? = some p) : Wd.cnts (ps.take (i + 1)) = Wd.cnts (ps.take i) + Wd.cnt p := by
  rw [take_snoc h, cnts_app]; simp only [Wd.cnts, Nat.add_zero]
theorem Wa.inv {H : Hp} {xs : List V} {n : Nat} (h : Wa H xs n) : (xs = [] ∧ n = 0) ∨ ∃ (vs : List V) (m : Nat) (t : Addr) (v : V) (p : Pl) (deep loops : Int) (d l : Nat), xs = vs ++ [.ref t] ∧ n = m + Wd.cnt p ∧ Wa H vs m ∧ H t = some (.tup [v, .int deep, .int loops]) ∧ PlA H v p ∧ okP d l p ∧ deep + d ≤ 6 ∧ loops + l ≤ 2 := by
  cases h with
  | nil => exact .inl ⟨rfl, rfl⟩
  | snoc h1 h2 h3 h4 h5 h6 => exact .inr ⟨_, _, _, _, _, _, _, _, _, rfl, rfl, h1, h2, h3, h4, h5, h6⟩
theorem cnts_take_le : ∀ (ps : List Pl) (i : Nat), Wd.cnts (ps.take i) ≤ Wd.cnts ps
  | [], i => by rw [List.take_nil]; exact Nat.le_refl _
  | p :: ps, 0 => Nat.zero_le _
  | p :: ps, i + 1 => by have := cnts_take_le ps i; simp only [List.take_succ_cons, Wd.cnts]; omega
def word : Pl → Str
  | .pat => "pat"
  | .work _ _ => "work"
  | .row _ => "row"
  | .either _ => "either"
  | .loop _ _ _ => "loop"
def lp : Pl → Nat
  | .loop _ _ _ => 1
  | _ => 0
theorem word_at {H : Hp} {v : V} {p : Pl} (h : PlA H v p) : ∃ a xs, v = .ref a ∧ H a = some (.tup (.str (word p) :: xs)) := by
  cases h with
  | pat h => exact ⟨_, _, rfl, h⟩
  | work h => exact ⟨_, _, rfl, h⟩
  | row h _ _ => exact ⟨_, _, rfl, h⟩
  | either h _ _ => exact ⟨_, _, rfl, h⟩
  | loop h _ => exact ⟨_, _, rfl, h⟩
theorem lp_yes {p : Pl} (h : word p = "loop") : lp p = 1 := by
  cases p with
  | loop _ _ _ => rfl
  | pat => exact absurd h (by decide)
  | work _ _ => exact absurd h (by decide : ¬ (Str.ofString "work" = Str.ofString "loop"))
  | row _ => exact absurd h (by decide : ¬ (Str.ofString "row" = Str.ofString "loop"))
  | either _ => exact absurd h (by decide : ¬ (Str.ofString "either" = Str.ofString "loop"))
theorem lp_no {p : Pl} (h : ¬ word p = "loop") : lp p = 0 := by
  cases p with
  | loop _ _ _ => exact absurd rfl h
  | pat => rfl
  | work _ _ => rfl
  | row _ => rfl
  | either _ => rfl
theorem kids_ok : ∀ {p : Pl} {d l : Nat}, okP d l p → lp p ≤ l ∧ (kids p = [] ∨ ∃ d', d = d' + 1 ∧ okPs d' (l - lp p) (kids p))
  | .pat, _, _, _ => ⟨Nat.zero_le _, .inl rfl⟩
  | .work _ _, _, _, _ => ⟨Nat.zero_le _, .inl rfl⟩
  | .row _, 0, _, h => by unfold okP at h; exact h.elim
  | .row ps, d + 1, l, h => by unfold okP at h; exact ⟨Nat.zero_le _, .inr ⟨d, rfl, h.2.2⟩⟩
  | .either _, 0, _, h => by unfold okP at h; exact h.elim
  | .either ps, d + 1, l, h => by unfold okP at h; exact ⟨Nat.zero_le _, .inr ⟨d, rfl, h.2.2⟩⟩
  | .loop _ _ _, 0, _, h => by unfold okP at h; exact h.elim
  | .loop _ _ _, d + 1, 0, h => by unfold okP at h; exact h.elim
  | .loop _ _ p, d + 1, l + 1, h => by unfold okP at h; exact ⟨Nat.le_add_left _ _, .inr ⟨d, rfl, by show okPs d l [p]; unfold okPs; exact ⟨h.2.2.2, by unfold okPs; trivial⟩⟩⟩
abbrev s_check_plan : Stmt := top 17
theorem sc_check_plan : FnScope ["plan", "waiting", "many", "part", "deep", "loops", "inner"] ["plan"] (C8.fnScope s_check_plan) := C8.fnScope_by (by decide +kernel)
def sp_check_plan (K : PySem.W.Frag) : Sp := fun vs H Q _ => ∃ (v : V) (p : Pl) (d l : Nat), vs = [v] ∧ PlA H v p ∧ okP d l p ∧ d ≤ 5 ∧ l ≤ 2 ∧ cnt p ≤ 30 ∧ ∀ H', Same H H' → Q .non H'
theorem ok_check_plan (T : TxtP K mg) {f : Addr} {fd : FuncData} (D : C8.Def K mg "check_plan" s_check_plan f fd) (b : Binds K fd ["plan"] []) (g_has_form : C8.Cal P w K mg base 3 "has_form" (sp_has_form K) []) (g_plans_in : C8.Cal P w K mg base 1 "plans_in" (sp_plans_in K) []) :
    C8.Cal P w K mg base 4 "check_plan" (sp_check_plan K) [] := by
  refine C8.cal0 D b .nil sc_check_plan (fun vs H Q E h => ?_) fun cdv A outer s H vs Q E hr h => ?_
  · obtain ⟨v, p, d, l, rfl, _⟩ := h; rfl
  · obtain ⟨v, p0, d, l, rfl, hp, ok, hd, hl, hc, q⟩ := h
    have nd := sc_check_plan.nd
    obtain ⟨_, c_MOST_PLANS⟩ := T.k_MOST_PLANS
    obtain ⟨_, c_MOST_DEEP⟩ := T.k_MOST_DEEP
    obtain ⟨_, c_MOST_LOOPS⟩ := T.k_MOST_LOOPS
    refine ⟨_, (pss_cons (ps_set (i := 1) nd rfl (Or.inl rfl) (pe_lst (pa_cons (pe_tup (pa_cons (pv 0) (pa_cons pe_int (pa_cons pe_int pa_nil)))) pa_nil)))
      (pss_cons (ps_set (i := 2) nd rfl (Or.inl rfl) pe_int)
      (pss_one (ps_while PassesOwn.never (pt_truth (pv 1) (by intro _; rfl)) (pss_cons (ps_asg (pe_bm0K (K := K) rfl PySem.F.plainAttrs_list PySem.F.slot_list_pop PySem.F.type_list_pop mt_pop (pv 1)) (pg_tup rfl (pgs_cons (pg_name (i := 3) nd rfl (Or.inl rfl)) (pgs_cons (pg_name (i := 4) nd rfl (Or.inl rfl)) (pgs_cons (pg_name (i := 5) nd rfl (Or.inl rfl)) pgs_nil)))))
      (pss_cons (ps_aug (i := 2) nd rfl (Or.inl rfl) pe_int ip_add)
      (pss_cons (ps_if (PW.pt (pw_or (pt_cmpR op_gt (pv 2) (pe_glob (v := .int 30) rfl c_MOST_PLANS ⟨_, rfl⟩) (nomark _)) (pw_or (pt_cmpR op_gt (pv 4) (pe_glob (v := .int 6) rfl c_MOST_DEEP ⟨_, rfl⟩) (nomark _)) (pw_or1 (pt_not (pt_val (C8.pe_c g_has_form hr (by first | decide | exact Nat.le_refl _ | omega) (by rfl) (pa_cons (pv 3) pa_nil)))))))) (pss_one ps_never) pss_nil)
      (pss_cons (ps_if (pt_cmpR op_eq (pe_ix (r := rIxT K) ix_tup (pv 3) pe_int (fun _ _ => rfl)) pe_str (nomark _)) (pss_one (ps_aug (i := 5) nd rfl (Or.inl rfl) pe_int ip_add)) pss_nil)
      (pss_cons (ps_if (pt_cmpR op_gt (pv 5) (pe_glob (v := .int 2) rfl c_MOST_LOOPS ⟨_, rfl⟩) (nomark _)) (pss_one ps_never) pss_nil)
      (pss_one (ps_for PassesOwn.never rfl (pi_tup (C8.pe_c g_plans_in hr (by first | decide | exact Nat.le_refl _ | omega) (by rfl) (pa_cons (pv 3) pa_nil))) (pg_name (i := 6) nd rfl (Or.inl rfl)) (pss_one (ps_expr (pe_bmK (K := K) rfl PySem.F.plainAttrs_list PySem.F.slot_list_append PySem.F.type_list_append mt_append (pv 1) (pa_cons (pe_tup (pa_cons (pv 6) (pa_cons (pe_op op_add (pv 4) pe_int) (pa_cons (pv 5) pa_nil)))) pa_nil))))))))))))))), ?_⟩
    walk_at "go"
    intro t ht
    walk_at "go"
    intro W hW
    walk_at "go"
    have hW0 : H W = none := by
      by_cases e : W = t
      · rw [e]; exact ht
      · rwa [upd_ne e] at hW
    obtain ⟨a0, xs0, rfl, _⟩ := word_at hp
    have sm0 : Same H (upd (upd H t (.tup [.ref a0, .int 1, .int 0])) W (.lst [.ref t])) := (same_new ht).trans (same_new hW)
    have hp0 : ∀ H', Same H H' → PlA H' (.ref a0) p0 := fun H' s => PlA_keep (keepT_same s) _ _ hp
    refine w_loop (fun m σ H' => ∃ (xs : List V) (many : Int) (v3 v4 v5 v6 : Option V), σ = [some (.ref a0), some (.ref W), some (.int many), v3, v4, v5, v6] ∧ Same H H' ∧ PlA H' (.ref a0) p0 ∧ H' W = some (.lst xs) ∧ Wa H' xs m ∧ 0 ≤ many ∧ many + m ≤ 30) (0 + Wd.cnt p0) ?_ ?_
    · exact ⟨_, 0, _, _, _, _, rfl, sm0, hp0 _ sm0, upd_same, .snoc (vs := []) .nil (same_new hW _ _ upd_same) (hp0 _ sm0) ok (by omega) (by omega), by decide, by omega⟩
    · rintro m σ H' ⟨xs, many, v3, v4, v5, v6, rfl, sm, hp', hWx, wa, le0, le⟩
      walk_at "go"
      rcases wa.inv with ⟨rfl, rfl⟩ | ⟨vs, n, tt0, v, p, deep, loops, d, l, rfl, rfl, wa, hE, pv, okk0, h6, h7⟩
      · refine ⟨false, .inl ⟨[], SqL.of hWx, rfl⟩, ?_⟩
        walk_at "go"
        exact q _ sm
      refine ⟨true, .inl ⟨_, SqL.of hWx, by cases vs <;> rfl⟩, ?_⟩
      refine L2.iteT ?_
      refine ⟨fun σ' H'' => ∃ m', m' < n + Wd.cnt p ∧ ∃ (xs : List V) (many : Int) (v3 v4 v5 v6 : Option V), σ' = [some (.ref a0), some (.ref W), some (.int many), v3, v4, v5, v6] ∧ Same H H'' ∧ PlA H'' (.ref a0) p0 ∧ H'' W = some (.lst xs) ∧ Wa H'' xs m' ∧ 0 ≤ many ∧ many + m' ≤ 30, fun _ _ h => h, ?_⟩
      obtain ⟨lpl, kok⟩ := kids_ok okk0
      have ck := cnt_kids p
      have len1 := wa.len
      walk_at "go"
      refine g_tyL hWx ?_
      refine g_pop hWx (y := .ref tt0) (by rw [List.length_append, List.length_singleton, Nat.add_sub_cancel, List.getElem?_append_right (Nat.le_refl _), Nat.sub_self]; rfl) ?_
      rw [List.dropLast_concat]
      have k1 : KeepT H' (upd H' W (.lst vs)) := keepT_lst hWx
      have sm1 : Same H (upd H' W (.lst vs)) := Wd.Same.mut sm hW0
      have hW1 : upd H' W (.lst vs) W = some (.lst vs) := upd_same
      have wa1 := wa.keep k1
      have pv := PlA_keep k1 _ _ pv
      refine g_gtup (SqT.of (k1 _ _ hE)) rfl ?_
      walk_at "go"
      refine ⟨_, rfl, ?_⟩
      walk_at "go"
      refine ⟨_, _, rfl, rfl, ?_⟩
      walk_at "go"
      refine g_ite (fun hx => absurd (show 30 < many + 1 from hx) (by omega)) (fun _ => ?_)
      walk_at "go"
      refine g_ite (fun hx => absurd hx (by omega)) (fun _ => ?_)
      walk_at "go"
      refine ⟨v, p, d, l, rfl, pv, okk0, ?_⟩
      walk_at "go"
      obtain ⟨av, xv, rfl, hav⟩ := word_at pv
      refine g_ixT (v := .str (word p)) (SqT.of hav) (at_of (j := 0) rfl rfl) ?_
      walk_at "go"
      generalize hv : V.ref av = v at pv ⊢
      refine g_ite (fun hw => ?_) (fun hw => ?_)
      · have lp1 := lp_yes hw
        walk_at "go"
        refine ⟨_, rfl, ?_⟩
        walk_at "go"
        refine ⟨_, _, rfl, rfl, ?_⟩
        walk_at "go"
        refine g_ite (fun hx => absurd (show 2 < loops + 1 from hx) (by omega)) (fun _ => ?_)
        walk_at "go"
        refine ⟨v, p, rfl, pv, fun H4 tt us s4 hT pk => ?_⟩
        have hW4 := s4 _ _ hW1
        have sm4 : Same H H4 := sm1.trans s4
        refine w_tup (xs := us) (fun i σ H' => ∃ (v6 : Option V) (xs : List V), σ = [some (.ref a0), some (.ref W), some (.int (many + 1)), some v, some (.int deep), some (.int (loops + 1)), v6] ∧ Same H H' ∧ H' tt = some (.tup us) ∧ PlAs H' us (kids p) ∧ H' W = some (.lst xs) ∧ Wa H' xs (n + Wd.cnts ((kids p).take i))) ?_ ?_ ?_ ?_
        · exact ⟨_, vs, rfl, sm4, hT, pk, hW4, by simpa only [List.take_zero, Wd.cnts, Nat.add_zero] using wa1.keep (keepT_same s4)⟩
        · rintro i σ H' _ ⟨v6, xs, _, _, hT', _⟩
          exact SqT.of hT'
        · rintro i u σ H' hu ⟨v6, xs, rfl, sm5, hT5, pk5, hW5, wa5⟩
          obtain ⟨q1, hq, pu⟩ := pk5.at hu
          obtain ⟨d', rfl, okk⟩ := kok.resolve_left (fun e => by rw [e] at hq; cases hq)
          have l5 := wa5.len
          have c5 := cnts_take hq
          have c6 : Wd.cnts ((kids p).take (i + 1)) ≤ Wd.cnts (kids p) := cnts_take_le _ _
          walk_at "go"
          refine g_tyL hW5 ?_
          walk_at "go"
          intro e he
          have s6 := same_new (o := .tup [u, .int (deep + 1), .int (loops + 1)]) he
          walk_at "go"
          refine g_append (s6 _ _ hW5) (by omega) ?_
          have k6 : KeepT H' (upd (upd H' e (.tup [u, .int (deep + 1), .int (loops + 1)])) W (.lst (xs ++ [.ref e]))) := (keepT_same s6).trans (keepT_lst (s6 _ _ hW5))
          walk_at "go"
          refine ⟨_, xs ++ [.ref e], rfl, Wd.Same.mut (sm5.trans s6) hW0, ?_, PlAs_keep k6 _ _ pk5, upd_same, ?_⟩
          · exact k6 _ _ hT5
          · rw [c5, ← Nat.add_assoc]
            exact .snoc (wa5.keep k6) (keepT_lst (s6 _ _ hW5) _ _ upd_same) (PlA_keep k6 _ _ pu) (okPs_at okk hq) (by omega) (by omega)
        · rintro σ H' ⟨v6, xs, rfl, sm5, hT5, pk5, hW5, wa5⟩
          rw [pk5.len, List.take_length] at wa5
          walk_at "go"
          exact ⟨_, by omega, xs, _, _, _, _, _, rfl, sm5, hp0 _ sm5, hW5, wa5, (show 0 ≤ many + 1 by omega), (show many + 1 + ((n + Wd.cnts (kids p) : Nat) : Int) ≤ 30 by omega)⟩
      · have lp0 := lp_no hw
        walk_at "go"
        refine g_ite (fun hx => absurd (show 2 < loops from hx) (by omega)) (fun _ => ?_)
        walk_at "go"
        refine ⟨v, p, rfl, pv, fun H4 tt us s4 hT pk => ?_⟩
        have hW4 := s4 _ _ hW1
        have sm4 : Same H H4 := sm1.trans s4
        refine w_tup (xs := us) (fun i σ H' => ∃ (v6 : Option V) (xs : List V), σ = [some (.ref a0), some (.ref W), some (.int (many + 1)), some v, some (.int deep), some (.int loops), v6] ∧ Same H H' ∧ H' tt = some (.tup us) ∧ PlAs H' us (kids p) ∧ H' W = some (.lst xs) ∧ Wa H' xs (n + Wd.cnts ((kids p).take i))) ?_ ?_ ?_ ?_
        · exact ⟨_, vs, rfl, sm4, hT, pk, hW4, by simpa only [List.take_zero, Wd.cnts, Nat.add_zero] using wa1.keep (keepT_same s4)⟩
        · rintro i σ H' _ ⟨v6, xs, _, _, hT', _⟩
          exact SqT.of hT'
        · rintro i u σ H' hu ⟨v6, xs, rfl, sm5, hT5, pk5, hW5, wa5⟩
          obtain ⟨q1, hq, pu⟩ := pk5.at hu
          obtain ⟨d', rfl, okk⟩ := kok.resolve_left (fun e => by rw [e] at hq; cases hq)
          have l5 := wa5.len
          have c5 := cnts_take hq
          have c6 : Wd.cnts ((kids p).take (i + 1)) ≤ Wd.cnts (kids p) := cnts_take_le _ _
          walk_at "go"
          refine g_tyL hW5 ?_
          walk_at "go"
          intro e he
          have s6 := same_new (o := .tup [u, .int (deep + 1), .int loops]) he
          walk_at "go"
          refine g_append (s6 _ _ hW5) (by omega) ?_
          have k6 : KeepT H' (upd (upd H' e (.tup [u, .int (deep + 1), .int loops])) W (.lst (xs ++ [.ref e]))) := (keepT_same s6).trans (keepT_lst (s6 _ _ hW5))
          walk_at "go"
          refine ⟨_, xs ++ [.ref e], rfl, Wd.Same.mut (sm5.trans s6) hW0, ?_, PlAs_keep k6 _ _ pk5, upd_same, ?_⟩
          · exact k6 _ _ hT5
          · rw [c5, ← Nat.add_assoc]
            exact .snoc (wa5.keep k6) (keepT_lst (s6 _ _ hW5) _ _ upd_same) (PlA_keep k6 _ _ pu) (okPs_at okk hq) (by omega) (by omega)
        · rintro σ H' ⟨v6, xs, rfl, sm5, hT5, pk5, hW5, wa5⟩
          rw [pk5.len, List.take_length] at wa5
          walk_at "go"
          exact ⟨_, by omega, xs, _, _, _, _, _, rfl, sm5, hp0 _ sm5, hW5, wa5, (show 0 ≤ many + 1 by omega), (show many + 1 + ((n + Wd.cnts (kids p) : Nat) : Int) ≤ 30 by omega)⟩
end
end K05
namespace K05
open PySem PySem.Spec PyProof.Rows L2 Wd
/-! ### a run -/
structure TxtR (K : PySem.W.Frag) (CR : Addr) : Prop where
  c : Cls K CR
  nD : NoAttr K CR "delays"
  nU : NoAttr K CR "used"
  nN : NoAttr K CR "now"
  nP : NoAttr K CR "pats"
section
variable {P : Program} {w : World} {K : PySem.W.Frag} {mg : Str → Option Value} {base : Heap} {CR : Addr}
abbrev runF (LA PA : Addr) (u t : Int) : List (Str × V) := [("delays", .ref LA), ("used", .int u), ("now", .int t), ("pats", .ref PA)]
theorem lk_d {LA PA : Addr} {u t : Int} : (runF LA PA u t).lookup ("delays" : Str) = some (.ref LA) := rfl
theorem lk_u {LA PA : Addr} {u t : Int} : (runF LA PA u t).lookup ("used" : Str) = some (.int u) := rfl
theorem lk_n {LA PA : Addr} {u t : Int} : (runF LA PA u t).lookup ("now" : Str) = some (.int t) := rfl
theorem lk_p {LA PA : Addr} {u t : Int} : (runF LA PA u t).lookup ("pats" : Str) = some (.ref PA) := rfl
theorem lk_take {LA PA : Addr} {u t : Int} : (runF LA PA u t).lookup ("take" : Str) = none := rfl
theorem lk_follow {LA PA : Addr} {u t : Int} : (runF LA PA u t).lookup ("follow" : Str) = none := rfl
theorem put_u {LA PA : Addr} {u t z : Int} : putF ("used" : Str) (.int z) (runF LA PA u t) = runF LA PA z t := rfl
theorem put_n {LA PA : Addr} {u t z : Int} : putF ("now" : Str) (.int z) (runF LA PA u t) = runF LA PA u z := rfl
abbrev s_Run_init : Stmt := (C8.clsBody (top 18)).getD 0 (.Pass ⟨0, 0, 0, 0⟩)
abbrev s_Run_take : Stmt := (C8.clsBody (top 18)).getD 1 (.Pass ⟨0, 0, 0, 0⟩)
abbrev s_Run_follow : Stmt := (C8.clsBody (top 18)).getD 2 (.Pass ⟨0, 0, 0, 0⟩)
theorem sc_Run_take : FnScope ["self", "least", "most", "at", "delay"] ["self", "least", "most"] (C8.fnScope s_Run_take) := C8.fnScope_by (by decide +kernel)
def sp_take (K : PySem.W.Frag) (CR : Addr) : Sp := fun vs H Q _ => ∃ (R dx LA PA : Addr) (u : Nat) (t lo hi d : Int) (ds : List Int), vs = [.ref R, .int lo, .int hi] ∧ H R = some (.ins CR dx (runF LA PA u t)) ∧ SqL K H LA (ds.map V.int) ∧ ds[u]? = some d ∧ lo ≤ d ∧ d ≤ hi ∧
  Q (.int d) (upd H R (.ins CR dx (runF LA PA (u + 1 : Nat) t)))
theorem ok_take (T : TxtP K mg) (TR : TxtR K CR) {f : Addr} {fd : FuncData} (me : Meth K CR "take" f) (F : C8.Fun K "take" "Run.take" s_Run_take f fd) (b : Binds K fd ["self", "least", "most"] []) (g_is_number : C8.Cal P w K mg base 1 "is_number" sp_is_number []) : C8.Met P w K mg base 2 CR "take" (sp_take K CR) [] := by
  refine C8.met0 TR.c me F b sc_Run_take (fun vs H Q E h => ?_) fun cdv A outer s H vs Q E hr h => ?_
  · obtain ⟨R, dx, LA, PA, u, t, lo, hi, d, ds, rfl, _⟩ := h; rfl
  · obtain ⟨R, dx, LA, PA, u, t, lo, hi, d, ds, rfl, hR, hL, hd, h1, h2, q⟩ := h
    have nd := sc_Run_take.nd
    have hu : u < ds.length := (List.getElem?_eq_some_iff.mp hd).1
    refine ⟨_, (pss_cons (ps_set (i := 3) nd rfl (Or.inl rfl) (pe_fld (pv 0) rfl))
      (pss_cons (ps_if (pt_cmpR op_eq (pv 3) (pe_callB (r := Wd.rLen K) call_len1 (by rfl) T.n_len PySem.boot_len (pa_cons (pe_fld (pv 0) rfl) pa_nil)) (nomark _)) (pss_one ps_never) pss_nil)
      (pss_cons (ps_set (i := 4) nd rfl (Or.inl rfl) (pe_ix (r := rIxL K) ix_list (pe_fld (pv 0) rfl) (pv 3) (fun _ _ => rfl)))
      (pss_cons (ps_if (PW.pt (pw_or (pt_not (pt_val (C8.pe_c g_is_number hr (by first | decide | exact Nat.le_refl _ | omega) (by rfl) (pa_cons (pv 4) pa_nil)))) (pw_or1 (pt_not (pt_chain op_le op_le (pv 1) (pv 4) (pv 2)))))) (pss_one ps_never) pss_nil)
      (pss_cons (ps_fldaug (pv 0) pe_int in_add)
      (pss_one (ps_ret (pv 4)))))))), ?_⟩
    walk_at "go"
    refine ⟨_, rfl, R, CR, dx, _, _, rfl, hR, TR.c, TR.nU, lk_u, ?_⟩
    walk_at "go"
    refine ⟨_, rfl, R, CR, dx, _, _, rfl, hR, TR.c, TR.nD, lk_d, ?_⟩
    walk_at "go"
    refine g_len (.inl hL) ?_
    walk_at "go"
    rw [List.length_map]
    refine g_ite (fun h => absurd h (by omega)) (fun _ => ?_)
    walk_at "go"
    refine ⟨_, rfl, R, CR, dx, _, _, rfl, hR, TR.c, TR.nD, lk_d, ?_⟩
    walk_at "go"
    refine g_ixL hL (at_of (j := u) (v := .int d) rfl (by rw [List.getElem?_map, hd]; rfl)) ?_
    walk_at "go"
    refine ⟨d, rfl, ?_⟩
    walk_at "go"
    refine g_ite (fun _ => ?_) (fun h => absurd h1 h)
    walk_at "go"
    refine g_iteN (fun h => absurd h2 h) (fun _ => ?_)
    walk_at "go"
    refine ⟨_, rfl, R, CR, dx, _, _, rfl, hR, TR.c, TR.nU, lk_u, ?_⟩
    walk_at "go"
    refine ⟨_, _, rfl, rfl, ?_⟩
    refine ⟨_, _, hR, by show 4 < 1000; decide, ?_⟩
    walk_at "go"
    exact q

end
end K05
namespace K05
open PySem PySem.Spec PyProof.Rows L2 Wd
def Frm2 (S F : Addr) (H H' : Hp) : Prop := ∀ b o, b ≠ S → b ≠ F → H b = some o → H' b = some o
theorem Frm2.refl (S F : Addr) (H : Hp) : Frm2 S F H H := fun _ _ _ _ h => h
theorem Frm2.trans {S F : Addr} {H H1 H2 : Hp} (a : Frm2 S F H H1) (b : Frm2 S F H1 H2) : Frm2 S F H H2 := fun c o n1 n2 h => b c o n1 n2 (a c o n1 n2 h)
theorem Frm2.of1 {S F : Addr} {H H' : Hp} (f : Frm S H H') : Frm2 S F H H' := fun b o n _ h => f b o n h
theorem Frm2.set {S F : Addr} {H : Hp} {o : HO} : Frm2 S F H (upd H F o) := fun b u _ n h => by rw [upd_ne n]; exact h
theorem drop_at {α : Type} : ∀ {l : List α} {i : Nat} {x : α}, l[i]? = some x → l.drop i = x :: l.drop (i + 1)
  | _ :: _, 0, _, e => by cases e; rfl
  | _ :: l, i + 1, _, e => drop_at (l := l) (i := i) e
theorem keepT_of_frm {H H' : Hp} {PA : Addr} {xs : List V} (hP : H PA = some (.lst xs)) (f : Frm PA H H') : KeepT H H' := fun b ys h => f b _ (ne_of h hP (fun z => nomatch z)) h
section
variable {P : Program} {w : World} {K : PySem.W.Frag} {mg : Str → Option Value} {base : Heap} {CR : Addr}
theorem Frm2.setS {S F : Addr} {H : Hp} {o : HO} : Frm2 S F H (upd H S o) := fun b u n _ h => by rw [upd_ne n]; exact h
theorem keep2 {H H' : Hp} {R PA dx : Addr} {fs : List (Str × V)} {xs : List V} (hR : H R = some (.ins CR dx fs)) (hP : H PA = some (.lst xs)) (f : Frm2 R PA H H') : KeepT H H' := fun b ys h => f b _ (ne_of h hR (fun z => nomatch z)) (ne_of h hP (fun z => nomatch z)) h
theorem drop_cons {ds : List Int} {u : Nat} {d0 : Int} {rest : List Int} (e : ds.drop u = d0 :: rest) : ds[u]? = some d0 ∧ rest = ds.drop (u + 1) ∧ u + 1 ≤ ds.length := by
  have h1 : ds[u]? = some d0 := by
    have := congrArg (fun l => l[0]?) e
    simpa using this
  have hl := (List.getElem?_eq_some_iff.mp h1).1
  refine ⟨h1, ?_, hl⟩
  rw [drop_at h1] at e
  exact (List.cons.inj e).2.symm
theorem sc_Run_follow : FnScope ["self", "plan", "word", "part", "which", "times", "turn"] ["self", "plan"] (C8.fnScope s_Run_follow) := C8.fnScope_by (by decide +kernel)
def sp_follow (K : PySem.W.Frag) (CR : Addr) : Nat → Sp
  | 0 => fun _ _ _ _ => False
  | d + 1 => fun vs H Q _ => ∃ (R dx LA PA : Addr) (u : Nat) (t : Int) (v : V) (p : Pl) (l : Nat) (ds ps nq ds' : List Int) (t' : Int), vs = [.ref R, v] ∧ PlA H v p ∧ okP d l p ∧ H R = some (.ins CR dx (runF LA PA u t)) ∧ H LA = some (.lst (ds.map V.int)) ∧ LA ≠ PA ∧ H PA = some (.lst (ps.map V.int)) ∧
    u ≤ ds.length ∧ rn p (ds.drop u) t = some (nq, ds', t') ∧ ps.length + nq.length ≤ 10000000 ∧
    ∀ H' (u' : Nat), Frm2 R PA H H' → u' ≤ ds.length → ds' = ds.drop u' → H' R = some (.ins CR dx (runF LA PA u' t')) → H' PA = some (.lst ((ps ++ nq).map V.int)) → Q .non H'
theorem follow_step (T : TxtP K mg) (TR : TxtR K CR) {d : Nat} {f : Addr} {fd : FuncData} (me : Meth K CR "follow" f) (F : C8.Fun K "follow" "Run.follow" s_Run_follow f fd) (b : Binds K fd ["self", "plan"] []) (m_take : C8.Met P w K mg base 2 CR "take" (sp_take K CR) [])
    (m_follow : C8.Met P w K mg base (d + 2) CR "follow" (sp_follow K CR d) []) : C8.Met P w K mg base (d + 3) CR "follow" (sp_follow K CR (d + 1)) [] := by
  refine C8.met0 TR.c me F b sc_Run_follow (fun vs H Q E h => ?_) fun cdv A outer s H vs Q E hr h => ?_
  · obtain ⟨R, dx, LA, PA, u, t, v, p, l, ds, ps, nq, ds', t', rfl, _⟩ := h; rfl
  · obtain ⟨R, dx, LA, PA, u, t, v, p, l, ds, ps, nq, ds', t', rfl, hp, ok, hR, hL, ne, hP, hu, r, sz, q⟩ := h
    have nd := sc_Run_follow.nd
    have nRP : R ≠ PA := ne_of hR hP (fun z => nomatch z)
    have nLR : LA ≠ R := ne_of hL hR (fun z => nomatch z)
    have hr : Room (d + 2) _ := hr
    refine ⟨_, (pss_cons (ps_set (i := 2) nd rfl (Or.inl rfl) (pe_ix (r := rIxT K) ix_tup (pv 1) pe_int (fun _ _ => rfl)))
      (pss_one (ps_if (pt_cmpR op_eq (pv 2) pe_str (nomark _)) (pss_one (ps_expr (pe_bmK (K := K) rfl PySem.F.plainAttrs_list PySem.F.slot_list_append PySem.F.type_list_append mt_append (pe_fld (pv 0) rfl) (pa_cons (pe_fld (pv 0) rfl) pa_nil)))) (pss_one (ps_if (pt_cmpR op_eq (pv 2) pe_str (nomark _)) (pss_one (ps_fldaug (pv 0) (C8.pe_mt m_take hr (by first | decide | exact Nat.le_refl _ | omega) (pv 0) (pa_cons (pe_ix (r := rIxT K) ix_tup (pv 1) pe_int (fun _ _ => rfl)) (pa_cons (pe_ix (r := rIxT K) ix_tup (pv 1) pe_int (fun _ _ => rfl)) pa_nil))) in_add)) (pss_one (ps_if (pt_cmpR op_eq (pv 2) pe_str (nomark _)) (pss_one (ps_for PassesOwn.never rfl (pi_tup (pe_ix (r := rIxT K) ix_tup (pv 1) pe_int (fun _ _ => rfl))) (pg_name (i := 3) nd rfl (Or.inl rfl)) (pss_one (ps_expr (C8.pe_mt m_follow hr (by first | decide | exact Nat.le_refl _ | omega) (pv 0) (pa_cons (pv 3) pa_nil)))))) (pss_one (ps_if (pt_cmpR op_eq (pv 2) pe_str (nomark _)) (pss_cons (ps_set (i := 4) nd rfl (Or.inl rfl) (C8.pe_mt m_take hr (by first | decide | exact Nat.le_refl _ | omega) (pv 0) (pa_cons pe_int (pa_cons (pe_op op_sub (pe_callB (r := Wd.rLen K) call_len1 (by rfl) T.n_len PySem.boot_len (pa_cons (pe_ix (r := rIxT K) ix_tup (pv 1) pe_int (fun _ _ => rfl)) pa_nil)) pe_int) pa_nil))))
      (pss_one (ps_expr (C8.pe_mt m_follow hr (by first | decide | exact Nat.le_refl _ | omega) (pv 0) (pa_cons (pe_ix (r := rIxT K) ix_tup (pe_ix (r := rIxT K) ix_tup (pv 1) pe_int (fun _ _ => rfl)) (pv 4) (fun _ _ => rfl)) pa_nil))))) (pss_cons (ps_set (i := 5) nd rfl (Or.inl rfl) (C8.pe_mt m_take hr (by first | decide | exact Nat.le_refl _ | omega) (pv 0) (pa_cons (pe_ix (r := rIxT K) ix_tup (pv 1) pe_int (fun _ _ => rfl)) (pa_cons (pe_ix (r := rIxT K) ix_tup (pv 1) pe_int (fun _ _ => rfl)) pa_nil))))
      (pss_one (ps_for PassesOwn.never rfl (pi_range1 rfl T.n_range (pa_cons (pv 5) pa_nil)) (pg_name (i := 6) nd rfl (Or.inl rfl)) (pss_one (ps_expr (C8.pe_mt m_follow hr (by first | decide | exact Nat.le_refl _ | omega) (pv 0) (pa_cons (pe_ix (r := rIxT K) ix_tup (pv 1) pe_int (fun _ _ => rfl)) pa_nil)))))))))))))))), ?_⟩
    cases hp with
    | pat ha =>
      walk_at "go"
      refine g_ixT (SqT.of ha) rfl ?_
      walk_at "go"
      refine ⟨_, rfl, R, CR, dx, _, _, rfl, hR, TR.c, TR.nP, lk_p, ?_⟩
      refine g_tyL hP ?_
      walk_at "go"
      refine ⟨_, rfl, R, CR, dx, _, _, rfl, hR, TR.c, TR.nN, lk_n, ?_⟩
      walk_at "go"
      simp only [rn, Option.some.injEq, Prod.mk.injEq] at r
      obtain ⟨rfl, rfl, rfl⟩ := r
      have lp : ps.length < 16000000 := by omega
      refine ⟨_, _, _, rfl, rfl, hP, by rw [List.length_map]; exact Nat.lt_of_lt_of_le lp (by decide), ?_⟩
      walk_at "go"
      exact q _ u .set hu rfl (by rw [upd_ne nRP]; exact hR) (by rw [upd_same, List.map_append]; rfl)
    | @work a x y ha =>
      cases e : ds.drop u with
      | nil => rw [e] at r; simp only [rn] at r; cases r
      | cons d0 rest =>
      rw [e] at r
      obtain ⟨hd, er, hu1⟩ := drop_cons e
      simp only [rn] at r
      split at r
      case isFalse => cases r
      rename_i bd
      simp only [Option.some.injEq, Prod.mk.injEq] at r
      obtain ⟨rfl, rfl, rfl⟩ := r
      walk_at "go"
      refine g_ixT (SqT.of ha) rfl ?_
      walk_at "go"
      refine ⟨_, rfl, R, CR, dx, _, _, rfl, hR, TR.c, TR.nN, lk_n, ?_⟩
      refine ⟨_, rfl, R, dx, _, rfl, hR, lk_take, ?_⟩
      walk_at "go"
      refine g_ixT (SqT.of ha) rfl ?_
      walk_at "go"
      refine g_ixT (SqT.of ha) rfl ?_
      walk_at "go"
      refine ⟨R, dx, LA, PA, u, t, x, y, d0, ds, rfl, hR, SqL.of hL, hd, bd.1, bd.2, ?_⟩
      refine ⟨_, _, rfl, rfl, dx, _, upd_same, by show 4 < 1000; decide, ?_⟩
      walk_at "go"
      exact q _ (u + 1) (Frm2.setS.trans .setS) hu1 er upd_same (by rw [upd_ne nRP.symm, upd_ne nRP.symm, List.append_nil]; exact hP)
    | @row a c vs ps' ha hc hps =>
      match d, ok, m_follow with
      | 0, ok, _ => unfold okP at ok; exact ok.elim
      | d + 1, ok, m_follow =>
      unfold okP at ok
      have ln := hps.len
      simp only [rn] at r
      walk_at "go"
      refine g_ixT (SqT.of ha) rfl ?_
      walk_at "go"
      refine g_ixT (SqT.of ha) rfl ?_
      walk_at "go"
      refine w_tup (xs := vs) (fun i σ H' => ∃ (v3 v4 v5 v6 : Option V) (u1 : Nat) (np : List Int) (t1 : Int), σ = [some (.ref R), some (.ref a), some (.str "row"), v3, v4, v5, v6] ∧ Frm2 R PA H H' ∧ u1 ≤ ds.length ∧ H' R = some (.ins CR dx (runF LA PA u1 t1)) ∧ H' PA = some (.lst ((ps ++ np).map V.int)) ∧
        ∃ np2, rns (ps'.drop i) (ds.drop u1) t1 = some (np2, ds', t') ∧ np ++ np2 = nq) ?_ ?_ ?_ ?_
      · exact ⟨_, _, _, _, u, [], t, rfl, .refl _ _ _, hu, hR, by rw [List.append_nil]; exact hP, nq, by rw [List.drop_zero]; exact r, rfl⟩
      · rintro i σ H' _ ⟨v3, v4, v5, v6, u1, np, t1, _, f, _⟩
        exact SqT.of (keep2 hR hP f _ _ hc)
      · rintro i v σ H' hv ⟨v3, v4, v5, v6, u1, np, t1, rfl, f, hu1, hR1, hP1, np2, r2, e2⟩
        obtain ⟨q1, hq, pv⟩ := hps.at hv
        rw [drop_at hq, rns] at r2
        obtain ⟨a2, d2, t2, b2, g1, g2, rfl⟩ := seqR_inv r2
        have le2 : (ps ++ np).length + a2.length ≤ 10000000 := by
          rw [← e2, List.length_append, List.length_append] at sz
          rw [List.length_append]
          omega
        walk_at "go"
        refine ⟨_, rfl, R, dx, _, rfl, hR1, lk_follow, ?_⟩
        walk_at "go"
        refine ⟨R, dx, LA, PA, u1, t1, v, q1, _, ds, ps ++ np, a2, d2, t2, rfl, PlA_keep (keep2 hR hP f) _ _ pv, okPs_at ok.2.2 hq, hR1, f _ _ nLR ne hL, ne, hP1, hu1, g1, le2, fun H2 u2 f2 hu2 eu2 hR2 hP2 => ?_⟩
        subst eu2
        walk_at "go"
        exact ⟨_, _, _, _, u2, np ++ a2, t2, rfl, f.trans f2, hu2, hR2, by rw [← List.append_assoc]; exact hP2, b2, g2, by rw [List.append_assoc]; exact e2⟩
      · rintro σ H' ⟨v3, v4, v5, v6, u1, np, t1, rfl, f, hu1, hR1, hP1, np2, r2, e2⟩
        rw [ln, List.drop_length, rns] at r2
        simp only [Option.some.injEq, Prod.mk.injEq] at r2
        obtain ⟨rfl, rfl, rfl⟩ := r2
        rw [List.append_nil] at e2
        subst e2
        walk_at "go"
        exact q _ u1 f hu1 rfl hR1 hP1
    | @either a c vs ps' ha hc hps =>
      match d, ok, m_follow with
      | 0, ok, _ => unfold okP at ok; exact ok.elim
      | d + 1, ok, m_follow =>
      unfold okP at ok
      have ln := hps.len
      cases e : ds.drop u with
      | nil => rw [e] at r; simp only [rn] at r; cases r
      | cons d0 rest =>
      rw [e] at r
      obtain ⟨hd, er, hu1⟩ := drop_cons e
      simp only [rn] at r
      split at r
      case isFalse => cases r
      rename_i d00
      obtain ⟨p, hpp, r⟩ := rnAt_some r
      have hi : d0.toNat < vs.length := by rw [ln]; exact (List.getElem?_eq_some_iff.mp hpp).1
      have hv0 : vs[d0.toNat]? = some vs[d0.toNat] := List.getElem?_eq_getElem hi
      obtain ⟨p', hp', pv⟩ := hps.at hv0
      cases hpp.symm.trans hp'
      walk_at "go"
      refine g_ixT (SqT.of ha) rfl ?_
      walk_at "go"
      refine ⟨_, rfl, R, dx, _, rfl, hR, lk_take, ?_⟩
      walk_at "go"
      refine g_ixT (SqT.of ha) rfl ?_
      walk_at "go"
      refine g_len (.inr (SqT.of hc)) ?_
      walk_at "go"
      refine ⟨R, dx, LA, PA, u, t, 0, _, d0, ds, rfl, hR, SqL.of hL, hd, d00, by omega, ?_⟩
      have f1 : Frm2 R PA H (upd H R (.ins CR dx (runF LA PA (u + 1 : Nat) t))) := .setS
      have k1 := keep2 hR hP f1
      walk_at "go"
      refine ⟨_, rfl, R, dx, _, rfl, upd_same, lk_follow, ?_⟩
      walk_at "go"
      refine g_ixT (SqT.of (k1 _ _ ha)) rfl ?_
      walk_at "go"
      refine g_ixT (v := vs[d0.toNat]) (SqT.of (k1 _ _ hc)) (at_of (j := d0.toNat) (by omega) hv0) ?_
      walk_at "go"
      refine ⟨R, dx, LA, PA, u + 1, t, _, p, _, ds, ps, nq, ds', t', rfl, PlA_keep k1 _ _ pv, okPs_at ok.2.2 hpp, upd_same, f1 _ _ nLR ne hL, ne, by rw [upd_ne nRP.symm]; exact hP, hu1, by rw [← er]; exact r, sz, fun H2 u2 f2 hu2 eu2 hR2 hP2 => ?_⟩
      walk_at "go"
      exact q _ u2 (f1.trans f2) hu2 eu2 hR2 hP2
    | @loop a x y w0 p ha hw =>
      match d, ok, m_follow with
      | 0, ok, _ => unfold okP at ok; exact ok.elim
      | d + 1, ok, m_follow =>
      match l, ok with
      | 0, ok => unfold okP at ok; exact ok.elim
      | l + 1, ok =>
      unfold okP at ok
      cases e : ds.drop u with
      | nil => rw [e] at r; simp only [rn] at r; cases r
      | cons d0 rest =>
      rw [e] at r
      obtain ⟨hd, er, hu1⟩ := drop_cons e
      simp only [rn] at r
      split at r
      case isFalse => cases r
      rename_i bd
      rw [iter_rep] at r
      walk_at "go"
      refine g_ixT (SqT.of ha) rfl ?_
      walk_at "go"
      refine ⟨_, rfl, R, dx, _, rfl, hR, lk_take, ?_⟩
      walk_at "go"
      refine g_ixT (SqT.of ha) rfl ?_
      walk_at "go"
      refine g_ixT (SqT.of ha) rfl ?_
      walk_at "go"
      refine ⟨R, dx, LA, PA, u, t, x, y, d0, ds, rfl, hR, SqL.of hL, hd, bd.1, bd.2, ?_⟩
      have f1 : Frm2 R PA H (upd H R (.ins CR dx (runF LA PA (u + 1 : Nat) t))) := .setS
      walk_at "go"
      refine w_range (by omega) (by omega) (fun i σ H' => ∃ (v3 v4 v6 : Option V) (u1 : Nat) (np : List Int) (t1 : Int), σ = [some (.ref R), some (.ref a), some (.str "loop"), v3, v4, some (.int d0), v6] ∧ Frm2 R PA H H' ∧ u1 ≤ ds.length ∧ H' R = some (.ins CR dx (runF LA PA u1 t1)) ∧ H' PA = some (.lst ((ps ++ np).map V.int)) ∧
        ∃ np2, rns (List.replicate (d0.toNat - i) p) (ds.drop u1) t1 = some (np2, ds', t') ∧ np ++ np2 = nq) ?_ ?_ ?_
      · exact ⟨_, _, _, u + 1, [], t, rfl, f1, hu1, upd_same, by rw [upd_ne nRP.symm, List.append_nil]; exact hP, nq, by rw [Nat.sub_zero, ← er]; exact r, rfl⟩
      · rintro i σ H' hi ⟨v3, v4, v6, u1, np, t1, rfl, f, hu2, hR1, hP1, np2, r2, e2⟩
        have es : d0.toNat - i = (d0.toNat - (i + 1)) + 1 := by omega
        rw [es, List.replicate_succ, rns] at r2
        obtain ⟨a2, d2, t2, b2, g1, g2, rfl⟩ := seqR_inv r2
        have le2 : (ps ++ np).length + a2.length ≤ 10000000 := by
          rw [← e2, List.length_append, List.length_append] at sz
          rw [List.length_append]
          omega
        walk_at "go"
        refine ⟨_, rfl, R, dx, _, rfl, hR1, lk_follow, ?_⟩
        walk_at "go"
        refine g_ixT (SqT.of (keep2 hR hP f _ _ ha)) rfl ?_
        walk_at "go"
        refine ⟨R, dx, LA, PA, u1, t1, _, p, _, ds, ps ++ np, a2, d2, t2, rfl, PlA_keep (keep2 hR hP f) _ _ hw, ok.2.2.2, hR1, f _ _ nLR ne hL, ne, hP1, hu2, g1, le2, fun H2 u3 f2 hu3 eu2 hR2 hP2 => ?_⟩
        subst eu2
        walk_at "go"
        exact ⟨_, _, _, u3, np ++ a2, t2, rfl, f.trans f2, hu3, hR2, by rw [← List.append_assoc]; exact hP2, b2, g2, by rw [List.append_assoc]; exact e2⟩
      · rintro σ H' ⟨v3, v4, v6, u1, np, t1, rfl, f, hu2, hR1, hP1, np2, r2, e2⟩
        rw [Nat.sub_self, List.replicate_zero, rns] at r2
        simp only [Option.some.injEq, Prod.mk.injEq] at r2
        obtain ⟨rfl, rfl, rfl⟩ := r2
        rw [List.append_nil] at e2
        subst e2
        walk_at "go"
        exact q _ u1 f hu2 rfl hR1 hP1
theorem ok_follow (T : TxtP K mg) (TR : TxtR K CR) {f : Addr} {fd : FuncData} (me : Meth K CR "follow" f) (F : C8.Fun K "follow" "Run.follow" s_Run_follow f fd) (b : Binds K fd ["self", "plan"] []) (m_take : C8.Met P w K mg base 2 CR "take" (sp_take K CR) []) : ∀ n : Nat, C8.Met P w K mg base (n + 2) CR "follow" (sp_follow K CR n) []
  | 0 => ⟨f, fd, ["self", "plan"], [], TR.c, me, ⟨fun _ _ _ _ h => h.elim, fun _ _ _ _ _ _ _ _ _ _ _ _ _ h => h.elim⟩, b, .nil⟩
  | n + 1 => follow_step T TR me F b m_take (ok_follow T TR me F b m_take n)
end
end K05
namespace K05
open PySem PySem.Spec PyProof.Rows L2 Wd
section
variable {P : Program} {w : World} {K : PySem.W.Frag} {mg : Str → Option Value} {base : Heap} {CR : Addr}
theorem sc_Run_init : FnScope ["self", "delays"] ["self", "delays"] (C8.fnScope s_Run_init) := C8.fnScope_by (by decide +kernel)
def sp_init (CR : Addr) : Sp := fun vs H Q _ => ∃ (R dx LA : Addr), vs = [.ref R, .ref LA] ∧ H R = some (.ins CR dx []) ∧ ∀ H' PA, Frm R H H' → H PA = none → H' R = some (.ins CR dx (runF LA PA 0 0)) → H' PA = some (.lst []) → Q .non H'
theorem ok_init (T : TxtP K mg) (TR : TxtR K CR) {f : Addr} {fd : FuncData} (M : Mk K CR f) (hm : mg "Run" = some (.ref CR)) (F : C8.Fun K "__init__" "Run.__init__" s_Run_init f fd) (b : Binds K fd ["self", "delays"] []) : C8.Mak P w K mg base 1 "Run" CR (sp_init CR) [] := by
  refine C8.mak0 M hm F b .nil sc_Run_init (fun vs H Q E h => ?_) fun cdv A outer s H vs Q E hr h => ?_
  · obtain ⟨R, dx, LA, rfl, _⟩ := h; rfl
  · obtain ⟨R, dx, LA, rfl, hR, q⟩ := h
    have nd := sc_Run_init.nd
    refine ⟨_, (pss_cons (ps_fld (pv 0) (pv 1) rfl)
      (pss_cons (ps_fld (pv 0) pe_int rfl)
      (pss_cons (ps_fld (pv 0) pe_int rfl)
      (pss_one (ps_fld (pv 0) (pe_lst pa_nil) rfl))))), ?_⟩
    walk_at "go"
    refine ⟨_, rfl, _, rfl, R, CR, dx, _, rfl, hR, TR.c, TR.nD, by decide, ?_⟩
    walk_at "go"
    refine ⟨_, rfl, R, CR, dx, _, rfl, upd_same, TR.c, TR.nU, by show 1 < 1000; decide, ?_⟩
    walk_at "go"
    refine ⟨_, rfl, R, CR, dx, _, rfl, upd_same, TR.c, TR.nN, by show 2 < 1000; decide, ?_⟩
    walk_at "go"
    refine ⟨Nat.zero_le _, fun PA hPA => ⟨_, rfl, R, CR, dx, _, rfl, same_new hPA _ _ upd_same, TR.c, TR.nP, by show 3 < 1000; decide, ?_⟩⟩
    have f3 : Frm R H (upd (upd (upd H R (HO.ins CR dx (putF ("delays" : Str) (V.ref LA) []))) R (HO.ins CR dx (putF ("used" : Str) (V.int 0) (putF ("delays" : Str) (V.ref LA) [])))) R
      (HO.ins CR dx (putF ("now" : Str) (V.int 0) (putF ("used" : Str) (V.int 0) (putF ("delays" : Str) (V.ref LA) []))))) := (Frm.set.trans .set).trans .set
    have nPR : PA ≠ R := fun z => by rw [z, upd_same] at hPA; cases hPA
    walk_at "go"
    exact q _ PA ((f3.trans (.new hPA)).trans .set) (f3.back nPR hPA) upd_same (by rw [upd_ne nPR, upd_same])

end
end K05
namespace K05
open PySem PySem.Spec PyProof.Rows L2 Wd
local macro_rules | `(tactic| walk_at "gs") => `(tactic| repeat (first
  | with_reducible refine Wd.g_seq ?_
  | ((with_reducible show L2.Ends.nx _ _ _); (with_reducible refine Wd.g_nx ?_))
  | with_reducible refine Wd.g_asg ?_
  | ((with_reducible refine' Wd.g_var ?h1 ?_); (case h1 => exact rfl))
  | with_reducible refine Wd.g_c ?_
  | with_reducible refine Wd.g_op ?_
  | with_reducible refine Wd.g_un ?_
  | with_reducible refine Wd.g_I0 ?_
  | with_reducible refine Wd.g_U ?_
  | with_reducible refine Wd.g_eqI ?_
  | with_reducible refine Wd.g_neI ?_
  | with_reducible refine Wd.g_eqS ?_
  | with_reducible refine Wd.g_neS ?_
  | with_reducible refine Wd.g_eqB ?_
  | with_reducible refine Wd.g_neB ?_
  | with_reducible refine Wd.g_isN ?_
  | with_reducible refine Wd.g_notN ?_
  | with_reducible refine Wd.g_lc ?_
  | with_reducible refine Wd.g_yes ?_
  | with_reducible refine Wd.g_test ?_
  | with_reducible refine Wd.g_tB ?_
  | with_reducible refine Wd.g_bl ?_
  | with_reducible refine Wd.g_blI ?_
  | with_reducible refine Wd.g_and ?_
  | with_reducible refine Wd.g_or ?_
  | with_reducible refine Wd.g_not ?_
  | with_reducible refine Wd.g_andV ?_
  | with_reducible refine Wd.g_orV ?_
  | with_reducible refine Wd.g_notV ?_
  | with_reducible refine Wd.g_if ?_
  | with_reducible refine Wd.g_chain ?_
  | with_reducible refine Wd.g_chain3 ?_
  | with_reducible refine Wd.g_nil ?_
  | with_reducible refine Wd.g_cons ?_
  | with_reducible refine Wd.g_tup ?_
  | with_reducible refine Wd.g_lst ?_
  | with_reducible refine Wd.g_CB ?_
  | with_reducible refine Wd.g_call ?_
  | with_reducible refine Wd.g_callS ?_
  | with_reducible refine Wd.g_bm ?_
  | with_reducible refine Wd.g_bm0 ?_
  | with_reducible refine Wd.g_sl ?_
  | with_reducible refine Wd.g_part ?_
  | with_reducible refine Wd.g_part1 ?_
  | with_reducible refine Wd.g_noPart ?_
  | with_reducible refine Wd.g_next ?_
  | with_reducible refine Wd.g_name ?_
  | with_reducible refine Wd.g_sub ?_
  | with_reducible refine Wd.g_gnil ?_
  | with_reducible refine Wd.g_gcons ?_
  | with_reducible refine Wd.g_drop ?_
  | with_reducible refine Wd.g_ret ?_
  | with_reducible refine Wd.g_retN ?_
  | with_reducible refine Wd.g_brk ?_
  | with_reducible refine Wd.g_cont ?_
  | ((with_reducible show L2.Ends.bk _ _ _); (with_reducible refine Wd.g_bk ?_))
  | ((with_reducible show L2.Ends.ct _ _ _); (with_reducible refine Wd.g_ct ?_))
  | ((with_reducible show L2.Ends.rt _ _ _); (with_reducible refine Wd.g_rt ?_))
  | with_reducible refine Wd.g_for ?_
  | with_reducible refine Wd.g_rng1 ?_
  | with_reducible refine Wd.g_rng2 ?_
  | with_reducible refine Wd.g_iList ?_
  | with_reducible refine Wd.g_iTup ?_
  | ((with_reducible refine Wd.g_fit ?h1 ?_); (case h1 => exact rfl))
  | with_reducible refine Wd.g_max2 ?_
  | with_reducible refine Wd.g_min2 ?_
  | with_reducible refine Wd.g_int1B ?_
  | with_reducible refine L2.iteT ?_
  | with_reducible refine L2.iteF ?_
  | ((with_reducible refine Wd.g_itT ?h1 ?_); (case h1 => exact rfl))
  | ((with_reducible refine Wd.g_itF ?h1 ?_); (case h1 => exact rfl))))
theorem bit_eq (z g : Nat) : decide ((((z >>> g) &&& 1 : Nat) : Int) = 1) = z.testBit g := by
  have e : (z >>> g) &&& 1 = (z >>> g) % 2 := Nat.and_one_is_mod _
  have t : z.testBit g = decide ((z >>> g) % 2 = 1) := by
    rw [Nat.testBit, Nat.and_comm, Nat.and_one_is_mod]
    have := Nat.mod_two_eq_zero_or_one (z >>> g)
    rcases this with h | h <;> rw [h] <;> rfl
  rw [e, t]
  exact decide_eq_decide.mpr ⟨fun h => by omega, fun h => by omega⟩
theorem spread_below {z d y b : Nat} (h : Spread z d y) (hb : Below b z) : Below (b + d) y := fun i hi => by
  obtain ⟨k, h1, h2, h3⟩ := (h i).mp hi
  have := hb _ h3
  omega
structure TxtJ (K : PySem.W.Frag) (mg : Str → Option Value) : Prop extends TxtP K mg where
  n_min : mg "min" = none
  n_reversed : mg "reversed" = none
section
variable {P : Program} {w : World} {K : PySem.W.Frag} {mg : Str → Option Value} {base : Heap}
abbrev s_holds : Stmt := top 24
theorem sc_holds : FnScope ["gaps", "gap"] ["gaps", "gap"] (C8.fnScope s_holds) := C8.fnScope_by (by decide +kernel)
def sp_holds : Sp := fun vs H Q _ => ∃ z g : Nat, vs = [.int z, .int g] ∧ Q (.bl (z.testBit g)) H
theorem ok_holds {f : Addr} {fd : FuncData} (D : C8.Def K mg "holds" s_holds f fd) (b : Binds K fd ["gaps", "gap"] []) : C8.Cal P w K mg base 1 "holds" sp_holds [] := by
  refine C8.cal0 D b .nil sc_holds (fun vs H Q E h => ?_) fun cdv A outer s H vs Q E hr h => ?_
  · obtain ⟨z, g, rfl, _⟩ := h; rfl
  · obtain ⟨z, g, rfl, q⟩ := h
    have nd := sc_holds.nd
    refine ⟨_, (pss_one (ps_ret (pe_cmpR op_eq (pe_op (r := rAndB) op_andB (pe_op (r := rShrB) op_shrB (pv 0) (pv 1)) pe_int) pe_int (nomark _)))), ?_⟩
    walk_at "go"
    refine ⟨z, g, rfl, rfl, ?_⟩
    walk_at "go"
    refine ⟨z >>> g, 1, rfl, rfl, ?_⟩
    walk_at "go"
    rw [bit_eq]
    exact q
abbrev s_spread : Stmt := top 25
theorem sc_spread : FnScope ["gaps", "most", "done", "step"] ["gaps", "most"] (C8.fnScope s_spread) := C8.fnScope_by (by decide +kernel)
def sp_spread : Sp := fun vs H Q _ => ∃ z m b : Nat, vs = [.int z, .int m] ∧ Below b z ∧ b ≤ 5000 ∧ m ≤ 2000 ∧ ∀ s, Spread z m s → Below (b + m) s → Q (.int (s : Nat)) H
theorem ok_spread (T : TxtJ K mg) {f : Addr} {fd : FuncData} (D : C8.Def K mg "spread" s_spread f fd) (b : Binds K fd ["gaps", "most"] []) : C8.Cal P w K mg base 1 "spread" sp_spread [] := by
  refine C8.cal0 D b .nil sc_spread (fun vs H Q E h => ?_) fun cdv A outer s H vs Q E hr h => ?_
  · obtain ⟨z, m, b, rfl, _⟩ := h; rfl
  · obtain ⟨z, m, b, rfl, hb, b5, m2, q⟩ := h
    have nd := sc_spread.nd
    refine ⟨_, (pss_cons (ps_set (i := 2) nd rfl (Or.inl rfl) pe_int)
      (pss_cons (ps_while PassesOwn.never (pt_cmpR op_lt (pv 2) (pv 1) (nomark _)) (pss_cons (ps_set (i := 3) nd rfl (Or.inl rfl) (pe_callB (call_min1 rfl) (by rfl) T.n_min (by decide +kernel) (pa_cons (pe_op op_add (pv 2) pe_int) (pa_cons (pe_op op_sub (pv 1) (pv 2)) pa_nil))))
      (pss_cons (ps_set (i := 0) nd rfl (Or.inl rfl) (pe_op (r := rOrB) op_orB (pv 0) (pe_op (r := rShlB) op_shlB (pv 0) (pv 3))))
      (pss_one (ps_aug (i := 2) nd rfl (Or.inl rfl) (pv 3) ip_add)))))
      (pss_one (ps_ret (pv 0))))), ?_⟩
    walk_at "go"
    refine w_loop (fun k σ H' => ∃ (y d : Nat) (v3 : Option V), σ = [some (.int (y : Nat)), some (.int (m : Nat)), some (.int (d : Nat)), v3] ∧ H' = H ∧ Spread z d y ∧ d ≤ m ∧ k = m - d) m ?_ ?_
    · exact ⟨z, 0, _, rfl, rfl, spread_zero z, Nat.zero_le _, rfl⟩
    · rintro k σ H' ⟨y, d, v3, rfl, rfl, sp, dm, rfl⟩
      have yb := spread_below sp hb
      walk_at "go"
      by_cases c : d < m
      · rw [if_pos (decide_eq_true (by omega))]
        refine ⟨fun σ' H'' => ∃ (y' d' : Nat) (v3 : Option V), σ' = [some (.int (y' : Nat)), some (.int (m : Nat)), some (.int (d' : Nat)), v3] ∧ H'' = H' ∧ Spread z d' y' ∧ d' ≤ m ∧ d < d', fun σ' H'' ⟨y', d', v, e, h1, h2, h3, h4⟩ => ⟨m - d', by omega, y', d', v, e, h1, h2, h3, rfl⟩, ?_⟩
        walk_at "go"
        obtain ⟨st, est, s1, s2, s3⟩ : ∃ st : Nat, (if (m : Int) - d < d + 1 then (m : Int) - d else d + 1) = (st : Int) ∧ 1 ≤ st ∧ st ≤ d + 1 ∧ d + st ≤ m := by
          by_cases c2 : (m : Int) - d < d + 1
          · exact ⟨m - d, by rw [if_pos c2]; omega, by omega, by omega, by omega⟩
          · exact ⟨d + 1, by rw [if_neg c2]; omega, by omega, by omega, by omega⟩
        rw [est]
        walk_at "go"
        refine ⟨y, st, rfl, rfl, Nat.lt_of_lt_of_le (below_lt yb) (Nat.pow_le_pow_right (by decide) (by omega)), by omega, ?_⟩
        refine ⟨y, y <<< st, rfl, rfl, ?_⟩
        walk_at "go"
        refine ⟨_, rfl, _, rfl, ⟨_, _, rfl, rfl, ?_⟩⟩
        exact ⟨y ||| (y <<< st), d + st, _, rfl, rfl, spread_step sp s2, s3, by omega⟩
      · rw [if_neg (by rw [decide_eq_false (by omega)]; exact Bool.false_ne_true)]
        have e : d = m := by omega
        subst e
        walk_at "go"
        exact q y sp yb
end
end K05
namespace K05
open PySem PySem.Spec PyProof.Rows L2 Wd
theorem g_sfld {K : PySem.W.Frag} {to te : TE} {y : Str} {D : Ends} {σ : L2.St} {H : Hp} (h : te σ H fun x H1 => to σ H1 fun o H2 => ∃ R C dx fs, o = .ref R ∧ H2 R = some (.ins C dx fs) ∧ Cls K C ∧ NoAttr K C y ∧ fs.length < 1000 ∧ D.nx σ (upd H2 R (.ins C dx (putF y x fs)))) : sFld K to te y D σ H := h
theorem g_fldV {K : PySem.W.Frag} {i : Nat} {f : Str} {R C dx : Addr} {fs : List (Str × V)} {v : V} {σ : L2.St} {H : Hp} {Q : VK} (hs : σ[i]? = some (some (.ref R))) (hR : H R = some (.ins C dx fs)) (c : Cls K C) (n : NoAttr K C f) (l : fs.lookup f = some v) (q : Q v H) : tFld K (tVar i) f σ H Q :=
  ⟨_, hs, R, C, dx, fs, v, rfl, hR, c, n, l, q⟩
theorem one_lt_big : (1 : Nat) < 2 ^ 100000 := Nat.one_lt_two_pow (by decide)
theorem sub_nat {a b : Nat} (h : b ≤ a) : ((a : Nat) : Int) - ((b : Nat) : Int) = ((a - b : Nat) : Int) := (Int.ofNat_sub h).symm
structure TxtWt (K : PySem.W.Frag) (CWt : Addr) : Prop where
  c : Cls K CWt
  nL : NoAttr K CWt "low"
  nH : NoAttr K CWt "high"
  nB : NoAttr K CWt "bitten"
  nI : NoAttr K CWt "bite"
  nS : NoAttr K CWt "too_soon"
  nT : NoAttr K CWt "timely"
section
variable {P : Program} {w : World} {K : PySem.W.Frag} {mg : Str → Option Value} {base : Heap} {CWt : Addr}
abbrev watF (lo hi : Nat) : List (Str × V) := [("low", .int (lo : Nat)), ("high", .int (hi : Nat)), ("bitten", .int ((hi + 1 : Nat) : Int)), ("bite", .int ((2 ^ (hi + 1) : Nat) : Int)), ("too_soon", .int ((2 ^ lo - 1 : Nat) : Int)), ("timely", .int ((2 ^ (hi + 1) - 2 ^ lo : Nat) : Int))]
abbrev s_Watcher_init : Stmt := (C8.clsBody (top 26)).getD 0 (.Pass ⟨0, 0, 0, 0⟩)
abbrev s_Watcher_gap_behind_pat : Stmt := (C8.clsBody (top 26)).getD 1 (.Pass ⟨0, 0, 0, 0⟩)
abbrev s_Watcher_gap_behind_work : Stmt := (C8.clsBody (top 26)).getD 2 (.Pass ⟨0, 0, 0, 0⟩)
abbrev s_Watcher_gaps_ahead_of_pat : Stmt := (C8.clsBody (top 26)).getD 3 (.Pass ⟨0, 0, 0, 0⟩)
abbrev s_Watcher_gaps_ahead_of_work : Stmt := (C8.clsBody (top 26)).getD 4 (.Pass ⟨0, 0, 0, 0⟩)
theorem sc_Watcher_init : FnScope ["self", "window"] ["self", "window"] (C8.fnScope s_Watcher_init) := C8.fnScope_by (by decide +kernel)
def sp_winit (K : PySem.W.Frag) (CWt : Addr) : Sp := fun vs H Q _ => ∃ (R dx W : Addr) (lo hi : Nat), vs = [.ref R, .ref W] ∧ H R = some (.ins CWt dx []) ∧ SqT K H W [.int (lo : Nat), .int (hi : Nat)] ∧ lo ≤ hi ∧ hi ≤ 1000 ∧ ∀ H', Frm R H H' → H' R = some (.ins CWt dx (watF lo hi)) → Q .non H'
theorem ok_winit (T : TxtWt K CWt) {f : Addr} {fd : FuncData} (M : Mk K CWt f) (hm : mg "Watcher" = some (.ref CWt)) (F : C8.Fun K "__init__" "Watcher.__init__" s_Watcher_init f fd) (b : Binds K fd ["self", "window"] []) : C8.Mak P w K mg base 1 "Watcher" CWt (sp_winit K CWt) [] := by
  refine C8.mak0 M hm F b .nil sc_Watcher_init (fun vs H Q E h => ?_) fun cdv A outer s H vs Q E hr h => ?_
  · obtain ⟨R, dx, W, lo, hi, rfl, _⟩ := h; rfl
  · obtain ⟨R, dx, W, lo, hi, rfl, hR, hW, h1, h2, q⟩ := h
    have nd := sc_Watcher_init.nd
    refine ⟨_, (pss_cons (ps_asg (pv 1) (pg_tup rfl (pgs_cons (pg_att (pv 0)) (pgs_cons (pg_att (pv 0)) pgs_nil))))
      (pss_cons (ps_fld (pv 0) (pe_op op_add (pe_fld (pv 0) rfl) pe_int) rfl)
      (pss_cons (ps_fld (pv 0) (pe_op (r := rShlB) op_shlB pe_int (pe_fld (pv 0) rfl)) rfl)
      (pss_cons (ps_fld (pv 0) (pe_op op_sub (pe_op (r := rShlB) op_shlB pe_int (pe_fld (pv 0) rfl)) pe_int) rfl)
      (pss_one (ps_fld (pv 0) (pe_op op_sub (pe_fld (pv 0) rfl) (pe_op (r := rShlB) op_shlB pe_int (pe_fld (pv 0) rfl))) rfl)))))), ?_⟩
    walk_at "go"
    refine g_gtup hW rfl ?_
    walk_at "go"
    refine ⟨_, rfl, R, CWt, dx, _, rfl, hR, T.c, T.nL, by decide, ?_⟩
    walk_at "go"
    refine ⟨_, rfl, R, CWt, dx, _, rfl, upd_same, T.c, T.nH, by show 1 < 1000; decide, ?_⟩
    walk_at "go"
    refine g_sfld ?_
    walk_at "go"
    refine ⟨_, rfl, R, CWt, dx, _, _, rfl, upd_same, T.c, T.nH, rfl, ?_⟩
    walk_at "go"
    refine ⟨R, CWt, dx, _, rfl, upd_same, T.c, T.nB, by show 2 < 1000; decide, ?_⟩
    walk_at "go"
    refine g_sfld ?_
    walk_at "go"
    refine ⟨_, rfl, R, CWt, dx, _, _, rfl, upd_same, T.c, T.nB, rfl, ?_⟩
    refine ⟨1, hi + 1, rfl, rfl, one_lt_big, by omega, ?_⟩
    rw [Nat.one_shiftLeft]
    walk_at "go"
    refine ⟨R, CWt, dx, _, rfl, upd_same, T.c, T.nI, by show 3 < 1000; decide, ?_⟩
    walk_at "go"
    refine g_sfld ?_
    walk_at "go"
    refine ⟨_, rfl, R, CWt, dx, _, _, rfl, upd_same, T.c, T.nL, rfl, ?_⟩
    refine ⟨1, lo, rfl, rfl, one_lt_big, by omega, ?_⟩
    rw [Nat.one_shiftLeft]
    walk_at "go"
    rw [show (1 : Int) = ((1 : Nat) : Int) from rfl, sub_nat (Nat.one_le_two_pow (n := lo))]
    refine ⟨R, CWt, dx, _, rfl, upd_same, T.c, T.nS, by show 4 < 1000; decide, ?_⟩
    walk_at "go"
    refine g_sfld ?_
    walk_at "go"
    refine ⟨_, rfl, R, CWt, dx, _, _, rfl, upd_same, T.c, T.nI, rfl, ?_⟩
    walk_at "go"
    refine ⟨_, rfl, R, CWt, dx, _, _, rfl, upd_same, T.c, T.nL, rfl, ?_⟩
    refine ⟨1, lo, rfl, rfl, one_lt_big, by omega, ?_⟩
    rw [Nat.one_shiftLeft]
    walk_at "go"
    rw [sub_nat (Nat.pow_le_pow_right (by decide) (by omega) : 2 ^ lo ≤ 2 ^ (hi + 1))]
    refine ⟨R, CWt, dx, _, rfl, upd_same, T.c, T.nT, by show 5 < 1000; decide, ?_⟩
    exact q _ (((((Frm.set.trans .set).trans .set).trans .set).trans .set).trans .set) upd_same
theorem sc_gap_behind_pat : FnScope ["self", "gap"] ["self", "gap"] (C8.fnScope s_Watcher_gap_behind_pat) := C8.fnScope_by (by decide +kernel)
/-- a watcher -/
def IsWt (H : Hp) (CWt R : Addr) (lo hi : Nat) : Prop := ∃ dx, H R = some (.ins CWt dx (watF lo hi))
def sp_gbp (CWt : Addr) : Sp := fun vs H Q _ => ∃ (R : Addr) (lo hi g : Nat), vs = [.ref R, .int (g : Nat)] ∧ IsWt H CWt R lo hi ∧ Q (.int ((gP lo hi g : Nat) : Int)) H
theorem ok_gbp (T : TxtWt K CWt) {f : Addr} {fd : FuncData} (me : Meth K CWt "gap_behind_pat" f) (F : C8.Fun K "gap_behind_pat" "Watcher.gap_behind_pat" s_Watcher_gap_behind_pat f fd) (b : Binds K fd ["self", "gap"] []) : C8.Met P w K mg base 1 CWt "gap_behind_pat" (sp_gbp CWt) [] := by
  refine C8.met0 T.c me F b sc_gap_behind_pat (fun vs H Q E h => ?_) fun cdv A outer s H vs Q E hr h => ?_
  · obtain ⟨R, lo, hi, g, rfl, _⟩ := h; rfl
  · obtain ⟨R, lo, hi, g, rfl, ⟨dx, hR⟩, q⟩ := h
    have nd := sc_gap_behind_pat.nd
    refine ⟨_, (pss_cons (ps_if (pt_chain op_le op_le (pe_fld (pv 0) rfl) (pv 1) (pe_fld (pv 0) rfl)) (pss_one (ps_ret pe_int)) pss_nil)
      (pss_one (ps_ret (pe_fld (pv 0) rfl)))), ?_⟩
    walk_at "go"
    refine g_fldV rfl hR T.c T.nL rfl ?_
    walk_at "go"
    unfold gP at q
    refine g_ite (fun h1 => ?_) (fun h1 => ?_)
    · have c1 : lo ≤ g := by have : (lo : Int) ≤ (g : Int) := h1; omega
      refine g_fldV rfl hR T.c T.nH rfl ?_
      walk_at "go"
      by_cases c2 : g ≤ hi
      · rw [if_pos ⟨c1, c2⟩] at q
        refine g_ite (fun _ => ?_) (fun z => absurd (show (g : Int) ≤ (hi : Int) by omega) z)
        walk_at "go"
        exact q
      · rw [if_neg (fun z => c2 z.2)] at q
        refine g_ite (fun z => absurd (show (g : Int) ≤ (hi : Int) from z) (by omega)) (fun _ => ?_)
        walk_at "go"
        refine g_fldV rfl hR T.c T.nB rfl ?_
        exact q
    · rw [if_neg (fun z => h1 (show (lo : Int) ≤ (g : Int) by have := z.1; omega))] at q
      walk_at "go"
      refine g_fldV rfl hR T.c T.nB rfl ?_
      exact q
theorem sc_gap_behind_work : FnScope ["self", "gap", "delay"] ["self", "gap", "delay"] (C8.fnScope s_Watcher_gap_behind_work) := C8.fnScope_by (by decide +kernel)
def sp_gbw (CWt : Addr) : Sp := fun vs H Q _ => ∃ (R : Addr) (lo hi g d : Nat), vs = [.ref R, .int (g : Nat), .int (d : Nat)] ∧ IsWt H CWt R lo hi ∧ Q (.int ((gW hi g d : Nat) : Int)) H
theorem ok_gbw (TW : TxtWt K CWt) (T : TxtJ K mg) {f : Addr} {fd : FuncData} (me : Meth K CWt "gap_behind_work" f) (F : C8.Fun K "gap_behind_work" "Watcher.gap_behind_work" s_Watcher_gap_behind_work f fd) (b : Binds K fd ["self", "gap", "delay"] []) : C8.Met P w K mg base 1 CWt "gap_behind_work" (sp_gbw CWt) [] := by
  refine C8.met0 TW.c me F b sc_gap_behind_work (fun vs H Q E h => ?_) fun cdv A outer s H vs Q E hr h => ?_
  · obtain ⟨R, lo, hi, g, d, rfl, _⟩ := h; rfl
  · obtain ⟨R, lo, hi, g, d, rfl, ⟨dx, hR⟩, q⟩ := h
    have nd := sc_gap_behind_work.nd
    refine ⟨_, (pss_one (ps_ret (pe_callB (call_min1 rfl) (by rfl) T.n_min (by decide +kernel) (pa_cons (pe_op op_add (pv 1) (pv 2)) (pa_cons (pe_fld (pv 0) rfl) pa_nil))))), ?_⟩
    walk_at "go"
    refine g_fldV rfl hR TW.c TW.nB rfl ?_
    walk_at "go"
    have e : (if ((hi + 1 : Nat) : Int) < (g : Int) + (d : Int) then ((hi + 1 : Nat) : Int) else (g : Int) + (d : Int)) = ((gW hi g d : Nat) : Int) := by
      unfold gW
      split <;> omega
    rw [e]
    exact q
end
end K05
namespace K05
open PySem PySem.Spec PyProof.Rows L2 Wd
local macro_rules | `(tactic| walk_at "gs") => `(tactic| repeat (first
  | with_reducible refine Wd.g_seq ?_
  | ((with_reducible show L2.Ends.nx _ _ _); (with_reducible refine Wd.g_nx ?_))
  | with_reducible refine Wd.g_asg ?_
  | ((with_reducible refine' Wd.g_var ?h1 ?_); (case h1 => exact rfl))
  | with_reducible refine Wd.g_c ?_
  | with_reducible refine Wd.g_op ?_
  | with_reducible refine Wd.g_un ?_
  | with_reducible refine Wd.g_I0 ?_
  | with_reducible refine Wd.g_U ?_
  | with_reducible refine Wd.g_eqI ?_
  | with_reducible refine Wd.g_neI ?_
  | with_reducible refine Wd.g_eqS ?_
  | with_reducible refine Wd.g_neS ?_
  | with_reducible refine Wd.g_eqB ?_
  | with_reducible refine Wd.g_neB ?_
  | with_reducible refine Wd.g_isN ?_
  | with_reducible refine Wd.g_notN ?_
  | with_reducible refine Wd.g_lc ?_
  | with_reducible refine Wd.g_yes ?_
  | with_reducible refine Wd.g_test ?_
  | with_reducible refine Wd.g_tB ?_
  | with_reducible refine Wd.g_bl ?_
  | with_reducible refine Wd.g_blI ?_
  | with_reducible refine Wd.g_and ?_
  | with_reducible refine Wd.g_or ?_
  | with_reducible refine Wd.g_not ?_
  | with_reducible refine Wd.g_andV ?_
  | with_reducible refine Wd.g_orV ?_
  | with_reducible refine Wd.g_notV ?_
  | with_reducible refine Wd.g_if ?_
  | with_reducible refine Wd.g_chain ?_
  | with_reducible refine Wd.g_chain3 ?_
  | with_reducible refine Wd.g_nil ?_
  | with_reducible refine Wd.g_cons ?_
  | with_reducible refine Wd.g_tup ?_
  | with_reducible refine Wd.g_lst ?_
  | with_reducible refine Wd.g_CB ?_
  | with_reducible refine Wd.g_call ?_
  | with_reducible refine Wd.g_callS ?_
  | with_reducible refine Wd.g_bm ?_
  | with_reducible refine Wd.g_bm0 ?_
  | with_reducible refine Wd.g_sl ?_
  | with_reducible refine Wd.g_part ?_
  | with_reducible refine Wd.g_part1 ?_
  | with_reducible refine Wd.g_noPart ?_
  | with_reducible refine Wd.g_next ?_
  | with_reducible refine Wd.g_name ?_
  | with_reducible refine Wd.g_sub ?_
  | with_reducible refine Wd.g_gnil ?_
  | with_reducible refine Wd.g_gcons ?_
  | with_reducible refine Wd.g_drop ?_
  | with_reducible refine Wd.g_ret ?_
  | with_reducible refine Wd.g_retN ?_
  | with_reducible refine Wd.g_brk ?_
  | with_reducible refine Wd.g_cont ?_
  | ((with_reducible show L2.Ends.bk _ _ _); (with_reducible refine Wd.g_bk ?_))
  | ((with_reducible show L2.Ends.ct _ _ _); (with_reducible refine Wd.g_ct ?_))
  | ((with_reducible show L2.Ends.rt _ _ _); (with_reducible refine Wd.g_rt ?_))
  | with_reducible refine Wd.g_for ?_
  | with_reducible refine Wd.g_rng1 ?_
  | with_reducible refine Wd.g_rng2 ?_
  | with_reducible refine Wd.g_iList ?_
  | with_reducible refine Wd.g_iTup ?_
  | ((with_reducible refine Wd.g_fit ?h1 ?_); (case h1 => exact rfl))
  | with_reducible refine Wd.g_max2 ?_
  | with_reducible refine Wd.g_min2 ?_
  | with_reducible refine Wd.g_int1B ?_
  | with_reducible refine L2.iteT ?_
  | with_reducible refine L2.iteF ?_
  | ((with_reducible refine Wd.g_itT ?h1 ?_); (case h1 => exact rfl))
  | ((with_reducible refine Wd.g_itF ?h1 ?_); (case h1 => exact rfl))))
theorem g_join {t : TT} {a b : TS} {σ : L2.St} {H : Hp} {N : L2.St → Hp → Prop} {rt : VK} {bk ct : L2.St → Hp → Prop} (P : L2.St → Hp → Prop) (key : ∀ σ H, P σ H → N σ H) (h : ∀ N' : L2.St → Hp → Prop, (∀ σ H, P σ H → N' σ H) → tIfS t a b ⟨N', rt, bk, ct⟩ σ H) : tIfS t a b ⟨N, rt, bk, ct⟩ σ H := h N key
theorem spread_ex (z : Nat) : ∀ m : Nat, ∃ s, Spread z m s
  | 0 => ⟨z, spread_zero z⟩
  | m + 1 => (spread_ex z m).elim fun s h => ⟨_, spread_step h (Nat.le_add_left 1 m)⟩
theorem below_bite (hi : Nat) : Below (hi + 2) (2 ^ (hi + 1)) := fun i h => by
  rw [tb_one, decide_eq_true_eq] at h; omega
theorem mask_bit {lo hi i : Nat} (h : lo ≤ hi) : (((2 ^ (hi + 1) - 2 ^ lo) ||| (2 ^ lo - 1)) ||| 2 ^ (hi + 1)).testBit i = decide (i ≤ hi + 1) := by
  rw [tb_or, tb_or, tb_timely (by omega), tb_low, tb_one, ← Bool.decide_or, ← Bool.decide_or]
  exact decide_eq_decide.mpr ⟨fun z => by omega, fun z => by omega⟩
section
variable {P : Program} {w : World} {K : PySem.W.Frag} {mg : Str → Option Value} {base : Heap} {CWt : Addr}
theorem sc_gap_pat : FnScope ["self", "goal", "gaps"] ["self", "goal"] (C8.fnScope s_Watcher_gaps_ahead_of_pat) := C8.fnScope_by (by decide +kernel)
def sp_gap (CWt : Addr) : Sp := fun vs H Q _ => ∃ (R : Addr) (lo hi z : Nat), vs = [.ref R, .int (z : Nat)] ∧ IsWt H CWt R lo hi ∧ Q (.int ((preP lo hi z : Nat) : Int)) H
theorem ok_gap (TW : TxtWt K CWt) {f : Addr} {fd : FuncData} (me : Meth K CWt "gaps_ahead_of_pat" f) (F : C8.Fun K "gaps_ahead_of_pat" "Watcher.gaps_ahead_of_pat" s_Watcher_gaps_ahead_of_pat f fd) (b : Binds K fd ["self", "goal"] []) (g_holds : C8.Cal P w K mg base 1 "holds" sp_holds []) : C8.Met P w K mg base 2 CWt "gaps_ahead_of_pat" (sp_gap CWt) [] := by
  refine C8.met0 TW.c me F b sc_gap_pat (fun vs H Q E h => ?_) fun cdv A outer s H vs Q E hr h => ?_
  · obtain ⟨R, lo, hi, z, rfl, _⟩ := h; rfl
  · obtain ⟨R, lo, hi, z, rfl, ⟨dx, hR⟩, q⟩ := h
    have nd := sc_gap_pat.nd
    refine ⟨_, (pss_cons (ps_set (i := 2) nd rfl (Or.inl rfl) pe_int)
      (pss_cons (ps_if (pt_val (C8.pe_c g_holds hr (by first | decide | exact Nat.le_refl _ | omega) (by rfl) (pa_cons (pv 1) (pa_cons pe_int pa_nil)))) (pss_one (ps_set (i := 2) nd rfl (Or.inl rfl) (pe_op (r := rOrB) op_orB (pv 2) (pe_fld (pv 0) rfl)))) pss_nil)
      (pss_cons (ps_if (pt_val (C8.pe_c g_holds hr (by first | decide | exact Nat.le_refl _ | omega) (by rfl) (pa_cons (pv 1) (pa_cons (pe_fld (pv 0) rfl) pa_nil)))) (pss_one (ps_set (i := 2) nd rfl (Or.inl rfl) (pe_op (r := rOrB) op_orB (pe_op (r := rOrB) op_orB (pv 2) (pe_fld (pv 0) rfl)) (pe_fld (pv 0) rfl)))) pss_nil)
      (pss_one (ps_ret (pv 2)))))), ?_⟩
    walk_at "gs"
    refine g_join (fun σ H' => ∃ y : Nat, σ = [some (.ref R), some (.int (z : Nat)), some (.int (y : Nat))] ∧ H' = H ∧ y = if z.testBit 0 = true then 2 ^ (hi + 1) - 2 ^ lo else 0) ?_ ?_
    case refine_2 =>
      intro N' hk
      walk_at "go"
      refine ⟨z, 0, rfl, ?_⟩
      walk_at "go"
      by_cases c : z.testBit 0 = true
      · rw [if_pos c]
        walk_at "go"
        refine g_fldV rfl hR TW.c TW.nT rfl ?_
        refine ⟨0, 2 ^ (hi + 1) - 2 ^ lo, rfl, rfl, ?_⟩
        walk_at "go"
        exact hk _ _ ⟨_, rfl, rfl, by rw [if_pos c, Nat.zero_or]⟩
      · rw [if_neg c]
        exact hk _ _ ⟨0, rfl, rfl, by rw [if_neg c]⟩
    case refine_1 =>
      rintro σ H' ⟨y, rfl, rfl, ey⟩
      walk_at "go"
      refine g_fldV rfl hR TW.c TW.nB rfl ?_
      walk_at "go"
      refine ⟨z, hi + 1, rfl, ?_⟩
      walk_at "go"
      unfold preP at q
      rw [← ey] at q
      by_cases c : z.testBit (hi + 1) = true
      · rw [if_pos c] at q ⊢
        walk_at "go"
        refine g_fldV rfl hR TW.c TW.nS rfl ?_
        refine ⟨y, 2 ^ lo - 1, rfl, rfl, ?_⟩
        walk_at "go"
        refine g_fldV rfl hR TW.c TW.nI rfl ?_
        refine ⟨y ||| (2 ^ lo - 1), 2 ^ (hi + 1), rfl, rfl, ?_⟩
        walk_at "go"
        rw [Nat.or_assoc]
        exact q
      · rw [if_neg c] at q ⊢
        walk_at "go"
        rw [Nat.or_zero] at q
        exact q
theorem sc_gap_work : FnScope ["self", "goal", "least", "most", "gaps"] ["self", "goal", "least", "most"] (C8.fnScope s_Watcher_gaps_ahead_of_work) := C8.fnScope_by (by decide +kernel)
def sp_gaw (CWt : Addr) : Sp := fun vs H Q _ => ∃ (R : Addr) (lo hi z least most : Nat), vs = [.ref R, .int (z : Nat), .int (least : Nat), .int (most : Nat)] ∧ IsWt H CWt R lo hi ∧ lo ≤ hi ∧ hi ≤ 1000 ∧ Below (hi + 2) z ∧ least ≤ most ∧ most ≤ 1000 ∧
  ∀ g, Bits hi (Led lo hi (.work least most)) z g → Q (.int (g : Nat)) H
theorem ok_gaw (TW : TxtWt K CWt) {f : Addr} {fd : FuncData} (me : Meth K CWt "gaps_ahead_of_work" f) (F : C8.Fun K "gaps_ahead_of_work" "Watcher.gaps_ahead_of_work" s_Watcher_gaps_ahead_of_work f fd) (b : Binds K fd ["self", "goal", "least", "most"] []) (g_holds : C8.Cal P w K mg base 1 "holds" sp_holds []) (g_spread : C8.Cal P w K mg base 1 "spread" sp_spread []) : C8.Met P w K mg base 2 CWt "gaps_ahead_of_work" (sp_gaw CWt) [] := by
  refine C8.met0 TW.c me F b sc_gap_work (fun vs H Q E h => ?_) fun cdv A outer s H vs Q E hr h => ?_
  · obtain ⟨R, lo, hi, z, least, most, rfl, _⟩ := h; rfl
  · obtain ⟨R, lo, hi, z, least, most, rfl, ⟨dx, hR⟩, l1, l2, hb, l3, l4, q⟩ := h
    have nd := sc_gap_work.nd
    refine ⟨_, (pss_cons (ps_if (pt_val (C8.pe_c g_holds hr (by first | decide | exact Nat.le_refl _ | omega) (by rfl) (pa_cons (pv 1) (pa_cons (pe_fld (pv 0) rfl) pa_nil)))) (pss_one (ps_set (i := 1) nd rfl (Or.inl rfl) (pe_op (r := rOrB) op_orB (pv 1) (C8.pe_c g_spread hr (by first | decide | exact Nat.le_refl _ | omega) (by rfl) (pa_cons (pe_fld (pv 0) rfl) (pa_cons (pv 3) pa_nil)))))) pss_nil)
      (pss_cons (ps_set (i := 4) nd rfl (Or.inl rfl) (pe_op (r := rShrB) op_shrB (C8.pe_c g_spread hr (by first | decide | exact Nat.le_refl _ | omega) (by rfl) (pa_cons (pv 1) (pa_cons (pe_op op_sub (pv 3) (pv 2)) pa_nil))) (pv 3)))
      (pss_one (ps_ret (pe_op (r := rAndB) op_andB (pv 4) (pe_op (r := rOrB) op_orB (pe_op (r := rOrB) op_orB (pe_fld (pv 0) rfl) (pe_fld (pv 0) rfl)) (pe_fld (pv 0) rfl))))))), ?_⟩
    walk_at "gs"
    refine g_join (fun σ H' => ∃ (z2 s1 : Nat) (v4 : Option V), σ = [some (.ref R), some (.int (z2 : Nat)), some (.int (least : Nat)), some (.int (most : Nat)), v4] ∧ H' = H ∧ Spread (2 ^ (hi + 1)) most s1 ∧ z2 = (if z.testBit (hi + 1) = true then z ||| s1 else z) ∧ Below (hi + 2 + most) z2) ?_ ?_
    case refine_2 =>
      intro N' hk
      walk_at "go"
      refine g_fldV rfl hR TW.c TW.nB rfl ?_
      walk_at "go"
      refine ⟨z, hi + 1, rfl, ?_⟩
      walk_at "go"
      by_cases c : z.testBit (hi + 1) = true
      · rw [if_pos c]
        walk_at "go"
        refine g_fldV rfl hR TW.c TW.nI rfl ?_
        walk_at "go"
        refine ⟨2 ^ (hi + 1), most, hi + 2, rfl, below_bite hi, by omega, by omega, fun s sp sb => ?_⟩
        refine ⟨z, s, rfl, rfl, ?_⟩
        walk_at "go"
        refine hk _ _ ⟨z ||| s, s, _, rfl, rfl, sp, by rw [if_pos c], fun i hi' => ?_⟩
        rw [tb_or, Bool.or_eq_true] at hi'
        rcases hi' with h | h
        · have := hb i h; omega
        · exact sb i h
      · rw [if_neg c]
        obtain ⟨s, sp⟩ := spread_ex (2 ^ (hi + 1)) most
        exact hk _ _ ⟨z, s, _, rfl, rfl, sp, by rw [if_neg c], fun i h => by have := hb i h; omega⟩
    case refine_1 =>
      rintro σ H' ⟨z2, s1, v4, rfl, rfl, sp1, ez, bz⟩
      walk_at "go"
      rw [sub_nat l3]
      refine ⟨z2, most - least, hi + 2 + most, rfl, bz, by omega, by omega, fun s2 sp2 sb2 => ?_⟩
      walk_at "go"
      refine ⟨s2, most, rfl, rfl, ?_⟩
      walk_at "go"
      refine g_fldV rfl hR TW.c TW.nT rfl ?_
      walk_at "go"
      refine g_fldV rfl hR TW.c TW.nS rfl ?_
      refine ⟨2 ^ (hi + 1) - 2 ^ lo, 2 ^ lo - 1, rfl, rfl, ?_⟩
      walk_at "go"
      refine g_fldV rfl hR TW.c TW.nI rfl ?_
      refine ⟨_, 2 ^ (hi + 1), rfl, rfl, ?_⟩
      refine ⟨s2 >>> most, _, rfl, rfl, ?_⟩
      refine q _ ⟨fun i h => ?_, fun i hi' => ?_⟩
      · rw [tb_and, Bool.and_eq_true, mask_bit l1, decide_eq_true_eq] at h
        omega
      · rw [tb_and, Bool.and_eq_true, mask_bit l1, decide_eq_true_eq]
        unfold Led
        rw [preW_bit hb l3 sp1 ez sp2 hi']
        exact ⟨fun ⟨⟨d, a1, a2, a3⟩, _⟩ => ⟨d, by omega, by omega, a3⟩, fun ⟨d, a1, a2, a3⟩ => ⟨⟨d, by omega, by omega, a3⟩, hi'⟩⟩
end
end K05
namespace K05
open PySem PySem.Spec PyProof.Rows L2 Wd
local macro_rules | `(tactic| walk_at "gs") => `(tactic| repeat (first
  | with_reducible refine Wd.g_seq ?_
  | ((with_reducible show L2.Ends.nx _ _ _); (with_reducible refine Wd.g_nx ?_))
  | with_reducible refine Wd.g_asg ?_
  | ((with_reducible refine' Wd.g_var ?h1 ?_); (case h1 => exact rfl))
  | with_reducible refine Wd.g_c ?_
  | with_reducible refine Wd.g_op ?_
  | with_reducible refine Wd.g_un ?_
  | with_reducible refine Wd.g_I0 ?_
  | with_reducible refine Wd.g_U ?_
  | with_reducible refine Wd.g_eqI ?_
  | with_reducible refine Wd.g_neI ?_
  | with_reducible refine Wd.g_eqS ?_
  | with_reducible refine Wd.g_neS ?_
  | with_reducible refine Wd.g_eqB ?_
  | with_reducible refine Wd.g_neB ?_
  | with_reducible refine Wd.g_isN ?_
  | with_reducible refine Wd.g_notN ?_
  | with_reducible refine Wd.g_lc ?_
  | with_reducible refine Wd.g_yes ?_
  | with_reducible refine Wd.g_test ?_
  | with_reducible refine Wd.g_tB ?_
  | with_reducible refine Wd.g_bl ?_
  | with_reducible refine Wd.g_blI ?_
  | with_reducible refine Wd.g_and ?_
  | with_reducible refine Wd.g_or ?_
  | with_reducible refine Wd.g_not ?_
  | with_reducible refine Wd.g_andV ?_
  | with_reducible refine Wd.g_orV ?_
  | with_reducible refine Wd.g_notV ?_
  | with_reducible refine Wd.g_if ?_
  | with_reducible refine Wd.g_chain ?_
  | with_reducible refine Wd.g_chain3 ?_
  | with_reducible refine Wd.g_nil ?_
  | with_reducible refine Wd.g_cons ?_
  | with_reducible refine Wd.g_tup ?_
  | with_reducible refine Wd.g_lst ?_
  | with_reducible refine Wd.g_CB ?_
  | with_reducible refine Wd.g_call ?_
  | with_reducible refine Wd.g_callS ?_
  | with_reducible refine Wd.g_bm ?_
  | with_reducible refine Wd.g_bm0 ?_
  | with_reducible refine Wd.g_sl ?_
  | with_reducible refine Wd.g_part ?_
  | with_reducible refine Wd.g_part1 ?_
  | with_reducible refine Wd.g_noPart ?_
  | with_reducible refine Wd.g_next ?_
  | with_reducible refine Wd.g_name ?_
  | with_reducible refine Wd.g_sub ?_
  | with_reducible refine Wd.g_gnil ?_
  | with_reducible refine Wd.g_gcons ?_
  | with_reducible refine Wd.g_drop ?_
  | with_reducible refine Wd.g_ret ?_
  | with_reducible refine Wd.g_retN ?_
  | with_reducible refine Wd.g_brk ?_
  | with_reducible refine Wd.g_cont ?_
  | ((with_reducible show L2.Ends.bk _ _ _); (with_reducible refine Wd.g_bk ?_))
  | ((with_reducible show L2.Ends.ct _ _ _); (with_reducible refine Wd.g_ct ?_))
  | ((with_reducible show L2.Ends.rt _ _ _); (with_reducible refine Wd.g_rt ?_))
  | with_reducible refine Wd.g_for ?_
  | with_reducible refine Wd.g_rng1 ?_
  | with_reducible refine Wd.g_rng2 ?_
  | with_reducible refine Wd.g_iList ?_
  | with_reducible refine Wd.g_iTup ?_
  | ((with_reducible refine Wd.g_fit ?h1 ?_); (case h1 => exact rfl))
  | with_reducible refine Wd.g_max2 ?_
  | with_reducible refine Wd.g_min2 ?_
  | with_reducible refine Wd.g_int1B ?_
  | with_reducible refine L2.iteT ?_
  | with_reducible refine L2.iteF ?_
  | ((with_reducible refine Wd.g_itT ?h1 ?_); (case h1 => exact rfl))
  | ((with_reducible refine Wd.g_itF ?h1 ?_); (case h1 => exact rfl))))
/-- the ways' classes, and the names that they don't keep for themselves -/
structure TxtY (K : PySem.W.Frag) (WP WK WR WE WL : Addr) : Prop where
  cP : Cls K WP
  cK : Cls K WK
  cR : Cls K WR
  cE : Cls K WE
  cL : Cls K WL
  pW : NoAttr K WP "watcher"
  pG : NoAttr K WP "gaps"
  kW : NoAttr K WK "watcher"
  kO : NoAttr K WK "goal"
  kL : NoAttr K WK "least"
  kG : NoAttr K WK "gaps"
  rY : NoAttr K WR "ways"
  rG : NoAttr K WR "gaps"
  eY : NoAttr K WE "ways"
  eG : NoAttr K WE "gaps"
  lL : NoAttr K WL "least"
  lT : NoAttr K WL "turns"
  lO : NoAttr K WL "goals"
  lG : NoAttr K WL "gaps"
/-- the classes, the watcher and its window -/
structure Wy where
  WP : Addr
  WK : Addr
  WR : Addr
  WE : Addr
  WL : Addr
  Wt : Addr
  lo : Nat
  hi : Nat
abbrev nV (n : Nat) : V := .int (n : Int)
mutual
/-- v is the way of p into z, from g; its lists lie apart from what N tells -/
inductive WayA (Y : Wy) (N : Addr → Prop) (H : Hp) : V → Pl → Nat → Nat → Prop
  | pat {R dx : Addr} {z g : Nat} : H R = some (.ins Y.WP dx [("watcher", .ref Y.Wt), ("gaps", nV g)]) → ¬ N R → Bits Y.hi (Led Y.lo Y.hi .pat) z g → WayA Y N H (.ref R) .pat z g
  | work {R dx : Addr} {a b z g : Nat} : H R = some (.ins Y.WK dx [("watcher", .ref Y.Wt), ("goal", nV z), ("least", nV a), ("gaps", nV g)]) → ¬ N R → Bits Y.hi (Led Y.lo Y.hi (.work a b)) z g → WayA Y N H (.ref R) (.work a b) z g
  | row {R dx L : Addr} {vs : List V} {ps : List Pl} {z g : Nat} : H R = some (.ins Y.WR dx [("ways", .ref L), ("gaps", nV g)]) → ¬ N R → H L = some (.lst vs) → ¬ N L → WaysR Y N H vs ps z g → Bits Y.hi (Led Y.lo Y.hi (.row ps)) z g → WayA Y N H (.ref R) (.row ps) z g
  | either {R dx L : Addr} {vs : List V} {ps : List Pl} {z g : Nat} : H R = some (.ins Y.WE dx [("ways", .ref L), ("gaps", nV g)]) → ¬ N R → H L = some (.lst vs) → ¬ N L → WaysE Y N H vs ps z → Bits Y.hi (Led Y.lo Y.hi (.either ps)) z g → WayA Y N H (.ref R) (.either ps) z g
  | loop {R dx T O : Addr} {ts : List V} {zs : List Nat} {p : Pl} {a b z g : Nat} : H R = some (.ins Y.WL dx [("least", nV a), ("turns", .ref T), ("goals", .ref O), ("gaps", nV g)]) → ¬ N R → H T = some (.lst ts) → ¬ N T → H O = some (.lst (zs.map nV)) → ¬ N O → WaysL Y N H ts p z zs → ts.length = b →
      Bits Y.hi (Led Y.lo Y.hi (.loop a b p)) z g → WayA Y N H (.ref R) (.loop a b p) z g
/-- a row's ways, the last one first -/
inductive WaysR (Y : Wy) (N : Addr → Prop) (H : Hp) : List V → List Pl → Nat → Nat → Prop
  | nil {z : Nat} : WaysR Y N H [] [] z z
  | snoc {vs : List V} {ps : List Pl} {v : V} {p : Pl} {z g g2 : Nat} : WaysR Y N H vs ps z g → WayA Y N H v p g g2 → WaysR Y N H (vs ++ [v]) (p :: ps) z g2
/-- an either's ways -/
inductive WaysE (Y : Wy) (N : Addr → Prop) (H : Hp) : List V → List Pl → Nat → Prop
  | nil {z : Nat} : WaysE Y N H [] [] z
  | cons {vs : List V} {ps : List Pl} {v : V} {p : Pl} {z g : Nat} : WayA Y N H v p z g → WaysE Y N H vs ps z → WaysE Y N H (v :: vs) (p :: ps) z
/-- a loop's turns and goals: the first goal, then those of more turns -/
inductive WaysL (Y : Wy) (N : Addr → Prop) (H : Hp) : List V → Pl → Nat → List Nat → Prop
  | nil {p : Pl} {z : Nat} : WaysL Y N H [] p z [z]
  | snoc {ts : List V} {p : Pl} {v : V} {z g g2 : Nat} {zs : List Nat} : WaysL Y N H ts p z (zs ++ [g]) → WayA Y N H v p g g2 → WaysL Y N H (ts ++ [v]) p z (zs ++ [g] ++ [g2])
end
theorem WayA.bits {Y : Wy} {N : Addr → Prop} {H : Hp} {v : V} {p : Pl} {z g : Nat} (h : WayA Y N H v p z g) : Bits Y.hi (Led Y.lo Y.hi p) z g := by
  cases h <;> assumption
section
variable {Y : Wy} {N N' : Addr → Prop} {H H' : Hp}
mutual
/-- what lies apart from N stays -/
theorem WayA.keep (k : ∀ b o, ¬ N b → H b = some o → H' b = some o) : ∀ {v : V} {p : Pl} {z g : Nat}, WayA Y N H v p z g → WayA Y N H' v p z g
  | _, _, _, _, .pat h r b => .pat (k _ _ r h) r b
  | _, _, _, _, .work h r b => .work (k _ _ r h) r b
  | _, _, _, _, .row h1 r h2 n w b => .row (k _ _ r h1) r (k _ _ n h2) n (WaysR.keep k w) b
  | _, _, _, _, .either h1 r h2 n w b => .either (k _ _ r h1) r (k _ _ n h2) n (WaysE.keep k w) b
  | _, _, _, _, .loop h1 r h2 n h3 n3 w l b => .loop (k _ _ r h1) r (k _ _ n h2) n (k _ _ n3 h3) n3 (WaysL.keep k w) l b
theorem WaysR.keep (k : ∀ b o, ¬ N b → H b = some o → H' b = some o) : ∀ {vs : List V} {ps : List Pl} {z g : Nat}, WaysR Y N H vs ps z g → WaysR Y N H' vs ps z g
  | _, _, _, _, .nil => .nil
  | _, _, _, _, .snoc a b => .snoc (WaysR.keep k a) (WayA.keep k b)
theorem WaysE.keep (k : ∀ b o, ¬ N b → H b = some o → H' b = some o) : ∀ {vs : List V} {ps : List Pl} {z : Nat}, WaysE Y N H vs ps z → WaysE Y N H' vs ps z
  | _, _, _, .nil => .nil
  | _, _, _, .cons a b => .cons (WayA.keep k a) (WaysE.keep k b)
theorem WaysL.keep (k : ∀ b o, ¬ N b → H b = some o → H' b = some o) : ∀ {ts : List V} {p : Pl} {z : Nat} {zs : List Nat}, WaysL Y N H ts p z zs → WaysL Y N H' ts p z zs
  | _, _, _, _, .nil => .nil
  | _, _, _, _, .snoc a b => .snoc (WaysL.keep k a) (WayA.keep k b)
end
mutual
theorem WayA.mono (f : ∀ a, N' a → N a) : ∀ {v : V} {p : Pl} {z g : Nat}, WayA Y N H v p z g → WayA Y N' H v p z g
  | _, _, _, _, .pat h r b => .pat h (fun z => r (f _ z)) b
  | _, _, _, _, .work h r b => .work h (fun z => r (f _ z)) b
  | _, _, _, _, .row h1 r h2 n w b => .row h1 (fun z => r (f _ z)) h2 (fun z => n (f _ z)) (WaysR.mono f w) b
  | _, _, _, _, .either h1 r h2 n w b => .either h1 (fun z => r (f _ z)) h2 (fun z => n (f _ z)) (WaysE.mono f w) b
  | _, _, _, _, .loop h1 r h2 n h3 n3 w l b => .loop h1 (fun z => r (f _ z)) h2 (fun z => n (f _ z)) h3 (fun z => n3 (f _ z)) (WaysL.mono f w) l b
theorem WaysR.mono (f : ∀ a, N' a → N a) : ∀ {vs : List V} {ps : List Pl} {z g : Nat}, WaysR Y N H vs ps z g → WaysR Y N' H vs ps z g
  | _, _, _, _, .nil => .nil
  | _, _, _, _, .snoc a b => .snoc (WaysR.mono f a) (WayA.mono f b)
theorem WaysE.mono (f : ∀ a, N' a → N a) : ∀ {vs : List V} {ps : List Pl} {z : Nat}, WaysE Y N H vs ps z → WaysE Y N' H vs ps z
  | _, _, _, .nil => .nil
  | _, _, _, .cons a b => .cons (WayA.mono f a) (WaysE.mono f b)
theorem WaysL.mono (f : ∀ a, N' a → N a) : ∀ {ts : List V} {p : Pl} {z : Nat} {zs : List Nat}, WaysL Y N H ts p z zs → WaysL Y N' H ts p z zs
  | _, _, _, _, .nil => .nil
  | _, _, _, _, .snoc a b => .snoc (WaysL.mono f a) (WayA.mono f b)
end
theorem WayA.same (f : Same H H') {v : V} {p : Pl} {z g : Nat} (h : WayA Y N H v p z g) : WayA Y N H' v p z g := h.keep fun _ _ _ e => f _ _ e
theorem WaysR.same (f : Same H H') {vs : List V} {ps : List Pl} {z g : Nat} (h : WaysR Y N H vs ps z g) : WaysR Y N H' vs ps z g := h.keep fun _ _ _ e => f _ _ e
theorem WaysE.same (f : Same H H') {vs : List V} {ps : List Pl} {z : Nat} (h : WaysE Y N H vs ps z) : WaysE Y N H' vs ps z := h.keep fun _ _ _ e => f _ _ e
theorem WaysL.same (f : Same H H') {ts : List V} {p : Pl} {z : Nat} {zs : List Nat} (h : WaysL Y N H ts p z zs) : WaysL Y N H' ts p z zs := h.keep fun _ _ _ e => f _ _ e
/-- a thing of N's is changed -/
theorem keepN {D : Addr} {o : HO} (n : N D) : ∀ b u, ¬ N b → H b = some u → upd H D o b = some u := fun b u nb e => by
  rw [upd_ne (fun z => nb (by rw [z]; exact n))]; exact e
theorem WaysE.snoc : ∀ {vs : List V} {ps : List Pl} {v : V} {p : Pl} {z g : Nat}, WaysE Y N H vs ps z → WayA Y N H v p z g → WaysE Y N H (vs ++ [v]) (ps ++ [p]) z
  | _, _, _, _, _, _, .nil, h => .cons h .nil
  | _, _, _, _, _, _, .cons a b, h => .cons a (WaysE.snoc b h)
end
section
variable {P : Program} {w : World} {K : PySem.W.Frag} {mg : Str → Option Value} {base : Heap} {CWt WP WK WR WE WL : Addr}
abbrev s_PatWay_init : Stmt := (C8.clsBody (top 27)).getD 0 (.Pass ⟨0, 0, 0, 0⟩)
theorem sc_PatWay_init : FnScope ["self", "watcher", "goal"] ["self", "watcher", "goal"] (C8.fnScope s_PatWay_init) := C8.fnScope_by (by decide +kernel)
def sp_pinit (CWt WP : Addr) : Sp := fun vs H Q _ => ∃ (R dx Wt : Addr) (lo hi z : Nat), vs = [.ref R, .ref Wt, nV z] ∧ H R = some (.ins WP dx []) ∧ IsWt H CWt Wt lo hi ∧ ∀ H', Frm R H H' → H' R = some (.ins WP dx [("watcher", .ref Wt), ("gaps", nV (preP lo hi z))]) → Q .non H'
theorem ok_pinit (T : TxtY K WP WK WR WE WL) {f : Addr} {fd : FuncData} (M : Mk K WP f) (hm : mg "PatWay" = some (.ref WP)) (F : C8.Fun K "__init__" "PatWay.__init__" s_PatWay_init f fd) (b : Binds K fd ["self", "watcher", "goal"] []) (m_gap : C8.Met P w K mg base 2 CWt "gaps_ahead_of_pat" (sp_gap CWt) []) : C8.Mak P w K mg base 3 "PatWay" WP (sp_pinit CWt WP) [] := by
  refine C8.mak0 M hm F b .nil sc_PatWay_init (fun vs H Q E h => ?_) fun cdv A outer s H vs Q E hr h => ?_
  · obtain ⟨R, dx, Wt, lo, hi, z, rfl, _⟩ := h; rfl
  · obtain ⟨R, dx, Wt, lo, hi, z, rfl, hR, ⟨dw, hW⟩, q⟩ := h
    have nd := sc_PatWay_init.nd
    have nRW : Wt ≠ R := ne_of hW hR (fun z => nomatch z)
    refine ⟨_, (pss_cons (ps_fld (pv 0) (pv 1) rfl)
      (pss_one (ps_fld (pv 0) (C8.pe_mt m_gap hr (by first | decide | exact Nat.le_refl _ | omega) (pv 1) (pa_cons (pv 2) pa_nil)) rfl))), ?_⟩
    walk_at "go"
    refine g_sfld ?_
    walk_at "go"
    refine ⟨R, WP, dx, _, rfl, hR, T.cP, T.pW, by decide, ?_⟩
    walk_at "go"
    refine g_sfld ?_
    walk_at "go"
    refine ⟨_, rfl, Wt, dw, _, rfl, by rw [upd_ne nRW]; exact hW, rfl, ?_⟩
    walk_at "go"
    refine ⟨Wt, lo, hi, z, rfl, ⟨dw, by rw [upd_ne nRW]; exact hW⟩, ?_⟩
    walk_at "go"
    refine ⟨R, WP, dx, _, rfl, upd_same, T.cP, T.pG, by show 1 < 1000; decide, ?_⟩
    exact q _ (Frm.set.trans .set) upd_same
abbrev s_WorkWay_init : Stmt := (C8.clsBody (top 28)).getD 0 (.Pass ⟨0, 0, 0, 0⟩)
theorem sc_WorkWay_init : FnScope ["self", "watcher", "plan", "goal"] ["self", "watcher", "plan", "goal"] (C8.fnScope s_WorkWay_init) := C8.fnScope_by (by decide +kernel)
def sp_kinit (K : PySem.W.Frag) (CWt WK : Addr) : Sp := fun vs H Q _ => ∃ (R dx Wt PA : Addr) (lo hi z a b : Nat), vs = [.ref R, .ref Wt, .ref PA, nV z] ∧ H R = some (.ins WK dx []) ∧ IsWt H CWt Wt lo hi ∧ lo ≤ hi ∧ hi ≤ 1000 ∧ Below (hi + 2) z ∧ H PA = some (.tup [.str "work", nV a, nV b]) ∧ a ≤ b ∧ b ≤ 1000 ∧
  ∀ H' g, Frm R H H' → Bits hi (Led lo hi (.work a b)) z g → H' R = some (.ins WK dx [("watcher", .ref Wt), ("goal", nV z), ("least", nV a), ("gaps", nV g)]) → Q .non H'
theorem ok_kinit (T : TxtY K WP WK WR WE WL) {f : Addr} {fd : FuncData} (M : Mk K WK f) (hm : mg "WorkWay" = some (.ref WK)) (F : C8.Fun K "__init__" "WorkWay.__init__" s_WorkWay_init f fd) (b : Binds K fd ["self", "watcher", "plan", "goal"] []) (m_gaw : C8.Met P w K mg base 2 CWt "gaps_ahead_of_work" (sp_gaw CWt) []) : C8.Mak P w K mg base 3 "WorkWay" WK (sp_kinit K CWt WK) [] := by
  refine C8.mak0 M hm F b .nil sc_WorkWay_init (fun vs H Q E h => ?_) fun cdv A outer s H vs Q E hr h => ?_
  · obtain ⟨R, dx, Wt, PA, lo, hi, z, a, b, rfl, _⟩ := h; rfl
  · obtain ⟨R, dx, Wt, PA, lo, hi, z, a, b, rfl, hR, ⟨dw, hW⟩, l1, l2, hb, hP, l3, l4, q⟩ := h
    have nd := sc_WorkWay_init.nd
    have nRW : Wt ≠ R := ne_of hW hR (fun z => nomatch z)
    have nRP : PA ≠ R := ne_of hP hR (fun z => nomatch z)
    refine ⟨_, (pss_cons (ps_fld (pv 0) (pv 1) rfl)
      (pss_cons (ps_fld (pv 0) (pv 3) rfl)
      (pss_cons (ps_fld (pv 0) (pe_ix (r := rIxT K) ix_tup (pv 2) pe_int (fun _ _ => rfl)) rfl)
      (pss_one (ps_fld (pv 0) (C8.pe_mt m_gaw hr (by first | decide | exact Nat.le_refl _ | omega) (pv 1) (pa_cons (pv 3) (pa_cons (pe_ix (r := rIxT K) ix_tup (pv 2) pe_int (fun _ _ => rfl)) (pa_cons (pe_ix (r := rIxT K) ix_tup (pv 2) pe_int (fun _ _ => rfl)) pa_nil)))) rfl))))), ?_⟩
    walk_at "go"
    refine g_sfld ?_
    walk_at "go"
    refine ⟨R, WK, dx, _, rfl, hR, T.cK, T.kW, by decide, ?_⟩
    have f1 : Frm R H (upd H R (HO.ins WK dx (putF ("watcher" : Str) (V.ref Wt) []))) := .set
    have e1 := upd_same (H := H) (a := R) (o := HO.ins WK dx (putF ("watcher" : Str) (V.ref Wt) []))
    generalize upd H R (HO.ins WK dx (putF ("watcher" : Str) (V.ref Wt) [])) = H1 at f1 e1
    walk_at "go"
    refine g_sfld ?_
    walk_at "go"
    refine ⟨R, WK, dx, _, rfl, e1, T.cK, T.kO, by show 1 < 1000; decide, ?_⟩
    have f2 := f1.trans (.set (o := HO.ins WK dx (putF ("goal" : Str) (nV z) (putF ("watcher" : Str) (V.ref Wt) []))))
    have e2 := upd_same (H := H1) (a := R) (o := HO.ins WK dx (putF ("goal" : Str) (nV z) (putF ("watcher" : Str) (V.ref Wt) [])))
    generalize upd H1 R (HO.ins WK dx (putF ("goal" : Str) (nV z) (putF ("watcher" : Str) (V.ref Wt) []))) = H2 at f2 e2
    walk_at "go"
    refine g_sfld ?_
    walk_at "go"
    refine g_ixT (SqT.of (f2 _ _ nRP hP)) rfl ?_
    walk_at "go"
    refine ⟨R, WK, dx, _, rfl, e2, T.cK, T.kL, by show 2 < 1000; decide, ?_⟩
    have f3 := f2.trans (.set (o := HO.ins WK dx (putF ("least" : Str) (nV a) (putF ("goal" : Str) (nV z) (putF ("watcher" : Str) (V.ref Wt) [])))))
    have e3 := upd_same (H := H2) (a := R) (o := HO.ins WK dx (putF ("least" : Str) (nV a) (putF ("goal" : Str) (nV z) (putF ("watcher" : Str) (V.ref Wt) []))))
    generalize upd H2 R (HO.ins WK dx (putF ("least" : Str) (nV a) (putF ("goal" : Str) (nV z) (putF ("watcher" : Str) (V.ref Wt) [])))) = H3 at f3 e3
    walk_at "go"
    refine g_sfld ?_
    walk_at "go"
    refine ⟨_, rfl, Wt, dw, _, rfl, f3 _ _ nRW hW, rfl, ?_⟩
    walk_at "go"
    refine g_ixT (SqT.of (f3 _ _ nRP hP)) rfl ?_
    walk_at "go"
    refine g_ixT (SqT.of (f3 _ _ nRP hP)) rfl ?_
    walk_at "go"
    refine ⟨Wt, lo, hi, z, a, b, rfl, ⟨dw, f3 _ _ nRW hW⟩, l1, l2, hb, l3, l4, fun g hg => ?_⟩
    walk_at "go"
    refine ⟨R, WK, dx, _, rfl, e3, T.cK, T.kG, by show 3 < 1000; decide, ?_⟩
    exact q _ g (f3.trans .set) hg upd_same
end
end K05
namespace K05
open PySem PySem.Spec PyProof.Rows L2 Wd RT
local macro_rules | `(tactic| walk_at "gs") => `(tactic| repeat (first
  | with_reducible refine Wd.g_seq ?_
  | ((with_reducible show L2.Ends.nx _ _ _); (with_reducible refine Wd.g_nx ?_))
  | with_reducible refine Wd.g_asg ?_
  | ((with_reducible refine' Wd.g_var ?h1 ?_); (case h1 => exact rfl))
  | with_reducible refine Wd.g_c ?_
  | with_reducible refine Wd.g_op ?_
  | with_reducible refine Wd.g_un ?_
  | with_reducible refine Wd.g_I0 ?_
  | with_reducible refine Wd.g_U ?_
  | with_reducible refine Wd.g_eqI ?_
  | with_reducible refine Wd.g_neI ?_
  | with_reducible refine Wd.g_eqS ?_
  | with_reducible refine Wd.g_neS ?_
  | with_reducible refine Wd.g_eqB ?_
  | with_reducible refine Wd.g_neB ?_
  | with_reducible refine Wd.g_isN ?_
  | with_reducible refine Wd.g_notN ?_
  | with_reducible refine Wd.g_lc ?_
  | with_reducible refine Wd.g_yes ?_
  | with_reducible refine Wd.g_test ?_
  | with_reducible refine Wd.g_tB ?_
  | with_reducible refine Wd.g_bl ?_
  | with_reducible refine Wd.g_blI ?_
  | with_reducible refine Wd.g_and ?_
  | with_reducible refine Wd.g_or ?_
  | with_reducible refine Wd.g_not ?_
  | with_reducible refine Wd.g_andV ?_
  | with_reducible refine Wd.g_orV ?_
  | with_reducible refine Wd.g_notV ?_
  | with_reducible refine Wd.g_if ?_
  | with_reducible refine Wd.g_chain ?_
  | with_reducible refine Wd.g_chain3 ?_
  | with_reducible refine Wd.g_nil ?_
  | with_reducible refine Wd.g_cons ?_
  | with_reducible refine Wd.g_tup ?_
  | with_reducible refine Wd.g_lst ?_
  | with_reducible refine Wd.g_CB ?_
  | with_reducible refine Wd.g_call ?_
  | with_reducible refine Wd.g_callS ?_
  | with_reducible refine Wd.g_bm ?_
  | with_reducible refine Wd.g_bm0 ?_
  | with_reducible refine Wd.g_sl ?_
  | with_reducible refine Wd.g_part ?_
  | with_reducible refine Wd.g_part1 ?_
  | with_reducible refine Wd.g_noPart ?_
  | with_reducible refine Wd.g_next ?_
  | with_reducible refine Wd.g_name ?_
  | with_reducible refine Wd.g_sub ?_
  | with_reducible refine Wd.g_gnil ?_
  | with_reducible refine Wd.g_gcons ?_
  | with_reducible refine Wd.g_drop ?_
  | with_reducible refine Wd.g_ret ?_
  | with_reducible refine Wd.g_retN ?_
  | with_reducible refine Wd.g_brk ?_
  | with_reducible refine Wd.g_cont ?_
  | ((with_reducible show L2.Ends.bk _ _ _); (with_reducible refine Wd.g_bk ?_))
  | ((with_reducible show L2.Ends.ct _ _ _); (with_reducible refine Wd.g_ct ?_))
  | ((with_reducible show L2.Ends.rt _ _ _); (with_reducible refine Wd.g_rt ?_))
  | with_reducible refine Wd.g_for ?_
  | with_reducible refine Wd.g_rng1 ?_
  | with_reducible refine Wd.g_rng2 ?_
  | with_reducible refine Wd.g_iList ?_
  | with_reducible refine Wd.g_iTup ?_
  | ((with_reducible refine Wd.g_fit ?h1 ?_); (case h1 => exact rfl))
  | with_reducible refine Wd.g_max2 ?_
  | with_reducible refine Wd.g_min2 ?_
  | with_reducible refine Wd.g_int1B ?_
  | with_reducible refine L2.iteT ?_
  | with_reducible refine L2.iteF ?_
  | ((with_reducible refine Wd.g_itT ?h1 ?_); (case h1 => exact rfl))
  | ((with_reducible refine Wd.g_itF ?h1 ?_); (case h1 => exact rfl))))
section
variable {σ : L2.St} {H : Hp} {K : PySem.W.Frag}
theorem g_rev {te : TE} {R : It → Hp → Prop} (h : te σ H fun v H1 => ∃ (a : Addr) (xs : List V), v = .ref a ∧ ((SqL K H1 a xs ∧ R (Itv K a xs.length) H1) ∨ (SqT K H1 a xs ∧ R (ItvT K a xs.length) H1))) : iRevA K te σ H R := h
theorem w_revT {a : L2.St → Hp → Prop} {b : VK} {g : TG} {tb : TS} {p : Addr} {xs : List V} (Pv : Nat → L2.St → Hp → Prop) (h0 : Pv 0 σ H) (hq : ∀ i σ H, Pv i σ H → SqT K H p xs)
    (hs : ∀ (i : Nat) (x : V) (σ : L2.St) (H : Hp), i < xs.length → xs[xs.length - 1 - i]? = some x → Pv i σ H → g x σ H fun σ2 H2 => tb ⟨Pv (i + 1), b, a, Pv (i + 1)⟩ σ2 H2) (hd : ∀ σ H, Pv xs.length σ H → a σ H) :
    ∃ (q : Addr) (ys : List V), V.ref p = .ref q ∧ ((SqL K H q ys ∧ ForEnd g tb a b σ (Itv K q ys.length) H) ∨ (SqT K H q ys ∧ ForEnd g tb a b σ (ItvT K q ys.length) H)) :=
  ⟨p, xs, rfl, .inr ⟨hq 0 σ H h0, for_ItvT (D := ⟨a, b, fun _ _ => False, fun _ _ => False⟩) Pv h0 hq hs hd⟩⟩
theorem w_revL {a : L2.St → Hp → Prop} {b : VK} {g : TG} {tb : TS} {p : Addr} {xs : List V} (Pv : Nat → L2.St → Hp → Prop) (h0 : Pv 0 σ H) (hq : ∀ i σ H, Pv i σ H → SqL K H p xs)
    (hs : ∀ (i : Nat) (x : V) (σ : L2.St) (H : Hp), i < xs.length → xs[xs.length - 1 - i]? = some x → Pv i σ H → g x σ H fun σ2 H2 => tb ⟨Pv (i + 1), b, a, Pv (i + 1)⟩ σ2 H2) (hd : ∀ σ H, Pv xs.length σ H → a σ H) :
    ∃ (q : Addr) (ys : List V), V.ref p = .ref q ∧ ((SqL K H q ys ∧ ForEnd g tb a b σ (Itv K q ys.length) H) ∨ (SqT K H q ys ∧ ForEnd g tb a b σ (ItvT K q ys.length) H)) :=
  ⟨p, xs, rfl, .inl ⟨hq 0 σ H h0, for_Itv (D := ⟨a, b, fun _ _ => False, fun _ _ => False⟩) Pv h0 hq hs hd⟩⟩
end
/-- what a way holds of its gaps -/
theorem WayA.at_ {K : PySem.W.Frag} {Y : Wy} {N : Addr → Prop} {H : Hp} {v : V} {p : Pl} {z g : Nat} (T : TxtY K Y.WP Y.WK Y.WR Y.WE Y.WL) (h : WayA Y N H v p z g) :
    ∃ R C dx fs, v = .ref R ∧ H R = some (.ins C dx fs) ∧ C ∈ [Y.WP, Y.WK, Y.WR, Y.WE, Y.WL] ∧ Cls K C ∧ NoAttr K C "gaps" ∧ fs.lookup ("gaps" : Str) = some (nV g) ∧ fs.lookup ("lead" : Str) = none := by
  cases h with
  | pat h _ _ => exact ⟨_, _, _, _, rfl, h, by simp, T.cP, T.pG, rfl, rfl⟩
  | work h _ _ => exact ⟨_, _, _, _, rfl, h, by simp, T.cK, T.kG, rfl, rfl⟩
  | row h _ _ _ _ _ => exact ⟨_, _, _, _, rfl, h, by simp, T.cR, T.rG, rfl, rfl⟩
  | either h _ _ _ _ _ => exact ⟨_, _, _, _, rfl, h, by simp, T.cE, T.eG, rfl, rfl⟩
  | loop h _ _ _ _ _ _ _ _ => exact ⟨_, _, _, _, rfl, h, by simp, T.cL, T.lG, rfl, rfl⟩
theorem bits_below {hi : Nat} {F : (Nat → Prop) → Nat → Prop} {z g : Nat} (h : Bits hi F z g) : Below (hi + 2) g := h.low
theorem led_inS {hi : Nat} {F : (Nat → Prop) → Nat → Prop} {z g : Nat} (h : Bits hi F z g) : ∀ i, i ≤ hi + 1 → (inS g i ↔ F (inS z) i) := h.bit
mutual
/-- only the gaps up to one beyond high count -/
theorem Led.congr {lo hi : Nat} : ∀ (p : Pl) {G G' : Nat → Prop}, (∀ i, i ≤ hi + 1 → G i → G' i) → ∀ i, i ≤ hi + 1 → Led lo hi p G i → Led lo hi p G' i
  | .pat, G, G', h, i, hi', x => by unfold Led at x ⊢; exact h _ gP_le x
  | .work a b, G, G', h, i, hi', x => by
    unfold Led at x ⊢
    obtain ⟨d, h1, h2, h3⟩ := x
    exact ⟨d, h1, h2, h _ gW_le h3⟩
  | .row ps, G, G', h, i, hi', x => by unfold Led at x ⊢; exact Leds.congr ps h i hi' x
  | .either ps, G, G', h, i, hi', x => by unfold Led at x ⊢; exact LedE.congr ps h i hi' x
  | .loop a b p, G, G', h, i, hi', x => by
    unfold Led at x ⊢
    obtain ⟨n, h1, h2, h3⟩ := x
    refine ⟨n, h1, h2, ?_⟩
    have it : ∀ n j, j ≤ hi + 1 → iterP (Led lo hi p) n G j → iterP (Led lo hi p) n G' j := fun n => by
      induction n with
      | zero => exact h
      | succ n ih => exact fun j hj y => Led.congr p ih j hj y
    exact it n i hi' h3
theorem Leds.congr {lo hi : Nat} : ∀ (ps : List Pl) {G G' : Nat → Prop}, (∀ i, i ≤ hi + 1 → G i → G' i) → ∀ i, i ≤ hi + 1 → Leds lo hi ps G i → Leds lo hi ps G' i
  | [], G, G', h, i, hi', x => by unfold Leds at x ⊢; exact h i hi' x
  | p :: ps, G, G', h, i, hi', x => by unfold Leds at x ⊢; exact Led.congr p (Leds.congr ps h) i hi' x
theorem LedE.congr {lo hi : Nat} : ∀ (ps : List Pl) {G G' : Nat → Prop}, (∀ i, i ≤ hi + 1 → G i → G' i) → ∀ i, i ≤ hi + 1 → LedE lo hi ps G i → LedE lo hi ps G' i
  | [], G, G', h, i, hi', x => by unfold LedE at x; exact x.elim
  | p :: ps, G, G', h, i, hi', x => by unfold LedE at x ⊢; exact x.imp (Led.congr p h i hi') (LedE.congr ps h i hi')
end
theorem bits_cons {lo hi : Nat} {p : Pl} {ps : List Pl} {z g g2 : Nat} (h1 : Bits hi (Leds lo hi ps) z g) (h2 : Bits hi (Led lo hi p) g g2) : Bits hi (Leds lo hi (p :: ps)) z g2 :=
  ⟨h2.low, fun i hi' => by
    rw [h2.bit i hi']
    show Led lo hi p (inS g) i ↔ Leds lo hi (p :: ps) (inS z) i
    unfold Leds
    exact ⟨Led.congr p (fun j hj x => (h1.bit j hj).mp x) i hi', Led.congr p (fun j hj x => (h1.bit j hj).mpr x) i hi'⟩⟩
theorem bits_nil {lo hi z : Nat} (hb : Below (hi + 2) z) : Bits hi (Leds lo hi []) z z := ⟨hb, fun i _ => by show _ ↔ Leds lo hi [] (inS z) i; unfold Leds; exact Iff.rfl⟩
section
variable {P : Program} {w : World} {K : PySem.W.Frag} {mg : Str → Option Value} {base : Heap} {CWt WP WK WR WE WL : Addr}
/-- the way of a plan of a depth -/
def sp_way (CWt WP WK WR WE WL : Addr) (n : Nat) : Sp := fun vs H Q _ => ∃ (Wt : Addr) (lo hi : Nat) (v : V) (p : Pl) (l z : Nat), vs = [.ref Wt, v, nV z] ∧ IsWt H CWt Wt lo hi ∧ lo ≤ hi ∧ hi ≤ 1000 ∧ PlA H v p ∧ okP n l p ∧ Below (hi + 2) z ∧
  ∀ H' u g, Same H H' → WayA ⟨WP, WK, WR, WE, WL, Wt, lo, hi⟩ (fun a => H a ≠ none) H' u p z g → Q u H'
abbrev s_RowWay_init : Stmt := (C8.clsBody (top 29)).getD 0 (.Pass ⟨0, 0, 0, 0⟩)
theorem sc_RowWay_init : FnScope ["self", "watcher", "plan", "goal", "part", "way"] ["self", "watcher", "plan", "goal"] (C8.fnScope s_RowWay_init) := C8.fnScope_by (by decide +kernel)
def sp_rinit (CWt WP WK WR WE WL : Addr) (n : Nat) : Sp := fun vs H Q _ => ∃ (N : Addr → Prop) (R dx Wt PA UA : Addr) (us : List V) (ps : List Pl) (lo hi l z : Nat), vs = [.ref R, .ref Wt, .ref PA, nV z] ∧ H R = some (.ins WR dx []) ∧ IsWt H CWt Wt lo hi ∧ lo ≤ hi ∧ hi ≤ 1000 ∧ Below (hi + 2) z ∧
  H PA = some (.tup [.str "row", .ref UA]) ∧ H UA = some (.tup us) ∧ PlAs H us ps ∧ okPs n l ps ∧ ps.length ≤ 20 ∧ (∀ a, N a → H a ≠ none) ∧ ¬ N R ∧ ∀ H' g, Frm R H H' → WayA ⟨WP, WK, WR, WE, WL, Wt, lo, hi⟩ N H' (.ref R) (.row ps) z g → Q .non H'
theorem ok_rinit {n : Nat} (T2 : TxtY K WP WK WR WE WL) (T : TxtJ K mg) {f : Addr} {fd : FuncData} (M : Mk K WR f) (hm : mg "RowWay" = some (.ref WR)) (F : C8.Fun K "__init__" "RowWay.__init__" s_RowWay_init f fd) (b : Binds K fd ["self", "watcher", "plan", "goal"] []) (g_way_to : C8.Cal P w K mg base (5 + 3 * n) "way_to" (sp_way CWt WP WK WR WE WL n) []) : C8.Mak P w K mg base (6 + 3 * n) "RowWay" WR (sp_rinit CWt WP WK WR WE WL n) [] := by
  have lv : 6 + 3 * n = (5 + 3 * n) + 1 := by omega
  rw [lv]
  refine C8.mak0 M hm F b .nil sc_RowWay_init (fun vs H Q E h => ?_) fun cdv A outer s H vs Q E hr h => ?_
  · obtain ⟨N, R, dx, Wt, PA, UA, us, ps, lo, hi, l, z, rfl, _⟩ := h; rfl
  · obtain ⟨N, R, dx, Wt, PA, UA, us, ps, lo, hi, l, z, rfl, hR, ⟨dw, hW⟩, l1, l2, hb, hP, hU, pa, ok, pl, nH, nR, q⟩ := h
    have nd := sc_RowWay_init.nd
    have nRW : Wt ≠ R := ne_of hW hR (fun z => nomatch z)
    have nRP : PA ≠ R := ne_of hP hR (fun z => nomatch z)
    have nRU : UA ≠ R := ne_of hU hR (fun z => nomatch z)
    refine ⟨_, (pss_cons (ps_fld (pv 0) (pe_lst pa_nil) rfl)
      (pss_cons (ps_for PassesOwn.never rfl (pi_revA (by rfl) T.n_reversed (pe_ix (r := rIxT K) ix_tup (pv 2) pe_int (fun _ _ => rfl))) (pg_name (i := 4) nd rfl (Or.inl rfl)) (pss_cons (ps_set (i := 5) nd rfl (Or.inl rfl) (C8.pe_c g_way_to hr (by first | decide | exact Nat.le_refl _ | omega) (by rfl) (pa_cons (pv 1) (pa_cons (pv 4) (pa_cons (pv 3) pa_nil)))))
      (pss_cons (ps_expr (pe_bmK (K := K) rfl PySem.F.plainAttrs_list PySem.F.slot_list_append PySem.F.type_list_append mt_append (pe_fld (pv 0) rfl) (pa_cons (pv 5) pa_nil)))
      (pss_one (ps_set (i := 3) nd rfl (Or.inl rfl) (pe_fld (pv 5) rfl))))))
      (pss_one (ps_fld (pv 0) (pv 3) rfl)))), ?_⟩
    walk_at "go"
    refine g_sfld ?_
    walk_at "go"
    intro L hL
    have sL := same_new (o := .lst []) hL
    have eL := upd_same (H := H) (a := L) (o := .lst [])
    have nLR : L ≠ R := fun z => by rw [z, hR] at hL; cases hL
    generalize upd H L (.lst []) = H1 at sL eL
    walk_at "go"
    refine ⟨R, WR, dx, _, rfl, sL _ _ hR, T2.cR, T2.rY, by decide, ?_⟩
    have f2 : Frm R H (upd H1 R (HO.ins WR dx (putF ("ways" : Str) (V.ref L) []))) := (Frm.of sL).trans .set
    have e2 := upd_same (H := H1) (a := R) (o := HO.ins WR dx (putF ("ways" : Str) (V.ref L) []))
    have g2 : upd H1 R (HO.ins WR dx (putF ("ways" : Str) (V.ref L) [])) L = some (.lst []) := by rw [upd_ne nLR]; exact eL
    generalize upd H1 R (HO.ins WR dx (putF ("ways" : Str) (V.ref L) [])) = H2 at f2 e2 g2
    have pul := pa.len
    walk_at "go"
    refine g_rev ?_
    walk_at "go"
    refine g_ixT (SqT.of (f2 _ _ nRP hP)) rfl ?_
    refine w_revT (xs := us) (fun i σ H' => ∃ (vs : List V) (g : Nat) (v4 v5 : Option V), σ = [some (.ref R), some (.ref Wt), some (.ref PA), some (nV g), v4, v5] ∧ Frm R H H' ∧ H' R = some (.ins WR dx [("ways", .ref L)]) ∧ H' L = some (.lst vs) ∧ vs.length = i ∧
      WaysR ⟨WP, WK, WR, WE, WL, Wt, lo, hi⟩ (fun a => N a ∨ a = L ∨ a = R) H' vs (ps.drop (ps.length - i)) z g ∧ Bits hi (Leds lo hi (ps.drop (ps.length - i))) z g) ?_ ?_ ?_ ?_
    · exact ⟨[], z, _, _, rfl, f2, e2, g2, rfl, by rw [Nat.sub_zero, List.drop_length]; exact .nil, by rw [Nat.sub_zero, List.drop_length]; exact bits_nil hb⟩
    · rintro i σ H' ⟨vs, g, v4, v5, rfl, f3, _⟩
      exact SqT.of (f3 _ _ nRU hU)
    · rintro i x σ H3 hi' hx ⟨vs, g, v4, v5, rfl, f3, e3, g3, vl, wr, bt⟩
      obtain ⟨p, hp, pA⟩ := PlAs.at pa hx
      have hpl : ps.length - i = (ps.length - (i + 1)) + 1 := by omega
      have hix : us.length - 1 - i = ps.length - (i + 1) := by omega
      rw [hix] at hp
      have dp : ps.drop (ps.length - (i + 1)) = p :: ps.drop (ps.length - i) := by rw [hpl]; exact drop_at hp
      walk_at "go"
      refine ⟨Wt, lo, hi, x, p, l, g, rfl, ⟨dw, f3 _ _ nRW hW⟩, l1, l2, PlA_keep (fun b xs h => f3 _ _ (ne_of h hR (fun z => nomatch z)) h) _ _ pA, okPs_at ok hp, bt.low, fun H4 u g4 s4 wa => ?_⟩
      have e4 := s4 _ _ e3
      have g4' := s4 _ _ g3
      have sub : ∀ a, (N a ∨ a = L ∨ a = R) → H3 a ≠ none := fun a ha => by
        rcases ha with ha | rfl | rfl
        · by_cases c : a = R
          · exact absurd (c ▸ ha) nR
          · cases hq : H a with
            | none => exact absurd hq (nH a ha)
            | some o => rw [f3 _ _ c hq]; exact fun z => nomatch z
        · rw [g3]; exact fun z => nomatch z
        · rw [e3]; exact fun z => nomatch z
      have wa2 := WayA.mono sub wa
      have wr4 := WaysR.snoc (WaysR.same s4 wr) wa2
      walk_at "go"
      refine g_fldV rfl e4 T2.cR T2.rY rfl ?_
      walk_at "go"
      refine g_tyL g4' ?_
      walk_at "go"
      refine g_append g4' (by omega) ?_
      have wr5 := WaysR.keep (keepN (o := .lst (vs ++ [u])) (.inr (.inl rfl))) wr4
      obtain ⟨R', C', dx', fs', rfl, hR', _, cls', na', lk', _⟩ := WayA.at_ (K := K) (Y := ⟨WP, WK, WR, WE, WL, Wt, lo, hi⟩) T2 (WayA.keep (keepN (o := .lst (vs ++ [u])) (.inr (.inl rfl))) wa2)
      have e5 : upd H4 L (.lst (vs ++ [.ref R'])) R = some (.ins WR dx [("ways", .ref L)]) := by rw [upd_ne nLR.symm]; exact e4
      have g5 := upd_same (H := H4) (a := L) (o := .lst (vs ++ [.ref R']))
      have f5 : Frm R H (upd H4 L (.lst (vs ++ [.ref R']))) := fun b o n h => by
        rw [upd_ne (ne_of_none h hL)]; exact s4 _ _ (f3 b o n h)
      generalize upd H4 L (.lst (vs ++ [.ref R'])) = H5 at wr5 hR' e5 g5 f5 ⊢
      walk_at "go"
      refine g_fldV rfl hR' cls' na' lk' ?_
      walk_at "go"
      refine ⟨_, g4, _, _, rfl, f5, e5, g5, by rw [List.length_append, vl]; rfl, by rw [dp]; exact wr5, by rw [dp]; exact bits_cons bt wa.bits⟩
    · rintro σ H3 ⟨vs, g, v4, v5, rfl, f3, e3, g3, vl, wr, bt⟩
      rw [pul, Nat.sub_self, List.drop_zero] at wr bt
      walk_at "go"
      refine g_sfld ?_
      walk_at "go"
      refine ⟨R, WR, dx, _, rfl, e3, T2.cR, T2.rG, by show 1 < 1000; decide, ?_⟩
      have hLn : ¬ N L := fun z => nH L z hL
      refine q _ g (f3.trans .set) (.row upd_same nR (by rw [upd_ne nLR]; exact g3) hLn ?_ ?_)
      · exact WaysR.mono (fun a ha => .inl ha) (WaysR.keep (keepN (.inr (.inr rfl))) wr)
      · exact ⟨bt.low, fun i hi' => (bt.bit i hi').trans (by unfold Led; exact Iff.rfl)⟩
end
end K05
namespace K05
open PySem PySem.Spec PyProof.Rows L2 Wd RT
local macro_rules | `(tactic| walk_at "gs") => `(tactic| repeat (first
  | with_reducible refine Wd.g_seq ?_
  | ((with_reducible show L2.Ends.nx _ _ _); (with_reducible refine Wd.g_nx ?_))
  | with_reducible refine Wd.g_asg ?_
  | ((with_reducible refine' Wd.g_var ?h1 ?_); (case h1 => exact rfl))
  | with_reducible refine Wd.g_c ?_
  | with_reducible refine Wd.g_op ?_
  | with_reducible refine Wd.g_un ?_
  | with_reducible refine Wd.g_I0 ?_
  | with_reducible refine Wd.g_U ?_
  | with_reducible refine Wd.g_eqI ?_
  | with_reducible refine Wd.g_neI ?_
  | with_reducible refine Wd.g_eqS ?_
  | with_reducible refine Wd.g_neS ?_
  | with_reducible refine Wd.g_eqB ?_
  | with_reducible refine Wd.g_neB ?_
  | with_reducible refine Wd.g_isN ?_
  | with_reducible refine Wd.g_notN ?_
  | with_reducible refine Wd.g_lc ?_
  | with_reducible refine Wd.g_yes ?_
  | with_reducible refine Wd.g_test ?_
  | with_reducible refine Wd.g_tB ?_
  | with_reducible refine Wd.g_bl ?_
  | with_reducible refine Wd.g_blI ?_
  | with_reducible refine Wd.g_and ?_
  | with_reducible refine Wd.g_or ?_
  | with_reducible refine Wd.g_not ?_
  | with_reducible refine Wd.g_andV ?_
  | with_reducible refine Wd.g_orV ?_
  | with_reducible refine Wd.g_notV ?_
  | with_reducible refine Wd.g_if ?_
  | with_reducible refine Wd.g_chain ?_
  | with_reducible refine Wd.g_chain3 ?_
  | with_reducible refine Wd.g_nil ?_
  | with_reducible refine Wd.g_cons ?_
  | with_reducible refine Wd.g_tup ?_
  | with_reducible refine Wd.g_lst ?_
  | with_reducible refine Wd.g_CB ?_
  | with_reducible refine Wd.g_call ?_
  | with_reducible refine Wd.g_callS ?_
  | with_reducible refine Wd.g_bm ?_
  | with_reducible refine Wd.g_bm0 ?_
  | with_reducible refine Wd.g_sl ?_
  | with_reducible refine Wd.g_part ?_
  | with_reducible refine Wd.g_part1 ?_
  | with_reducible refine Wd.g_noPart ?_
  | with_reducible refine Wd.g_next ?_
  | with_reducible refine Wd.g_name ?_
  | with_reducible refine Wd.g_sub ?_
  | with_reducible refine Wd.g_gnil ?_
  | with_reducible refine Wd.g_gcons ?_
  | with_reducible refine Wd.g_drop ?_
  | with_reducible refine Wd.g_ret ?_
  | with_reducible refine Wd.g_retN ?_
  | with_reducible refine Wd.g_brk ?_
  | with_reducible refine Wd.g_cont ?_
  | ((with_reducible show L2.Ends.bk _ _ _); (with_reducible refine Wd.g_bk ?_))
  | ((with_reducible show L2.Ends.ct _ _ _); (with_reducible refine Wd.g_ct ?_))
  | ((with_reducible show L2.Ends.rt _ _ _); (with_reducible refine Wd.g_rt ?_))
  | with_reducible refine Wd.g_for ?_
  | with_reducible refine Wd.g_rng1 ?_
  | with_reducible refine Wd.g_rng2 ?_
  | with_reducible refine Wd.g_iList ?_
  | with_reducible refine Wd.g_iTup ?_
  | ((with_reducible refine Wd.g_fit ?h1 ?_); (case h1 => exact rfl))
  | with_reducible refine Wd.g_max2 ?_
  | with_reducible refine Wd.g_min2 ?_
  | with_reducible refine Wd.g_int1B ?_
  | with_reducible refine L2.iteT ?_
  | with_reducible refine L2.iteF ?_
  | ((with_reducible refine Wd.g_itT ?h1 ?_); (case h1 => exact rfl))
  | ((with_reducible refine Wd.g_itF ?h1 ?_); (case h1 => exact rfl))))
theorem LedE_snoc {lo hi : Nat} {G : Nat → Prop} {g : Nat} {p : Pl} : ∀ ps : List Pl, LedE lo hi (ps ++ [p]) G g ↔ LedE lo hi ps G g ∨ Led lo hi p G g
  | [] => by rw [List.nil_append]; unfold LedE LedE; exact ⟨fun h => .inr (h.elim id fun x => x.elim), fun h => h.elim (fun x => x.elim) .inl⟩
  | q :: ps => by
    rw [List.cons_append]
    show LedE lo hi (q :: (ps ++ [p])) G g ↔ LedE lo hi (q :: ps) G g ∨ _
    unfold LedE
    rw [LedE_snoc ps]
    exact or_assoc.symm
theorem WaysE.at {Y : Wy} {N : Addr → Prop} {H : Hp} : ∀ {vs : List V} {ps : List Pl} {z i : Nat} {v : V}, WaysE Y N H vs ps z → vs[i]? = some v → ∃ p g, ps[i]? = some p ∧ WayA Y N H v p z g
  | _, _, _, _, _, .nil, h => nomatch h
  | _, _, _, 0, _, .cons (g := g) a b, h => by cases h; exact ⟨_, g, rfl, a⟩
  | _, _, _, i + 1, _, .cons a b, h => WaysE.at (i := i) b h
theorem WaysE.len {Y : Wy} {N : Addr → Prop} {H : Hp} : ∀ {vs : List V} {ps : List Pl} {z : Nat}, WaysE Y N H vs ps z → vs.length = ps.length
  | _, _, _, .nil => rfl
  | _, _, _, .cons a b => congrArg (· + 1) (WaysE.len b)
theorem bits_or {hi z g g2 : Nat} {F F2 : (Nat → Prop) → Nat → Prop} (h1 : Bits hi F z g) (h2 : Bits hi F2 z g2) : Bits hi (fun G i => F G i ∨ F2 G i) z (g ||| g2) :=
  ⟨fun i h => by
    rw [tb_or, Bool.or_eq_true] at h
    exact h.elim (h1.low i) (h2.low i), fun i hi' => by
    rw [tb_or, Bool.or_eq_true]
    exact or_congr (h1.bit i hi') (h2.bit i hi')⟩
theorem bits_false {hi z : Nat} {F : (Nat → Prop) → Nat → Prop} (h : ∀ G i, ¬ F G i) : Bits hi F z 0 :=
  ⟨(fun i h => by rw [Nat.zero_testBit] at h; exact absurd h Bool.false_ne_true), fun i _ => by rw [Nat.zero_testBit]; exact ⟨(fun x => nomatch x), fun x => absurd x (h _ _)⟩⟩
theorem bits_iff {hi z g : Nat} {F F2 : (Nat → Prop) → Nat → Prop} (h1 : Bits hi F z g) (h : ∀ i, i ≤ hi + 1 → (F (inS z) i ↔ F2 (inS z) i)) : Bits hi F2 z g :=
  ⟨h1.low, fun i hi' => (h1.bit i hi').trans (h i hi')⟩
section
variable {P : Program} {w : World} {K : PySem.W.Frag} {mg : Str → Option Value} {base : Heap} {CWt WP WK WR WE WL : Addr}
abbrev s_EitherWay_init : Stmt := (C8.clsBody (top 30)).getD 0 (.Pass ⟨0, 0, 0, 0⟩)
abbrev s_EitherWay___init__ : Stmt := s_EitherWay_init
theorem sc_EitherWay_init : FnScope ["self", "watcher", "plan", "goal", "part", "way"] ["self", "watcher", "plan", "goal"] (C8.fnScope s_EitherWay_init) := C8.fnScope_by (by decide +kernel)
def sp_einit (CWt WP WK WR WE WL : Addr) (n : Nat) : Sp := fun vs H Q _ => ∃ (N : Addr → Prop) (R dx Wt PA UA : Addr) (us : List V) (ps : List Pl) (lo hi l z : Nat), vs = [.ref R, .ref Wt, .ref PA, nV z] ∧ H R = some (.ins WE dx []) ∧ IsWt H CWt Wt lo hi ∧ lo ≤ hi ∧ hi ≤ 1000 ∧ Below (hi + 2) z ∧
  H PA = some (.tup [.str "either", .ref UA]) ∧ H UA = some (.tup us) ∧ PlAs H us ps ∧ okPs n l ps ∧ ps.length ≤ 20 ∧ (∀ a, N a → H a ≠ none) ∧ ¬ N R ∧ ∀ H' g, Frm R H H' → WayA ⟨WP, WK, WR, WE, WL, Wt, lo, hi⟩ N H' (.ref R) (.either ps) z g → Q .non H'
theorem ok_einit {n : Nat} (T2 : TxtY K WP WK WR WE WL) (T : TxtJ K mg) {f : Addr} {fd : FuncData} (M : Mk K WE f) (hm : mg "EitherWay" = some (.ref WE)) (F : C8.Fun K "__init__" "EitherWay.__init__" s_EitherWay_init f fd) (b : Binds K fd ["self", "watcher", "plan", "goal"] []) (g_way_to : C8.Cal P w K mg base (5 + 3 * n) "way_to" (sp_way CWt WP WK WR WE WL n) []) : C8.Mak P w K mg base (6 + 3 * n) "EitherWay" WE (sp_einit CWt WP WK WR WE WL n) [] := by
  have lv : 6 + 3 * n = (5 + 3 * n) + 1 := by omega
  rw [lv]
  refine C8.mak0 M hm F b .nil sc_EitherWay_init (fun vs H Q E h => ?_) fun cdv A outer s H vs Q E hr h => ?_
  · obtain ⟨N, R, dx, Wt, PA, UA, us, ps, lo, hi, l, z, rfl, _⟩ := h; rfl
  · obtain ⟨N, R, dx, Wt, PA, UA, us, ps, lo, hi, l, z, rfl, hR, ⟨dw, hW⟩, l1, l2, hb, hP, hU, pa, ok, pl, nH, nR, q⟩ := h
    have nd := sc_EitherWay_init.nd
    have nRW : Wt ≠ R := ne_of hW hR (fun z => nomatch z)
    have nRP : PA ≠ R := ne_of hP hR (fun z => nomatch z)
    have nRU : UA ≠ R := ne_of hU hR (fun z => nomatch z)
    have pul := pa.len
    refine ⟨_, (pss_cons (ps_fld (pv 0) (pe_lc (own := [("part", 4)]) (g := gName 4) (tt := tYes) rfl nd (pi_tup (pe_ix (r := rIxT K) ix_tup (pv 2) pe_int (fun _ _ => rfl))) (blkOk_by (N := ["self", "watcher", "plan", "goal", "part", "way"]) (sc := C8.fnScope s_EitherWay___init__) (by decide +kernel)) (fun _ _ _ _ _ => pg_name (i := 4) nd rfl (Or.inl rfl)) (fun _ _ _ _ _ => pts_nil) (fun _ _ _ _ _ => (C8.pe_c g_way_to hr (by first | decide | exact Nat.le_refl _ | omega) (by rfl) (pa_cons (pv 1) (pa_cons (pv 4) (pa_cons (pv 3) pa_nil)))))) rfl)
      (pss_cons (ps_fld (pv 0) pe_int rfl)
      (pss_one (ps_for PassesOwn.never rfl (pi_list (pe_fld (pv 0) rfl)) (pg_name (i := 5) nd rfl (Or.inl rfl)) (pss_one (ps_fld (pv 0) (pe_op (r := rOrB) op_orB (pe_fld (pv 0) rfl) (pe_fld (pv 5) rfl)) rfl)))))), ?_⟩
    walk_at "go"
    refine g_sfld ?_
    walk_at "go"
    refine g_ixT (SqT.of hP) rfl ?_
    refine w_lcTup (xs := us) (SqT.of hU) (fun D i H' => Same H H' ∧ ∃ vs, H' D = some (.lst vs) ∧ WaysE ⟨WP, WK, WR, WE, WL, Wt, lo, hi⟩ (fun a => N a ∨ a = D ∨ a = R) H' vs (ps.take i) z) ?_ ?_ ?_ ?_
    · intro D hD
      exact ⟨same_new hD, [], upd_same, .nil⟩
    · rintro D i H' hD _ ⟨s2, _⟩
      exact SqT.of (s2 _ _ hU)
    · rintro D i v H' hD hv ⟨s2, vs, eD, wr⟩
      obtain ⟨p, hp, pA⟩ := pa.at hv
      have hi' : i < ps.length := (List.getElem?_eq_some_iff.mp hp).1
      walk_at "go"
      refine ⟨rfl, ?_⟩
      walk_at "go"
      refine ⟨Wt, lo, hi, v, p, l, z, rfl, ⟨dw, s2 _ _ hW⟩, l1, l2, PlA_keep (keepT_same s2) _ _ pA, okPs_at ok hp, hb, fun H4 u g4 s4 wa => ?_⟩
      have sub : ∀ a, (N a ∨ a = D ∨ a = R) → H' a ≠ none := fun a ha => by
        rcases ha with ha | rfl | rfl
        · cases hq : H a with
          | none => exact absurd hq (nH a ha)
          | some o => rw [s2 _ _ hq]; exact fun z => nomatch z
        · rw [eD]; exact fun z => nomatch z
        · rw [s2 _ _ hR]; exact fun z => nomatch z
      have w4 := WaysE.snoc (WaysE.same s4 wr) (WayA.mono sub wa)
      have ll := wr.len
      rw [List.length_take] at ll
      refine ⟨vs, s4 _ _ eD, small_lt (by omega), Same.mut (s2.trans s4) hD, vs ++ [u], upd_same, ?_⟩
      rw [take_snoc hp]
      exact WaysE.keep (keepN (.inr (.inl rfl))) w4
    · rintro D H1 hD ⟨s1, vs, eD, wr⟩
      rw [pul, List.take_length] at wr
      have nDR : D ≠ R := fun z => by rw [z, hR] at hD; cases hD
      have nD : ¬ N D := fun z => nH D z hD
      walk_at "go"
      refine ⟨R, WE, dx, _, rfl, s1 _ _ hR, T2.cE, T2.eY, by decide, ?_⟩
      have f2 : Frm R H (upd H1 R (HO.ins WE dx (putF ("ways" : Str) (V.ref D) []))) := (Frm.of s1).trans .set
      have e2 := upd_same (H := H1) (a := R) (o := HO.ins WE dx (putF ("ways" : Str) (V.ref D) []))
      have g2 : upd H1 R (HO.ins WE dx (putF ("ways" : Str) (V.ref D) [])) D = some (.lst vs) := by rw [upd_ne nDR]; exact eD
      have w2 := WaysE.keep (keepN (o := HO.ins WE dx (putF ("ways" : Str) (V.ref D) [])) (.inr (.inr rfl))) wr
      generalize upd H1 R (HO.ins WE dx (putF ("ways" : Str) (V.ref D) [])) = H2 at f2 e2 g2 w2
      walk_at "go"
      refine g_sfld ?_
      walk_at "go"
      refine ⟨R, WE, dx, _, rfl, e2, T2.cE, T2.eG, by show 1 < 1000; decide, ?_⟩
      have f3 : Frm R H (upd H2 R (HO.ins WE dx (putF ("gaps" : Str) (nV 0) (putF ("ways" : Str) (V.ref D) [])))) := f2.trans .set
      have e3 := upd_same (H := H2) (a := R) (o := HO.ins WE dx (putF ("gaps" : Str) (nV 0) (putF ("ways" : Str) (V.ref D) [])))
      have g3 : upd H2 R (HO.ins WE dx (putF ("gaps" : Str) (nV 0) (putF ("ways" : Str) (V.ref D) []))) D = some (.lst vs) := by rw [upd_ne nDR]; exact g2
      have w3 := WaysE.keep (keepN (o := HO.ins WE dx (putF ("gaps" : Str) (nV 0) (putF ("ways" : Str) (V.ref D) []))) (.inr (.inr rfl))) w2
      walk_at "go"
      refine g_fldV rfl e3 T2.cE T2.eY rfl ?_
      generalize upd H2 R (HO.ins WE dx (putF ("gaps" : Str) (nV 0) (putF ("ways" : Str) (V.ref D) []))) = H3 at f3 e3 g3 w3
      have vl := w3.len
      refine w_list (xs := vs) (fun i σ H' => ∃ (g : Nat) (v4 v5 : Option V), σ = [some (.ref R), some (.ref Wt), some (.ref PA), some (nV z), v4, v5] ∧ Frm R H H' ∧ H' R = some (.ins WE dx [("ways", .ref D), ("gaps", nV g)]) ∧ H' D = some (.lst vs) ∧
        WaysE ⟨WP, WK, WR, WE, WL, Wt, lo, hi⟩ (fun a => N a ∨ a = D ∨ a = R) H' vs ps z ∧ Bits hi (LedE lo hi (ps.take i)) z g) ?_ ?_ ?_ ?_
      · exact ⟨0, _, _, rfl, f3, e3, g3, w3, bits_false fun G i x => by rw [List.take_zero] at x; unfold LedE at x; exact x⟩
      · rintro i σ H' _ ⟨g, v4, v5, rfl, f4, e4, g4, w4, bt⟩
        exact SqL.of g4
      · rintro i x σ H' hx ⟨g, v4, v5, rfl, f4, e4, g4, w4, bt⟩
        obtain ⟨p, gp, hp, wa⟩ := w4.at hx
        obtain ⟨R', C', dx', fs', rfl, hR', _, cls', na', lk', _⟩ := WayA.at_ (K := K) T2 wa
        walk_at "go"
        refine g_sfld ?_
        walk_at "go"
        refine g_fldV rfl e4 T2.cE T2.eG rfl ?_
        walk_at "go"
        refine g_fldV rfl hR' cls' na' lk' ?_
        refine ⟨g, gp, rfl, rfl, ?_⟩
        walk_at "go"
        refine ⟨R, WE, dx, _, rfl, e4, T2.cE, T2.eG, by show 2 < 1000; decide, ?_⟩
        refine ⟨g ||| gp, _, _, rfl, f4.trans .set, upd_same, by rw [upd_ne nDR]; exact g4, WaysE.keep (keepN (.inr (.inr rfl))) w4, ?_⟩
        refine bits_iff (bits_or bt wa.bits) fun j _ => ?_
        rw [take_snoc hp]
        exact (LedE_snoc _).symm
      · rintro σ H' ⟨g, v4, v5, rfl, f4, e4, g4, w4, bt⟩
        rw [vl, List.take_length] at bt
        walk_at "go"
        refine q _ g f4 (.either e4 nR g4 nD (WaysE.mono (fun a ha => .inl ha) w4) ?_)
        exact bits_iff bt fun j _ => by unfold Led; exact Iff.rfl
end
end K05
namespace K05
open PySem PySem.Spec PyProof.Rows L2 Wd RT
local macro_rules | `(tactic| walk_at "gs") => `(tactic| repeat (first
  | with_reducible refine Wd.g_seq ?_
  | ((with_reducible show L2.Ends.nx _ _ _); (with_reducible refine Wd.g_nx ?_))
  | with_reducible refine Wd.g_asg ?_
  | ((with_reducible refine' Wd.g_var ?h1 ?_); (case h1 => exact rfl))
  | with_reducible refine Wd.g_c ?_
  | with_reducible refine Wd.g_op ?_
  | with_reducible refine Wd.g_un ?_
  | with_reducible refine Wd.g_I0 ?_
  | with_reducible refine Wd.g_U ?_
  | with_reducible refine Wd.g_eqI ?_
  | with_reducible refine Wd.g_neI ?_
  | with_reducible refine Wd.g_eqS ?_
  | with_reducible refine Wd.g_neS ?_
  | with_reducible refine Wd.g_eqB ?_
  | with_reducible refine Wd.g_neB ?_
  | with_reducible refine Wd.g_isN ?_
  | with_reducible refine Wd.g_notN ?_
  | with_reducible refine Wd.g_lc ?_
  | with_reducible refine Wd.g_yes ?_
  | with_reducible refine Wd.g_test ?_
  | with_reducible refine Wd.g_tB ?_
  | with_reducible refine Wd.g_bl ?_
  | with_reducible refine Wd.g_blI ?_
  | with_reducible refine Wd.g_and ?_
  | with_reducible refine Wd.g_or ?_
  | with_reducible refine Wd.g_not ?_
  | with_reducible refine Wd.g_andV ?_
  | with_reducible refine Wd.g_orV ?_
  | with_reducible refine Wd.g_notV ?_
  | with_reducible refine Wd.g_if ?_
  | with_reducible refine Wd.g_chain ?_
  | with_reducible refine Wd.g_chain3 ?_
  | with_reducible refine Wd.g_nil ?_
  | with_reducible refine Wd.g_cons ?_
  | with_reducible refine Wd.g_tup ?_
  | with_reducible refine Wd.g_lst ?_
  | with_reducible refine Wd.g_CB ?_
  | with_reducible refine Wd.g_call ?_
  | with_reducible refine Wd.g_callS ?_
  | with_reducible refine Wd.g_bm ?_
  | with_reducible refine Wd.g_bm0 ?_
  | with_reducible refine Wd.g_sl ?_
  | with_reducible refine Wd.g_part ?_
  | with_reducible refine Wd.g_part1 ?_
  | with_reducible refine Wd.g_noPart ?_
  | with_reducible refine Wd.g_next ?_
  | with_reducible refine Wd.g_name ?_
  | with_reducible refine Wd.g_sub ?_
  | with_reducible refine Wd.g_gnil ?_
  | with_reducible refine Wd.g_gcons ?_
  | with_reducible refine Wd.g_drop ?_
  | with_reducible refine Wd.g_ret ?_
  | with_reducible refine Wd.g_retN ?_
  | with_reducible refine Wd.g_brk ?_
  | with_reducible refine Wd.g_cont ?_
  | ((with_reducible show L2.Ends.bk _ _ _); (with_reducible refine Wd.g_bk ?_))
  | ((with_reducible show L2.Ends.ct _ _ _); (with_reducible refine Wd.g_ct ?_))
  | ((with_reducible show L2.Ends.rt _ _ _); (with_reducible refine Wd.g_rt ?_))
  | with_reducible refine Wd.g_for ?_
  | with_reducible refine Wd.g_rng1 ?_
  | with_reducible refine Wd.g_rng2 ?_
  | with_reducible refine Wd.g_iList ?_
  | with_reducible refine Wd.g_iTup ?_
  | ((with_reducible refine Wd.g_fit ?h1 ?_); (case h1 => exact rfl))
  | with_reducible refine Wd.g_max2 ?_
  | with_reducible refine Wd.g_min2 ?_
  | with_reducible refine Wd.g_int1B ?_
  | with_reducible refine L2.iteT ?_
  | with_reducible refine L2.iteF ?_
  | ((with_reducible refine Wd.g_itT ?h1 ?_); (case h1 => exact rfl))
  | ((with_reducible refine Wd.g_itF ?h1 ?_); (case h1 => exact rfl))))
theorem atI_back {xs : List V} {v : V} (h : xs[xs.length - 1]? = some v) : atI xs (-1) = some v := by
  have hp : 0 < xs.length := by
    rcases Nat.eq_zero_or_pos xs.length with e | e
    · have : xs = [] := List.length_eq_zero_iff.mp e
      subst this; cases h
    · exact e
  obtain ⟨ys, y, rfl⟩ : ∃ ys y, xs = ys ++ [y] := ⟨xs.dropLast, xs.getLast (List.length_pos_iff.mp hp), (List.dropLast_concat_getLast _).symm⟩
  rw [List.length_append, List.length_singleton, Nat.add_sub_cancel, List.getElem?_append_right (Nat.le_refl _), Nat.sub_self] at h
  cases h
  exact atI_last _ _

theorem cut_from {α : Type} (l : List α) (f : α → V) {a : Nat} (ha : a ≤ l.length) : cutV (l.map f) (some (a : Int)) none = (l.drop a).map f := by
  unfold cutV
  rw [HT.sIx_nat, HT.sIx_none, List.length_map, Nat.min_eq_left ha, ← List.map_drop, List.take_of_length_le (by rw [List.length_map, List.length_drop]; exact Nat.le_refl _)]
theorem atN {zs : List Nat} {i g : Nat} {n : Int} (e : n = i) (h : zs[i]? = some g) : atI (zs.map nV) n = some (nV g) := by
  subst e
  exact at_of (j := i) (by omega) (by rw [List.getElem?_map, h]; rfl)
theorem WaysL.len {Y : Wy} {N : Addr → Prop} {H : Hp} : ∀ {ts : List V} {p : Pl} {z : Nat} {zs : List Nat}, WaysL Y N H ts p z zs → zs.length = ts.length + 1
  | _, _, _, _, .nil => rfl
  | _, _, _, _, .snoc a b => by rw [List.length_append, WaysL.len a, List.length_append]; rfl
theorem WaysL.last {Y : Wy} {N : Addr → Prop} {H : Hp} {ts : List V} {p : Pl} {z : Nat} {zs : List Nat} (h : WaysL Y N H ts p z zs) :
    (ts = [] ∧ zs = [z]) ∨ ∃ (ts' : List V) (v : V) (zs' : List Nat) (g g2 : Nat), ts = ts' ++ [v] ∧ zs = zs' ++ [g] ++ [g2] ∧ WaysL Y N H ts' p z (zs' ++ [g]) ∧ WayA Y N H v p g g2 := by
  cases h with
  | nil => exact .inl ⟨rfl, rfl⟩
  | snoc a b => exact .inr ⟨_, _, _, _, _, rfl, rfl, a, b⟩
theorem g_andE {c : Prop} [Decidable c] {t : TT} {σ : L2.St} {H : Hp} {A B : Hp → Prop} (hB : B H) (h : c → B H → t σ H fun b H1 => if b = true then A H1 else B H1) : if decide c = true then (t σ H fun b H1 => if b = true then A H1 else B H1) else B H := by
  by_cases x : c
  · rw [if_pos (decide_eq_true x)]; exact h x hB
  · rw [if_neg (by rw [decide_eq_false x]; exact Bool.false_ne_true)]; exact hB
/-- the goals of more turns -/
theorem WaysL.bits {Y : Wy} {N : Addr → Prop} {H : Hp} : ∀ {ts : List V} {p : Pl} {z : Nat} {zs : List Nat}, WaysL Y N H ts p z zs → Below (Y.hi + 2) z → ∀ {n g : Nat}, zs[n]? = some g → Bits Y.hi (iterP (Led Y.lo Y.hi p) n) z g
  | _, _, z, _, .nil, hb, n, g, e => by
    match n, e with
    | 0, e =>
      obtain rfl : z = g := Option.some.inj e
      exact ⟨hb, fun i _ => Iff.rfl⟩
  | _, p, z, _, .snoc (ts := ts) (zs := zs) (g := g1) (g2 := g2) a b, hb, n, g, e => by
    by_cases c : n < (zs ++ [g1]).length
    · rw [List.getElem?_append_left c] at e
      exact WaysL.bits a hb e
    · have c2 : n < (zs ++ [g1] ++ [g2]).length := (List.getElem?_eq_some_iff.mp e).1
      have en : n = (zs ++ [g1]).length := by rw [List.length_append (bs := [g2]), List.length_singleton] at c2; omega
      subst en
      rw [List.getElem?_concat_length] at e
      obtain rfl : g2 = g := Option.some.inj e
      have b1 := WaysL.bits a hb (n := zs.length) (g := g1) List.getElem?_concat_length
      rw [List.length_append, List.length_singleton]
      refine ⟨b.bits.low, fun i hi' => (b.bits.bit i hi').trans ?_⟩
      show Led Y.lo Y.hi p (inS g1) i ↔ Led Y.lo Y.hi p (iterP (Led Y.lo Y.hi p) zs.length (inS z)) i
      exact ⟨Led.congr p (fun j hj x => (b1.bit j hj).mp x) i hi', Led.congr p (fun j hj x => (b1.bit j hj).mpr x) i hi'⟩
section
variable {P : Program} {w : World} {K : PySem.W.Frag} {mg : Str → Option Value} {base : Heap} {CWt WP WK WR WE WL : Addr}
abbrev s_LoopWay_init : Stmt := (C8.clsBody (top 31)).getD 0 (.Pass ⟨0, 0, 0, 0⟩)
abbrev s_LoopWay___init__ : Stmt := s_LoopWay_init
theorem sc_LoopWay_init : FnScope ["self", "watcher", "plan", "goal", "turn", "way", "gaps"] ["self", "watcher", "plan", "goal"] (C8.fnScope s_LoopWay_init) := C8.fnScope_by (by decide +kernel)
def sp_linit (CWt WP WK WR WE WL : Addr) (n : Nat) : Sp := fun vs H Q _ => ∃ (N : Addr → Prop) (R dx Wt PA : Addr) (v : V) (p : Pl) (lo hi l z a b : Nat), vs = [.ref R, .ref Wt, .ref PA, nV z] ∧ H R = some (.ins WL dx []) ∧ IsWt H CWt Wt lo hi ∧ lo ≤ hi ∧ hi ≤ 1000 ∧ Below (hi + 2) z ∧
  H PA = some (.tup [.str "loop", nV a, nV b, v]) ∧ PlA H v p ∧ okP n l p ∧ a ≤ b ∧ b ≤ 9 ∧ (∀ a, N a → H a ≠ none) ∧ ¬ N R ∧ ∀ H' g, Frm R H H' → WayA ⟨WP, WK, WR, WE, WL, Wt, lo, hi⟩ N H' (.ref R) (.loop a b p) z g → Q .non H'
theorem ok_linit {n : Nat} (T2 : TxtY K WP WK WR WE WL) (T : TxtJ K mg) {f : Addr} {fd : FuncData} (M : Mk K WL f) (hm : mg "LoopWay" = some (.ref WL)) (F : C8.Fun K "__init__" "LoopWay.__init__" s_LoopWay_init f fd) (b : Binds K fd ["self", "watcher", "plan", "goal"] []) (g_way_to : C8.Cal P w K mg base (5 + 3 * n) "way_to" (sp_way CWt WP WK WR WE WL n) []) : C8.Mak P w K mg base (6 + 3 * n) "LoopWay" WL (sp_linit CWt WP WK WR WE WL n) [] := by
  have lv : 6 + 3 * n = (5 + 3 * n) + 1 := by omega
  rw [lv]
  refine C8.mak0 M hm F b .nil sc_LoopWay_init (fun vs H Q E h => ?_) fun cdv A outer s H vs Q E hr h => ?_
  · obtain ⟨N, R, dx, Wt, PA, v, p, lo, hi, l, z, a, b, rfl, _⟩ := h; rfl
  · obtain ⟨N, R, dx, Wt, PA, v, p, lo, hi, l, z, a, b, rfl, hR, ⟨dw, hW⟩, l1, l2, hb, hP, pA, ok, ab, b9, nH, nR, q⟩ := h
    have nd := sc_LoopWay_init.nd
    have nRW : Wt ≠ R := ne_of hW hR (fun z => nomatch z)
    have nRP : PA ≠ R := ne_of hP hR (fun z => nomatch z)
    refine ⟨_, (pss_cons (ps_fld (pv 0) (pe_ix (r := rIxT K) ix_tup (pv 2) pe_int (fun _ _ => rfl)) rfl)
      (pss_cons (ps_fld (pv 0) (pe_lst pa_nil) rfl)
      (pss_cons (ps_fld (pv 0) (pe_lst (pa_cons (pv 3) pa_nil)) rfl)
      (pss_cons (ps_for PassesOwn.never rfl (pi_range1 rfl T.n_range (pa_cons (pe_ix (r := rIxT K) ix_tup (pv 2) pe_int (fun _ _ => rfl)) pa_nil)) (pg_name (i := 4) nd rfl (Or.inl rfl)) (pss_cons (ps_if (PW.pt (pw_and (pt_cmpR op_gt (pv 4) pe_int (nomark _)) (pw_and1 (pt_cmpR op_eq (pe_ix (r := rIxL K) ix_list (pe_fld (pv 0) rfl) (pv 4) (fun _ _ => rfl)) (pe_ix (r := rIxL K) ix_list (pe_fld (pv 0) rfl) (pe_op op_sub (pv 4) pe_int) (fun _ _ => rfl)) (nomark _))))) (pss_one (ps_set (i := 5) nd rfl (Or.inl rfl) (pe_ix (r := rIxL K) ix_list (pe_fld (pv 0) rfl) (pe_un un_neg pe_int) (fun _ _ => rfl)))) (pss_one (ps_set (i := 5) nd rfl (Or.inl rfl) (C8.pe_c g_way_to hr (by first | decide | exact Nat.le_refl _ | omega) (by rfl) (pa_cons (pv 1) (pa_cons (pe_ix (r := rIxT K) ix_tup (pv 2) pe_int (fun _ _ => rfl)) (pa_cons (pe_ix (r := rIxL K) ix_list (pe_fld (pv 0) rfl) (pv 4) (fun _ _ => rfl)) pa_nil)))))))
      (pss_cons (ps_expr (pe_bmK (K := K) rfl PySem.F.plainAttrs_list PySem.F.slot_list_append PySem.F.type_list_append mt_append (pe_fld (pv 0) rfl) (pa_cons (pv 5) pa_nil)))
      (pss_one (ps_expr (pe_bmK (K := K) rfl PySem.F.plainAttrs_list PySem.F.slot_list_append PySem.F.type_list_append mt_append (pe_fld (pv 0) rfl) (pa_cons (pe_fld (pv 5) rfl) pa_nil)))))))
      (pss_cons (ps_fld (pv 0) pe_int rfl)
      (pss_one (ps_for PassesOwn.never rfl (pi_list (pe_slice (r := rSlL K) sl_list (pe_fld (pv 0) rfl) (po_some (pe_fld (pv 0) rfl)) po_none)) (pg_name (i := 6) nd rfl (Or.inl rfl)) (pss_one (ps_fld (pv 0) (pe_op (r := rOrB) op_orB (pe_fld (pv 0) rfl) (pv 6)) rfl))))))))), ?_⟩
    walk_at "gs"
    refine g_sfld ?_
    walk_at "gs"
    refine g_ixT (SqT.of hP) rfl ?_
    walk_at "gs"
    refine ⟨R, WL, dx, _, rfl, hR, T2.cL, T2.lL, by decide, ?_⟩
    have f1 : Frm R H (upd H R (HO.ins WL dx (putF ("least" : Str) (nV a) []))) := .set
    have e1 := upd_same (H := H) (a := R) (o := HO.ins WL dx (putF ("least" : Str) (nV a) []))
    generalize upd H R (HO.ins WL dx (putF ("least" : Str) (nV a) [])) = H1 at f1 e1
    walk_at "gs"
    refine g_sfld ?_
    walk_at "gs"
    intro TT hT
    have sT := same_new (o := .lst []) hT
    have eT := upd_same (H := H1) (a := TT) (o := .lst [])
    have nTR : TT ≠ R := fun z => by rw [z, e1] at hT; cases hT
    have nNT : ¬ N TT := fun z => by
      cases hq : H TT with
      | none => exact nH TT z hq
      | some o => rw [f1 _ _ nTR hq] at hT; cases hT
    have f2 := f1.trans (.of sT)
    have e2 := sT _ _ e1
    generalize upd H1 TT (.lst []) = H2 at sT eT f2 e2
    walk_at "gs"
    refine ⟨R, WL, dx, _, rfl, e2, T2.cL, T2.lT, by show 1 < 1000; decide, ?_⟩
    have f3 := f2.trans (.set (o := HO.ins WL dx (putF ("turns" : Str) (V.ref TT) (putF ("least" : Str) (nV a) []))))
    have e3 := upd_same (H := H2) (a := R) (o := HO.ins WL dx (putF ("turns" : Str) (V.ref TT) (putF ("least" : Str) (nV a) [])))
    have t3 : upd H2 R (HO.ins WL dx (putF ("turns" : Str) (V.ref TT) (putF ("least" : Str) (nV a) []))) TT = some (.lst []) := by rw [upd_ne nTR]; exact eT
    generalize upd H2 R (HO.ins WL dx (putF ("turns" : Str) (V.ref TT) (putF ("least" : Str) (nV a) []))) = H3 at f3 e3 t3
    walk_at "gs"
    refine g_sfld ?_
    walk_at "gs"
    intro O hO
    have sO := same_new (o := .lst [nV z]) hO
    have eO := upd_same (H := H3) (a := O) (o := .lst [nV z])
    have nOR : O ≠ R := fun z => by rw [z, e3] at hO; cases hO
    have nOT : O ≠ TT := fun z => by rw [z, t3] at hO; cases hO
    have nNO : ¬ N O := fun z => by
      cases hq : H O with
      | none => exact nH O z hq
      | some o => rw [f3 _ _ nOR hq] at hO; cases hO
    have f4 := f3.trans (.of sO)
    have e4 := sO _ _ e3
    have t4 := sO _ _ t3
    generalize upd H3 O (.lst [nV z]) = H4 at sO eO f4 e4 t4
    walk_at "gs"
    refine ⟨R, WL, dx, _, rfl, e4, T2.cL, T2.lO, by show 2 < 1000; decide, ?_⟩
    have f5 := f4.trans (.set (o := HO.ins WL dx (putF ("goals" : Str) (V.ref O) (putF ("turns" : Str) (V.ref TT) (putF ("least" : Str) (nV a) [])))))
    have e5 := upd_same (H := H4) (a := R) (o := HO.ins WL dx (putF ("goals" : Str) (V.ref O) (putF ("turns" : Str) (V.ref TT) (putF ("least" : Str) (nV a) []))))
    have t5 : upd H4 R (HO.ins WL dx (putF ("goals" : Str) (V.ref O) (putF ("turns" : Str) (V.ref TT) (putF ("least" : Str) (nV a) [])))) TT = some (.lst []) := by rw [upd_ne nTR]; exact t4
    have o5 : upd H4 R (HO.ins WL dx (putF ("goals" : Str) (V.ref O) (putF ("turns" : Str) (V.ref TT) (putF ("least" : Str) (nV a) [])))) O = some (.lst [nV z]) := by rw [upd_ne nOR]; exact eO
    generalize upd H4 R (HO.ins WL dx (putF ("goals" : Str) (V.ref O) (putF ("turns" : Str) (V.ref TT) (putF ("least" : Str) (nV a) [])))) = H5 at f5 e5 t5 o5
    walk_at "gs"
    refine g_ixT (SqT.of (f5 _ _ nRP hP)) rfl ?_
    walk_at "gs"
    refine w_range (by omega) (by omega) (fun i σ H' => ∃ (ts : List V) (zs : List Nat) (g : Nat) (v4 v5 v6 : Option V), σ = [some (.ref R), some (.ref Wt), some (.ref PA), some (nV z), v4, v5, v6] ∧ Frm R H H' ∧ H' R = some (.ins WL dx [("least", nV a), ("turns", .ref TT), ("goals", .ref O)]) ∧
      H' TT = some (.lst ts) ∧ H' O = some (.lst ((zs ++ [g]).map nV)) ∧ ts.length = i ∧ WaysL ⟨WP, WK, WR, WE, WL, Wt, lo, hi⟩ (fun a => N a ∨ a = TT ∨ a = O ∨ a = R) H' ts p z (zs ++ [g]) ∧ Below (hi + 2) g) ?_ ?_ ?_
    · exact ⟨[], [], z, _, _, _, rfl, f5, e5, t5, o5, rfl, .nil, hb⟩
    · rintro i σ H' hi' ⟨ts, zs, g, v4, v5, v6, rfl, f6, e6, t6, o6, tl, wl, bg⟩
      walk_at "gs"
      have zl := wl.len
      rw [List.length_append, List.length_singleton] at zl
      refine g_join (fun σ H7 => ∃ (u : V) (g2 : Nat) (v4 v6 : Option V), σ = [some (.ref R), some (.ref Wt), some (.ref PA), some (nV z), v4, some u, v6] ∧ Frm R H H7 ∧ H7 R = some (.ins WL dx [("least", nV a), ("turns", .ref TT), ("goals", .ref O)]) ∧
        H7 TT = some (.lst ts) ∧ H7 O = some (.lst ((zs ++ [g]).map nV)) ∧ WaysL ⟨WP, WK, WR, WE, WL, Wt, lo, hi⟩ (fun a => N a ∨ a = TT ∨ a = O ∨ a = R) H7 ts p z (zs ++ [g]) ∧ WayA ⟨WP, WK, WR, WE, WL, Wt, lo, hi⟩ (fun a => N a ∨ a = TT ∨ a = O ∨ a = R) H7 u p g g2) ?_ ?_
      case refine_2 =>
        intro N' hk
        walk_at "go"
        refine g_andE ?_ fun c0 hB => ?_
        · walk_at "go"
          refine g_ixT (SqT.of (f6 _ _ nRP hP)) rfl ?_
          walk_at "go"
          refine g_fldV rfl e6 T2.cL T2.lO rfl ?_
          walk_at "go"
          refine g_ixL (SqL.of o6) (atN (i := zs.length) (by omega) List.getElem?_concat_length) ?_
          walk_at "go"
          refine ⟨Wt, lo, hi, v, p, l, g, rfl, ⟨dw, f6 _ _ nRW hW⟩, l1, l2, PlA_keep (fun b xs h => f6 _ _ (ne_of h hR (fun z => nomatch z)) h) _ _ pA, ok, bg, fun H8 u g2 s8 wa => ?_⟩
          walk_at "go"
          have sub : ∀ a, (N a ∨ a = TT ∨ a = O ∨ a = R) → H' a ≠ none := fun a ha => by
            rcases ha with ha | rfl | rfl | rfl
            · by_cases c : a = R
              · exact absurd (c ▸ ha) nR
              · cases hq : H a with
                | none => exact absurd hq (nH a ha)
                | some o => rw [f6 _ _ c hq]; exact fun z => nomatch z
            · rw [t6]; exact fun z => nomatch z
            · rw [o6]; exact fun z => nomatch z
            · rw [e6]; exact fun z => nomatch z
          exact hk _ _ ⟨u, g2, _, _, rfl, fun b o n h => s8 _ _ (f6 b o n h), s8 _ _ e6, s8 _ _ t6, s8 _ _ o6, WaysL.same s8 wl, WayA.mono sub wa⟩
        · rcases wl.last with ⟨e1, _⟩ | ⟨ts', u, zs', g', g'', et, ez, wl', wa⟩
          · rw [e1, List.length_nil] at tl; omega
          obtain ⟨ey, eg⟩ := List.append_inj' ez rfl
          obtain rfl : g = g'' := (List.cons.inj eg).1
          walk_at "go"
          refine g_fldV rfl e6 T2.cL T2.lO rfl ?_
          walk_at "go"
          refine g_ixL (SqL.of o6) (atN (i := zs.length) (by omega) List.getElem?_concat_length) ?_
          walk_at "go"
          refine g_fldV rfl e6 T2.cL T2.lO rfl ?_
          walk_at "go"
          have zl' : zs.length = zs'.length + 1 := by rw [ey, List.length_append]; rfl
          refine g_ixL (SqL.of o6) (atN (i := zs'.length) (g := g') (by omega) (by rw [ey, List.append_assoc, List.getElem?_append_right (Nat.le_refl _), Nat.sub_self]; rfl)) ?_
          walk_at "go"
          by_cases c : g = g'
          · rw [if_pos (decide_eq_true (by rw [c]))]
            walk_at "go"
            refine g_fldV rfl e6 T2.cL T2.lT rfl ?_
            walk_at "go"
            refine g_ixL (SqL.of t6) (atI_back (v := u) (by rw [et, List.length_append, List.length_singleton, Nat.add_sub_cancel]; exact List.getElem?_concat_length)) ?_
            walk_at "go"
            exact hk _ _ ⟨u, g, _, _, rfl, f6, e6, t6, o6, wl, by rw [← c] at wa; exact wa⟩
          · rw [if_neg (by rw [decide_eq_false (by omega)]; exact Bool.false_ne_true)]
            exact hB
      case refine_1 =>
        rintro σ H7 ⟨u, g2, v4, v6, rfl, f7, e7, t7, o7, wl7, wa⟩
        walk_at "go"
        refine g_fldV rfl e7 T2.cL T2.lT rfl ?_
        walk_at "go"
        refine g_tyL t7 ?_
        walk_at "go"
        refine g_append t7 (by omega) ?_
        have f8 : Frm R H (upd H7 TT (.lst (ts ++ [u]))) := fun b o n h => by
          rw [upd_ne (fun y => by rw [y] at h n; rw [f1 _ _ n h] at hT; cases hT)]; exact f7 b o n h
        have e8 : upd H7 TT (.lst (ts ++ [u])) R = some (.ins WL dx [("least", nV a), ("turns", .ref TT), ("goals", .ref O)]) := by rw [upd_ne nTR.symm]; exact e7
        have t8 := upd_same (H := H7) (a := TT) (o := .lst (ts ++ [u]))
        have o8 : upd H7 TT (.lst (ts ++ [u])) O = some (.lst ((zs ++ [g]).map nV)) := by rw [upd_ne nOT]; exact o7
        have wl8 := WaysL.keep (keepN (o := .lst (ts ++ [u])) (.inr (.inl rfl))) wl7
        have wa8 := WayA.keep (keepN (o := .lst (ts ++ [u])) (.inr (.inl rfl))) wa
        generalize upd H7 TT (.lst (ts ++ [u])) = H8 at f8 e8 t8 o8 wl8 wa8
        walk_at "go"
        refine g_fldV rfl e8 T2.cL T2.lO rfl ?_
        walk_at "go"
        refine g_tyL o8 ?_
        obtain ⟨R', C', dx', fs', rfl, hR', _, cls', na', lk', _⟩ := WayA.at_ (K := K) T2 wa8
        walk_at "go"
        refine g_fldV rfl hR' cls' na' lk' ?_
        walk_at "go"
        refine g_append o8 (by rw [List.length_map, List.length_append, List.length_singleton]; omega) ?_
        have eq : (zs ++ [g]).map nV ++ [nV g2] = (zs ++ [g] ++ [g2]).map nV := by rw [List.map_append (l₂ := [g2])]; rfl
        rw [eq]
        walk_at "go"
        refine ⟨ts ++ [.ref R'], zs ++ [g], g2, _, _, _, rfl, fun b o n h => ?_, by rw [upd_ne nOR.symm]; exact e8, by rw [upd_ne nOT.symm]; exact t8, upd_same, by rw [List.length_append, tl]; rfl, ?_, wa.bits.low⟩
        · rw [upd_ne (fun y => by rw [y] at h n; rw [f3 _ _ n h] at hO; cases hO)]; exact f8 b o n h
        · exact WaysL.keep (keepN (.inr (.inr (.inl rfl)))) (.snoc wl8 wa8)
    · rintro σ H6 ⟨ts, zs, g, v4, v5, v6, rfl, f6, e6, t6, o6, tl, wl, bg⟩
      have zl := wl.len
      walk_at "go"
      refine g_sfld ?_
      walk_at "go"
      refine ⟨R, WL, dx, _, rfl, e6, T2.cL, T2.lG, by show 3 < 1000; decide, ?_⟩
      have f7 : Frm R H (upd H6 R (HO.ins WL dx (putF ("gaps" : Str) (nV 0) [("least", nV a), ("turns", .ref TT), ("goals", .ref O)]))) := f6.trans .set
      have e7 := upd_same (H := H6) (a := R) (o := HO.ins WL dx (putF ("gaps" : Str) (nV 0) [("least", nV a), ("turns", .ref TT), ("goals", .ref O)]))
      have t7 : upd H6 R (HO.ins WL dx (putF ("gaps" : Str) (nV 0) [("least", nV a), ("turns", .ref TT), ("goals", .ref O)])) TT = some (.lst ts) := by rw [upd_ne nTR]; exact t6
      have o7 : upd H6 R (HO.ins WL dx (putF ("gaps" : Str) (nV 0) [("least", nV a), ("turns", .ref TT), ("goals", .ref O)])) O = some (.lst ((zs ++ [g]).map nV)) := by rw [upd_ne nOR]; exact o6
      have w7 := WaysL.keep (keepN (o := HO.ins WL dx (putF ("gaps" : Str) (nV 0) [("least", nV a), ("turns", .ref TT), ("goals", .ref O)])) (.inr (.inr (.inr rfl)))) wl
      generalize upd H6 R (HO.ins WL dx (putF ("gaps" : Str) (nV 0) [("least", nV a), ("turns", .ref TT), ("goals", .ref O)])) = H7 at f7 e7 t7 o7 w7
      walk_at "go"
      refine g_fldV rfl e7 T2.cL T2.lO rfl ?_
      walk_at "go"
      refine g_fldV rfl e7 T2.cL T2.lL rfl ?_
      walk_at "go"
      have tb : ts.length = b := by omega
      refine g_slL (SqL.of o7) fun S hS => ?_
      rw [cut_from _ _ (by omega)]
      have sS := same_new (o := .lst (((zs ++ [g]).drop a).map nV)) hS
      have eS := upd_same (H := H7) (a := S) (o := .lst (((zs ++ [g]).drop a).map nV))
      have nSR : S ≠ R := fun z => by rw [z, e7] at hS; cases hS
      have f8 := f7.trans (.of sS)
      have e8 := sS _ _ e7
      have t8 := sS _ _ t7
      have o8 := sS _ _ o7
      have w8 := WaysL.same sS w7
      generalize upd H7 S (.lst (((zs ++ [g]).drop a).map nV)) = H8 at sS eS f8 e8 t8 o8 w8
      refine w_list (xs := ((zs ++ [g]).drop a).map nV) (fun i σ H' => ∃ (gg : Nat) (v4 v5 v6 : Option V), σ = [some (.ref R), some (.ref Wt), some (.ref PA), some (nV z), v4, v5, v6] ∧ Frm R H H' ∧ H' R = some (.ins WL dx [("least", nV a), ("turns", .ref TT), ("goals", .ref O), ("gaps", nV gg)]) ∧
        H' TT = some (.lst ts) ∧ H' O = some (.lst ((zs ++ [g]).map nV)) ∧ H' S = some (.lst (((zs ++ [g]).drop a).map nV)) ∧ WaysL ⟨WP, WK, WR, WE, WL, Wt, lo, hi⟩ (fun a => N a ∨ a = TT ∨ a = O ∨ a = R) H' ts p z (zs ++ [g]) ∧ Bits hi (fun G j => ∃ n : Nat, a ≤ n ∧ n < a + i ∧ iterP (Led lo hi p) n G j) z gg) ?_ ?_ ?_ ?_
      · exact ⟨0, _, _, _, rfl, f8, e8, t8, o8, eS, w8, bits_false fun G i ⟨n, h1, h2, _⟩ => by omega⟩
      · rintro i σ H' _ ⟨gg, v4, v5, v6, rfl, f9, e9, t9, o9, s9, w9, bt⟩
        exact SqL.of s9
      · rintro i x σ H' hx ⟨gg, v4, v5, v6, rfl, f9, e9, t9, o9, s9, w9, bt⟩
        obtain ⟨gi, hgi, rfl⟩ : ∃ gi, (zs ++ [g])[a + i]? = some gi ∧ x = nV gi := by
          rw [List.getElem?_map, List.getElem?_drop] at hx
          cases hq : (zs ++ [g])[a + i]? with
          | none => rw [hq] at hx; cases hx
          | some y => rw [hq] at hx; exact ⟨y, rfl, (Option.some.inj hx).symm⟩
        have bi := WaysL.bits w9 hb hgi
        walk_at "go"
        refine g_sfld ?_
        walk_at "go"
        refine g_fldV rfl e9 T2.cL T2.lG rfl ?_
        walk_at "go"
        refine ⟨gg, gi, rfl, rfl, ?_⟩
        walk_at "go"
        refine ⟨R, WL, dx, _, rfl, e9, T2.cL, T2.lG, by show 4 < 1000; decide, ?_⟩
        refine ⟨gg ||| gi, _, _, _, rfl, f9.trans .set, upd_same, by rw [upd_ne nTR]; exact t9, by rw [upd_ne nOR]; exact o9, by rw [upd_ne nSR]; exact s9, WaysL.keep (keepN (.inr (.inr (.inr rfl)))) w9, ?_⟩
        refine bits_iff (bits_or bt bi) fun j _ => ?_
        constructor
        · rintro (⟨n, h1, h2, h3⟩ | h3)
          · exact ⟨n, h1, by omega, h3⟩
          · exact ⟨a + i, by omega, by omega, h3⟩
        · rintro ⟨n, h1, h2, h3⟩
          by_cases c : n = a + i
          · exact .inr (c ▸ h3)
          · exact .inl ⟨n, h1, by omega, h3⟩
      · rintro σ H' ⟨gg, v4, v5, v6, rfl, f9, e9, t9, o9, s9, w9, bt⟩
        walk_at "go"
        refine q _ gg f9 (.loop e9 nR t9 nNT o9 nNO (WaysL.mono (fun a ha => .inl ha) w9) tb ?_)
        refine bits_iff bt fun j _ => ?_
        unfold Led
        rw [List.length_map, List.length_drop]
        exact ⟨fun ⟨n, h1, h2, h3⟩ => ⟨n, by omega, by omega, h3⟩, fun ⟨n, h1, h2, h3⟩ => ⟨n, by omega, by omega, h3⟩⟩
end
end K05
namespace K05
open PySem PySem.Spec PyProof.Rows L2 Wd RT
local macro_rules | `(tactic| walk_at "gs") => `(tactic| repeat (first
  | with_reducible refine Wd.g_seq ?_
  | ((with_reducible show L2.Ends.nx _ _ _); (with_reducible refine Wd.g_nx ?_))
  | with_reducible refine Wd.g_asg ?_
  | ((with_reducible refine' Wd.g_var ?h1 ?_); (case h1 => exact rfl))
  | with_reducible refine Wd.g_c ?_
  | with_reducible refine Wd.g_op ?_
  | with_reducible refine Wd.g_un ?_
  | with_reducible refine Wd.g_I0 ?_
  | with_reducible refine Wd.g_U ?_
  | with_reducible refine Wd.g_eqI ?_
  | with_reducible refine Wd.g_neI ?_
  | with_reducible refine Wd.g_eqS ?_
  | with_reducible refine Wd.g_neS ?_
  | with_reducible refine Wd.g_eqB ?_
  | with_reducible refine Wd.g_neB ?_
  | with_reducible refine Wd.g_isN ?_
  | with_reducible refine Wd.g_notN ?_
  | with_reducible refine Wd.g_lc ?_
  | with_reducible refine Wd.g_yes ?_
  | with_reducible refine Wd.g_test ?_
  | with_reducible refine Wd.g_tB ?_
  | with_reducible refine Wd.g_bl ?_
  | with_reducible refine Wd.g_blI ?_
  | with_reducible refine Wd.g_and ?_
  | with_reducible refine Wd.g_or ?_
  | with_reducible refine Wd.g_not ?_
  | with_reducible refine Wd.g_andV ?_
  | with_reducible refine Wd.g_orV ?_
  | with_reducible refine Wd.g_notV ?_
  | with_reducible refine Wd.g_if ?_
  | with_reducible refine Wd.g_chain ?_
  | with_reducible refine Wd.g_chain3 ?_
  | with_reducible refine Wd.g_nil ?_
  | with_reducible refine Wd.g_cons ?_
  | with_reducible refine Wd.g_tup ?_
  | with_reducible refine Wd.g_lst ?_
  | with_reducible refine Wd.g_CB ?_
  | with_reducible refine Wd.g_call ?_
  | with_reducible refine Wd.g_callS ?_
  | with_reducible refine Wd.g_bm ?_
  | with_reducible refine Wd.g_bm0 ?_
  | with_reducible refine Wd.g_sl ?_
  | with_reducible refine Wd.g_part ?_
  | with_reducible refine Wd.g_part1 ?_
  | with_reducible refine Wd.g_noPart ?_
  | with_reducible refine Wd.g_next ?_
  | with_reducible refine Wd.g_name ?_
  | with_reducible refine Wd.g_sub ?_
  | with_reducible refine Wd.g_gnil ?_
  | with_reducible refine Wd.g_gcons ?_
  | with_reducible refine Wd.g_drop ?_
  | with_reducible refine Wd.g_ret ?_
  | with_reducible refine Wd.g_retN ?_
  | with_reducible refine Wd.g_brk ?_
  | with_reducible refine Wd.g_cont ?_
  | ((with_reducible show L2.Ends.bk _ _ _); (with_reducible refine Wd.g_bk ?_))
  | ((with_reducible show L2.Ends.ct _ _ _); (with_reducible refine Wd.g_ct ?_))
  | ((with_reducible show L2.Ends.rt _ _ _); (with_reducible refine Wd.g_rt ?_))
  | with_reducible refine Wd.g_for ?_
  | with_reducible refine Wd.g_rng1 ?_
  | with_reducible refine Wd.g_rng2 ?_
  | with_reducible refine Wd.g_iList ?_
  | with_reducible refine Wd.g_iTup ?_
  | ((with_reducible refine Wd.g_fit ?h1 ?_); (case h1 => exact rfl))
  | with_reducible refine Wd.g_max2 ?_
  | with_reducible refine Wd.g_min2 ?_
  | with_reducible refine Wd.g_int1B ?_
  | with_reducible refine L2.iteT ?_
  | with_reducible refine L2.iteF ?_
  | ((with_reducible refine Wd.g_itT ?h1 ?_); (case h1 => exact rfl))
  | ((with_reducible refine Wd.g_itF ?h1 ?_); (case h1 => exact rfl))))
theorem preP_bits {lo hi z : Nat} (h : lo ≤ hi) : Bits hi (Led lo hi .pat) z (preP lo hi z) :=
  ⟨fun i hi' => by have := ((preP_bit h).mp hi').1; omega, fun i hi' => by
    unfold Led
    exact ⟨fun y => ((preP_bit h).mp y).2, fun y => (preP_bit h).mpr ⟨hi', y⟩⟩⟩
theorem g_make {C : Addr} {sp : Sp} {dvs : List V} {E : XK} {t : TA} {σ : L2.St} {H : Hp} {Q : VK} (h : t σ H fun vs H1 => ∀ x dx, H1 x = none → H1 dx = none → dx ≠ x → sp (.ref x :: (vs ++ dvs)) (upd (upd H1 dx (.own x)) x (.ins C dx [])) (fun v H2 => v = .non ∧ Q (.ref x) H2) E) : tMake C sp dvs E t σ H Q := h
/-- a new thing's addresses -/
theorem made {H : Hp} {x dx C : Addr} (hx : H x = none) (hd : H dx = none) (n : dx ≠ x) : ∃ G, upd (upd H dx (.own x)) x (.ins C dx []) = G ∧ Same H G ∧ G x = some (.ins C dx []) ∧ (∀ H', Frm x G H' → Same H H') ∧ (∀ a, H a ≠ none → G a ≠ none) := by
  have s1 : Same H (upd (upd H dx (.own x)) x (.ins C dx [])) := fun b o h => by
    rw [upd_ne (ne_of_none h hx), upd_ne (ne_of_none h hd)]; exact h
  refine ⟨_, rfl, s1, upd_same, fun H' f b o h => f b o (ne_of_none h hx) (s1 b o h), fun a ha => ?_⟩
  cases hq : H a with
  | none => exact absurd hq ha
  | some o => rw [s1 _ _ hq]; exact fun z => nomatch z
section
variable {P : Program} {w : World} {K : PySem.W.Frag} {mg : Str → Option Value} {base : Heap} {CWt WP WK WR WE WL : Addr}
abbrev s_way_to : Stmt := top 32
theorem sc_way_to : FnScope ["watcher", "plan", "goal", "word"] ["watcher", "plan", "goal"] (C8.fnScope s_way_to) := C8.fnScope_by (by decide +kernel)
theorem way_step {n : Nat} {spR spE spL : Sp} {f : Addr} {fd : FuncData} (D : C8.Def K mg "way_to" s_way_to f fd) (b : Binds K fd ["watcher", "plan", "goal"] [])
    (g_PatWay : C8.Mak P w K mg base 3 "PatWay" WP (sp_pinit CWt WP) []) (g_WorkWay : C8.Mak P w K mg base 3 "WorkWay" WK (sp_kinit K CWt WK) [])
    (g_RowWay : C8.Mak P w K mg base (3 + 3 * n) "RowWay" WR spR []) (g_EitherWay : C8.Mak P w K mg base (3 + 3 * n) "EitherWay" WE spE []) (g_LoopWay : C8.Mak P w K mg base (3 + 3 * n) "LoopWay" WL spL [])
    (hR : ∀ d, n = d + 1 → spR = sp_rinit CWt WP WK WR WE WL d) (hE : ∀ d, n = d + 1 → spE = sp_einit CWt WP WK WR WE WL d) (hL : ∀ d, n = d + 1 → spL = sp_linit CWt WP WK WR WE WL d) :
    C8.Cal P w K mg base (5 + 3 * n) "way_to" (sp_way CWt WP WK WR WE WL n) [] := by
  have lv : 5 + 3 * n = (4 + 3 * n) + 1 := by omega
  rw [lv]
  refine C8.cal0 D b .nil sc_way_to (fun vs H Q E h => ?_) fun cdv A outer s H vs Q E hr h => ?_
  · obtain ⟨Wt, lo, hi, v, p, l, z, rfl, _⟩ := h; rfl
  · obtain ⟨Wt, lo, hi, v, p, l, z, rfl, ⟨dw, hW⟩, l1, l2, pA, ok, hb, q⟩ := h
    have nd := sc_way_to.nd
    refine ⟨_, (pss_cons (ps_set (i := 3) nd rfl (Or.inl rfl) (pe_ix (r := rIxT K) ix_tup (pv 1) pe_int (fun _ _ => rfl)))
      (pss_cons (ps_if (pt_cmpR op_eq (pv 3) pe_str (nomark _)) (pss_one (ps_ret (C8.pe_mk g_PatWay hr (by first | decide | exact Nat.le_refl _ | omega) (by rfl) (pa_cons (pv 0) (pa_cons (pv 2) pa_nil))))) pss_nil)
      (pss_cons (ps_if (pt_cmpR op_eq (pv 3) pe_str (nomark _)) (pss_one (ps_ret (C8.pe_mk g_WorkWay hr (by first | decide | exact Nat.le_refl _ | omega) (by rfl) (pa_cons (pv 0) (pa_cons (pv 1) (pa_cons (pv 2) pa_nil)))))) pss_nil)
      (pss_cons (ps_if (pt_cmpR op_eq (pv 3) pe_str (nomark _)) (pss_one (ps_ret (C8.pe_mk g_RowWay hr (by first | decide | exact Nat.le_refl _ | omega) (by rfl) (pa_cons (pv 0) (pa_cons (pv 1) (pa_cons (pv 2) pa_nil)))))) pss_nil)
      (pss_cons (ps_if (pt_cmpR op_eq (pv 3) pe_str (nomark _)) (pss_one (ps_ret (C8.pe_mk g_EitherWay hr (by first | decide | exact Nat.le_refl _ | omega) (by rfl) (pa_cons (pv 0) (pa_cons (pv 1) (pa_cons (pv 2) pa_nil)))))) pss_nil)
      (pss_one (ps_ret (C8.pe_mk g_LoopWay hr (by first | decide | exact Nat.le_refl _ | omega) (by rfl) (pa_cons (pv 0) (pa_cons (pv 1) (pa_cons (pv 2) pa_nil))))))))))), ?_⟩
    cases pA with
    | pat ha =>
      walk_at "go"
      refine g_ixT (SqT.of ha) rfl ?_
      walk_at "go"
      refine g_make ?_
      walk_at "go"
      intro x dx hx hd nx
      obtain ⟨G, eG, s1, g1, k1, n1⟩ := made (C := WP) hx hd nx
      rw [eG]
      refine ⟨x, dx, Wt, lo, hi, z, rfl, g1, ⟨dw, s1 _ _ hW⟩, fun H' f e => ⟨rfl, ?_⟩⟩
      walk_at "go"
      exact q _ _ _ (k1 _ f) (.pat e (fun y => y hx) (preP_bits l1))
    | work ha =>
      unfold okP at ok
      rename_i PA x y
      obtain ⟨a, rfl⟩ : ∃ a : Nat, x = a := ⟨x.toNat, by omega⟩
      obtain ⟨b, rfl⟩ : ∃ b : Nat, y = b := ⟨y.toNat, by omega⟩
      walk_at "go"
      refine g_ixT (SqT.of ha) rfl ?_
      walk_at "go"
      refine g_make ?_
      walk_at "go"
      intro x dx hx hd nx
      obtain ⟨G, eG, s1, g1, k1, n1⟩ := made (C := WK) hx hd nx
      rw [eG]
      refine ⟨x, dx, Wt, PA, lo, hi, z, a, b, rfl, g1, ⟨dw, s1 _ _ hW⟩, l1, l2, hb, s1 _ _ ha, by omega, by omega, fun H' g f bt e => ⟨rfl, ?_⟩⟩
      walk_at "go"
      exact q _ _ _ (k1 _ f) (.work e (fun y => y hx) bt)
    | row ha hc hps =>
      match n, ok, hR, hE, hL, g_RowWay, q with
      | 0, ok, _, _, _, _, _ => unfold okP at ok; exact ok.elim
      | d + 1, ok, hR, hE, hL, g_RowWay, q =>
      unfold okP at ok
      walk_at "go"
      refine g_ixT (SqT.of ha) rfl ?_
      walk_at "go"
      refine g_make ?_
      walk_at "go"
      intro x dx hx hd nx
      obtain ⟨G, eG, s1, g1, k1, n1⟩ := made (C := WR) hx hd nx
      rw [eG, hR d rfl]
      refine ⟨fun a => H a ≠ none, x, dx, Wt, _, _, _, _, lo, hi, l, z, rfl, g1, ⟨dw, s1 _ _ hW⟩, l1, l2, hb, s1 _ _ ha, s1 _ _ hc, PlAs_keep (keepT_same s1) _ _ hps, ok.2.2, ok.2.1, n1, fun y => y hx, fun H' g f wa => ⟨rfl, ?_⟩⟩
      walk_at "go"
      exact q _ _ _ (k1 _ f) wa
    | either ha hc hps =>
      match n, ok, hR, hE, hL, g_EitherWay, q with
      | 0, ok, _, _, _, _, _ => unfold okP at ok; exact ok.elim
      | d + 1, ok, hR, hE, hL, g_EitherWay, q =>
      unfold okP at ok
      walk_at "go"
      refine g_ixT (SqT.of ha) rfl ?_
      walk_at "go"
      refine g_make ?_
      walk_at "go"
      intro x dx hx hd nx
      obtain ⟨G, eG, s1, g1, k1, n1⟩ := made (C := WE) hx hd nx
      rw [eG, hE d rfl]
      refine ⟨fun a => H a ≠ none, x, dx, Wt, _, _, _, _, lo, hi, l, z, rfl, g1, ⟨dw, s1 _ _ hW⟩, l1, l2, hb, s1 _ _ ha, s1 _ _ hc, PlAs_keep (keepT_same s1) _ _ hps, ok.2.2, ok.2.1, n1, fun y => y hx, fun H' g f wa => ⟨rfl, ?_⟩⟩
      walk_at "go"
      exact q _ _ _ (k1 _ f) wa
    | @loop PA x y u p ha hp =>
      match n, l, ok, hR, hE, hL, g_LoopWay, q with
      | 0, _, ok, _, _, _, _, _ => unfold okP at ok; exact ok.elim
      | d + 1, 0, ok, _, _, _, _, _ => unfold okP at ok; exact ok.elim
      | d + 1, l + 1, ok, hR, hE, hL, g_LoopWay, q =>
      unfold okP at ok
      obtain ⟨a, rfl⟩ : ∃ a : Nat, x = a := ⟨x.toNat, by omega⟩
      obtain ⟨b, rfl⟩ : ∃ b : Nat, y = b := ⟨y.toNat, by omega⟩
      walk_at "go"
      refine g_ixT (SqT.of ha) rfl ?_
      walk_at "go"
      refine g_make ?_
      walk_at "go"
      intro x dx hx hd nx
      obtain ⟨G, eG, s1, g1, k1, n1⟩ := made (C := WL) hx hd nx
      rw [eG, hL d rfl]
      refine ⟨fun a => H a ≠ none, x, dx, Wt, _, _, _, lo, hi, l, z, a, b, rfl, g1, ⟨dw, s1 _ _ hW⟩, l1, l2, hb, s1 _ _ ha, PlA_keep (keepT_same s1) _ _ hp, ok.2.2.2, by omega, by omega, n1, fun y => y hx, fun H' g f wa => ⟨rfl, ?_⟩⟩
      walk_at "go"
      exact q _ _ _ (k1 _ f) wa
theorem ok_way (T2 : TxtY K WP WK WR WE WL) (T : TxtJ K mg) {f fR fE fL : Addr} {fd dR dE dL : FuncData} (D : C8.Def K mg "way_to" s_way_to f fd) (b : Binds K fd ["watcher", "plan", "goal"] [])
    (g_PatWay : C8.Mak P w K mg base 3 "PatWay" WP (sp_pinit CWt WP) []) (g_WorkWay : C8.Mak P w K mg base 3 "WorkWay" WK (sp_kinit K CWt WK) [])
    (MR : Mk K WR fR) (hmR : mg "RowWay" = some (.ref WR)) (FR : C8.Fun K "__init__" "RowWay.__init__" s_RowWay_init fR dR) (bR : Binds K dR ["self", "watcher", "plan", "goal"] [])
    (ME : Mk K WE fE) (hmE : mg "EitherWay" = some (.ref WE)) (FE : C8.Fun K "__init__" "EitherWay.__init__" s_EitherWay_init fE dE) (bE : Binds K dE ["self", "watcher", "plan", "goal"] [])
    (ML : Mk K WL fL) (hmL : mg "LoopWay" = some (.ref WL)) (FL : C8.Fun K "__init__" "LoopWay.__init__" s_LoopWay_init fL dL) (bL : Binds K dL ["self", "watcher", "plan", "goal"] []) :
    ∀ n, C8.Cal P w K mg base (5 + 3 * n) "way_to" (sp_way CWt WP WK WR WE WL n) []
  | 0 => way_step (spR := fun _ _ _ _ => False) (spE := fun _ _ _ _ => False) (spL := fun _ _ _ _ => False) D b g_PatWay g_WorkWay
    ⟨fR, dR, ["self", "watcher", "plan", "goal"], [], MR, ⟨fun _ _ _ _ h => h.elim, fun _ _ _ _ _ _ _ _ _ _ _ _ _ h => h.elim⟩, hmR, bR, .nil⟩
    ⟨fE, dE, ["self", "watcher", "plan", "goal"], [], ME, ⟨fun _ _ _ _ h => h.elim, fun _ _ _ _ _ _ _ _ _ _ _ _ _ h => h.elim⟩, hmE, bE, .nil⟩
    ⟨fL, dL, ["self", "watcher", "plan", "goal"], [], ML, ⟨fun _ _ _ _ h => h.elim, fun _ _ _ _ _ _ _ _ _ _ _ _ _ h => h.elim⟩, hmL, bL, .nil⟩
    (fun d h => nomatch h) (fun d h => nomatch h) (fun d h => nomatch h)
  | n + 1 => by
    have ih := ok_way T2 T D b g_PatWay g_WorkWay MR hmR FR bR ME hmE FE bE ML hmL FL bL n
    have lv : 3 + 3 * (n + 1) = 6 + 3 * n := by omega
    refine way_step D b g_PatWay g_WorkWay (by rw [lv]; exact ok_rinit T2 T MR hmR FR bR ih) (by rw [lv]; exact ok_einit T2 T ME hmE FE bE ih) (by rw [lv]; exact ok_linit T2 T ML hmL FL bL ih) (fun d h => ?_) (fun d h => ?_) fun d h => ?_
    · obtain rfl : n = d := by omega
      rfl
    · obtain rfl : n = d := by omega
      rfl
    · obtain rfl : n = d := by omega
      rfl
end
end K05
namespace K05
open PySem PySem.Spec PyProof.Rows L2 Wd
/-! ### what a run makes of its gap -/
/-- the last pat along pats, none behind a bite -/
def stL (lo hi : Nat) : Int → List Int → Option Int
  | last, [] => some last
  | last, q :: qs => if last + hi < q then none else if q < last + lo then none else stL lo hi q qs
theorem stL_app {lo hi : Nat} : ∀ (a b : List Int) (last : Int), stL lo hi last (a ++ b) = (stL lo hi last a).bind fun l => stL lo hi l b
  | [], b, last => rfl
  | q :: a, b, last => by
    show (if last + hi < q then none else if q < last + lo then none else stL lo hi q (a ++ b)) = (if last + hi < q then none else if q < last + lo then none else stL lo hi q a).bind fun l => stL lo hi l b
    split
    · rfl
    · split
      · rfl
      · exact stL_app a b q
/-- the gap behind pats, at a moment -/
def gapOf (lo hi : Nat) (pats : List Int) (t : Int) : Int := match stL lo hi 0 pats with
  | none => (hi + 1 : Nat)
  | some last => min (t - last) (hi + 1 : Nat)
/-- from the gap g the delays ds, used up, lead to the gap g2 -/
def Go (lo hi : Nat) (f : List Int → Int → Res) (g : Nat) (ds : List Int) (g2 : Nat) : Prop :=
  ∀ rest t, ∃ nq t', f (ds ++ rest) t = some (nq, rest, t') ∧ ∀ pats, gapOf lo hi pats t = (g : Int) → gapOf lo hi (pats ++ nq) t' = (g2 : Int)
theorem go_pat {lo hi g : Nat} (hl : lo ≤ hi) : Go lo hi (rn .pat) g [] (gP lo hi g) := fun rest t => by
  refine ⟨[t], t, by simp only [List.nil_append, rn], fun pats h => ?_⟩
  unfold gapOf at h ⊢
  rw [stL_app]
  unfold gP
  cases hs : stL lo hi 0 pats with
  | none =>
    rw [hs] at h
    simp only [Option.bind_none] at h ⊢
    rw [if_neg (by omega)]
  | some last =>
    rw [hs] at h
    simp only [Option.bind_some] at h ⊢
    unfold stL stL
    by_cases c1 : last + hi < t
    · rw [if_pos c1]
      simp only
      rw [if_neg (by omega)]
    · rw [if_neg c1]
      by_cases c2 : t < last + lo
      · rw [if_pos c2]
        simp only
        rw [if_neg (by omega)]
      · rw [if_neg c2]
        simp only
        rw [if_pos (by omega)]
        omega
theorem go_work {lo hi g a b d : Nat} (h1 : a ≤ d) (h2 : d ≤ b) : Go lo hi (rn (.work a b)) g [(d : Int)] (gW hi g d) := fun rest t => by
  refine ⟨[], t + d, ?_, fun pats h => ?_⟩
  · simp only [List.cons_append, List.nil_append, rn]
    rw [if_pos (by omega)]
  rw [List.append_nil]
  unfold gapOf at h ⊢
  unfold gW
  cases hs : stL lo hi 0 pats with
  | none =>
    rw [hs] at h
    simp only at h ⊢
    omega
  | some last =>
    rw [hs] at h
    simp only at h ⊢
    omega
theorem go_id {lo hi g : Nat} {f : List Int → Int → Res} (h : ∀ ds t, f ds t = some ([], ds, t)) : Go lo hi f g [] g := fun rest t =>
  ⟨[], t, h _ _, fun pats h => by rw [List.append_nil]; exact h⟩
theorem go_nil {lo hi g : Nat} : Go lo hi (rns []) g [] g := go_id fun ds t => by simp only [rns]
theorem go_iter0 {lo hi g : Nat} {f : List Int → Int → Res} : Go lo hi (iter f 0) g [] g := go_id fun ds t => by simp only [iter]
theorem go_seq {lo hi g g1 g2 : Nat} {f k h : List Int → Int → Res} {a b : List Int} (e : ∀ ds t, h ds t = seqR (f ds t) k) (h1 : Go lo hi f g a g1) (h2 : Go lo hi k g1 b g2) : Go lo hi h g (a ++ b) g2 := fun rest t => by
  obtain ⟨n1, t1, e1, q1⟩ := h1 (b ++ rest) t
  obtain ⟨n2, t2, e2, q2⟩ := h2 rest t1
  refine ⟨n1 ++ n2, t2, ?_, fun pats hp => ?_⟩
  · rw [e, List.append_assoc, e1]
    exact seqR_some e2
  · rw [← List.append_assoc]
    exact q2 _ (q1 _ hp)
theorem go_cons {lo hi g g1 g2 : Nat} {p : Pl} {ps : List Pl} {a b : List Int} (h1 : Go lo hi (rn p) g a g1) (h2 : Go lo hi (rns ps) g1 b g2) : Go lo hi (rns (p :: ps)) g (a ++ b) g2 :=
  go_seq (fun ds t => by simp only [rns]) h1 h2
theorem go_iter {lo hi g g1 g2 n : Nat} {f : List Int → Int → Res} {a b : List Int} (h1 : Go lo hi f g a g1) (h2 : Go lo hi (iter f n) g1 b g2) : Go lo hi (iter f (n + 1)) g (a ++ b) g2 :=
  go_seq (fun ds t => by simp only [iter]) h1 h2
theorem go_row {lo hi g g2 : Nat} {ps : List Pl} {a : List Int} (h : Go lo hi (rns ps) g a g2) : Go lo hi (rn (.row ps)) g a g2 := fun rest t => by
  obtain ⟨n1, t1, e1, q1⟩ := h rest t
  exact ⟨n1, t1, by simp only [rn]; exact e1, q1⟩
theorem go_either {lo hi g g2 k : Nat} {ps : List Pl} {p : Pl} {a : List Int} (hk : ps[k]? = some p) (h : Go lo hi (rn p) g a g2) : Go lo hi (rn (.either ps)) g ((k : Int) :: a) g2 := fun rest t => by
  obtain ⟨n1, t1, e1, q1⟩ := h rest t
  refine ⟨n1, t1, ?_, q1⟩
  simp only [List.cons_append, rn]
  rw [if_pos (by omega), Int.toNat_natCast, rnAt_at hk]
  exact e1
theorem go_loop {lo hi g g2 k a b : Nat} {p : Pl} {as : List Int} (h1 : a ≤ k) (h2 : k ≤ b) (h : Go lo hi (iter (rn p) k) g as g2) : Go lo hi (rn (.loop a b p)) g ((k : Int) :: as) g2 := fun rest t => by
  obtain ⟨n1, t1, e1, q1⟩ := h rest t
  refine ⟨n1, t1, ?_, q1⟩
  simp only [List.cons_append, rn]
  rw [if_pos (by omega), Int.toNat_natCast]
  exact e1
/-- at most so many delays -/
theorem mx_either {ps : List Pl} {k : Nat} {p : Pl} (h : ps[k]? = some p) : 1 + mx p ≤ mx (.either ps) := by
  have := mx_at h
  simp only [mx]; omega
end K05
namespace K05
open PySem PySem.Spec PyProof.Rows L2 Wd RT
local macro_rules | `(tactic| walk_at "gs") => `(tactic| repeat (first
  | with_reducible refine Wd.g_seq ?_
  | ((with_reducible show L2.Ends.nx _ _ _); (with_reducible refine Wd.g_nx ?_))
  | with_reducible refine Wd.g_asg ?_
  | ((with_reducible refine' Wd.g_var ?h1 ?_); (case h1 => exact rfl))
  | with_reducible refine Wd.g_c ?_
  | with_reducible refine Wd.g_op ?_
  | with_reducible refine Wd.g_un ?_
  | with_reducible refine Wd.g_I0 ?_
  | with_reducible refine Wd.g_U ?_
  | with_reducible refine Wd.g_eqI ?_
  | with_reducible refine Wd.g_neI ?_
  | with_reducible refine Wd.g_eqS ?_
  | with_reducible refine Wd.g_neS ?_
  | with_reducible refine Wd.g_eqB ?_
  | with_reducible refine Wd.g_neB ?_
  | with_reducible refine Wd.g_isN ?_
  | with_reducible refine Wd.g_notN ?_
  | with_reducible refine Wd.g_lc ?_
  | with_reducible refine Wd.g_yes ?_
  | with_reducible refine Wd.g_test ?_
  | with_reducible refine Wd.g_tB ?_
  | with_reducible refine Wd.g_bl ?_
  | with_reducible refine Wd.g_blI ?_
  | with_reducible refine Wd.g_and ?_
  | with_reducible refine Wd.g_or ?_
  | with_reducible refine Wd.g_not ?_
  | with_reducible refine Wd.g_andV ?_
  | with_reducible refine Wd.g_orV ?_
  | with_reducible refine Wd.g_notV ?_
  | with_reducible refine Wd.g_if ?_
  | with_reducible refine Wd.g_chain ?_
  | with_reducible refine Wd.g_chain3 ?_
  | with_reducible refine Wd.g_nil ?_
  | with_reducible refine Wd.g_cons ?_
  | with_reducible refine Wd.g_tup ?_
  | with_reducible refine Wd.g_lst ?_
  | with_reducible refine Wd.g_CB ?_
  | with_reducible refine Wd.g_call ?_
  | with_reducible refine Wd.g_callS ?_
  | with_reducible refine Wd.g_bm ?_
  | with_reducible refine Wd.g_bm0 ?_
  | with_reducible refine Wd.g_sl ?_
  | with_reducible refine Wd.g_part ?_
  | with_reducible refine Wd.g_part1 ?_
  | with_reducible refine Wd.g_noPart ?_
  | with_reducible refine Wd.g_next ?_
  | with_reducible refine Wd.g_name ?_
  | with_reducible refine Wd.g_sub ?_
  | with_reducible refine Wd.g_gnil ?_
  | with_reducible refine Wd.g_gcons ?_
  | with_reducible refine Wd.g_drop ?_
  | with_reducible refine Wd.g_ret ?_
  | with_reducible refine Wd.g_retN ?_
  | with_reducible refine Wd.g_brk ?_
  | with_reducible refine Wd.g_cont ?_
  | ((with_reducible show L2.Ends.bk _ _ _); (with_reducible refine Wd.g_bk ?_))
  | ((with_reducible show L2.Ends.ct _ _ _); (with_reducible refine Wd.g_ct ?_))
  | ((with_reducible show L2.Ends.rt _ _ _); (with_reducible refine Wd.g_rt ?_))
  | with_reducible refine Wd.g_for ?_
  | with_reducible refine Wd.g_rng1 ?_
  | with_reducible refine Wd.g_rng2 ?_
  | with_reducible refine Wd.g_iList ?_
  | with_reducible refine Wd.g_iTup ?_
  | ((with_reducible refine Wd.g_fit ?h1 ?_); (case h1 => exact rfl))
  | with_reducible refine Wd.g_max2 ?_
  | with_reducible refine Wd.g_min2 ?_
  | with_reducible refine Wd.g_int1B ?_
  | with_reducible refine L2.iteT ?_
  | with_reducible refine L2.iteF ?_
  | ((with_reducible refine Wd.g_itT ?h1 ?_); (case h1 => exact rfl))
  | ((with_reducible refine Wd.g_itF ?h1 ?_); (case h1 => exact rfl))))
/-! ### a method that several classes have, each with a promise of its own -/
def tMethS (Cs : List (Addr × Sp)) (m : Str) (ta : TE) (t : TA) : TE := fun σ H Q => ta σ H fun y H1 => ∃ (a dx : Addr) (fs : List (Str × V)) (c : Addr × Sp), c ∈ Cs ∧ y = .ref a ∧ H1 a = some (.ins c.1 dx fs) ∧ fs.lookup m = none ∧ t σ H1 fun vs H2 => c.2 (y :: (vs ++ [])) H2 Q C8.E0
def MetS (P : Program) (w : World) (K : PySem.W.Frag) (mg : Str → Option Value) (base : Heap) (k : Nat) (Cs : List (Addr × Sp)) (m : Str) : Prop := ∀ c ∈ Cs, ∃ k', k' ≤ k ∧ C8.Met P w K mg base k' c.1 m c.2 []
section
variable {X : Cx} {k j : Nat} {Cs : List (Addr × Sp)} {m : Str} {pos apos : Pos} {o e : Expr} {es : List Expr} {ta : TE} {t : TA}
theorem pe_mtS {pl : Sem Bool} (c : MetS X.prog X.w X.K X.mg X.base k Cs m) (hr : Room j X.A) (hk : k ≤ j) (ho : PE X o ta) (ha : PA X (e :: es) t)
    (hst : starEach (e :: es) X.env = (false, eval e X.env) :: starEach es X.env := by rfl) (hpl : (backTo pos (starEach es X.env)).any (·.1) = false := by rfl)
    (ht : eval (.Call (.Attribute o m apos) (e :: es) [] pos) X.env = (do
      let obj ← eval o X.env
      standAt apos.atName
      let (fn, own) ← holding [obj] (getMethod obj m pl)
      callWith pos fn own (backTo pos (starEach (e :: es) X.env)) (backToKw pos (keywordEach [] X.env))) := by rfl) :
    PE X (.Call (.Attribute o m apos) (e :: es) [] pos) (tMethS Cs m ta t) := by
  refine ⟨fun pins s σ H Q I h => PySem.W.methodCall_KW (pl := pl) (thn (ho.run pins s σ H _ I h) fun u s1 ⟨y, H1, I1, ry, a, dx, fs, C, hC, ey, ea, l, q⟩ => ?_) ht⟩
  subst ey
  obtain rfl : u = Value.ref a := ry
  obtain ⟨k', hk', f, fd, ps, ds, hc, hm, F, b, d⟩ := c C hC
  exact getmeth_ok I1 ea hc hm l (PySem.W.callWith_K (first := [.ref a]) (h₀ := X.base) I.ok.mod.kin hm.kp (thn (ha.run pos pins s1 σ H1 _ I1 q) fun us s2 ⟨vs, H2, I2, r, q2⟩ => ⟨I2.kIn, run_fn (us := .ref a :: us) (vs := .ref a :: vs) F (hr.mono (Nat.le_trans hk' hk)) b d C8.pass0 I2 (.cons rfl r) q2⟩) hst hpl)
end
theorem g_mtS {Cs : List (Addr × Sp)} {m : Str} {ta : TE} {t : TA} {σ : L2.St} {H : Hp} {Q : VK} (h : ta σ H fun y H1 => ∃ (a dx : Addr) (fs : List (Str × V)) (c : Addr × Sp), c ∈ Cs ∧ y = .ref a ∧ H1 a = some (.ins c.1 dx fs) ∧ fs.lookup m = none ∧ t σ H1 fun vs H2 => c.2 (y :: (vs ++ [])) H2 Q C8.E0) : tMethS Cs m ta t σ H Q := h
/-! ### lead -/
def shp : Pl → Nat
  | .pat => 0
  | .work _ _ => 1
  | .row _ => 2
  | .either _ => 3
  | .loop _ _ _ => 4
def sp_ld (K : PySem.W.Frag) (CWt WP WK WR WE WL : Addr) (n s : Nat) : Sp := fun vs H Q _ => ∃ (N : Addr → Prop) (v : V) (D Wt : Addr) (ds : List Int) (p : Pl) (g lo hi l z gz : Nat), shp p = s ∧ vs = [v, nV g, .ref D] ∧ WayA ⟨WP, WK, WR, WE, WL, Wt, lo, hi⟩ N H v p z gz ∧ N D ∧ IsWt H CWt Wt lo hi ∧ lo ≤ hi ∧
  H D = some (.lst (ds.map V.int)) ∧ okP n l p ∧ g ≤ hi + 1 ∧ gz.testBit g = true ∧ ds.length + mx p ≤ 10000000 ∧
  ∀ (H' : Hp) (as : List Int) (g2 : Nat), Frm D H H' → H' D = some (.lst ((ds ++ as).map V.int)) → Go lo hi (rn p) g as g2 → z.testBit g2 = true → g2 ≤ hi + 1 → as.length ≤ mx p → Q (nV g2) H'
abbrev CsL (K : PySem.W.Frag) (CWt WP WK WR WE WL : Addr) (n : Nat) : List (Addr × Sp) := [(WP, sp_ld K CWt WP WK WR WE WL n 0), (WK, sp_ld K CWt WP WK WR WE WL n 1), (WR, sp_ld K CWt WP WK WR WE WL n 2), (WE, sp_ld K CWt WP WK WR WE WL n 3), (WL, sp_ld K CWt WP WK WR WE WL n 4)]
section
variable {P : Program} {w : World} {K : PySem.W.Frag} {mg : Str → Option Value} {base : Heap} {CWt WP WK WR WE WL : Addr}
/-- any way leads -/
theorem use_ld {n : Nat} {H : Hp} {Q : VK} {N : Addr → Prop} {v : V} {D Wt : Addr} {ds : List Int} {p : Pl} {g lo hi l z gz : Nat} (wa : WayA ⟨WP, WK, WR, WE, WL, Wt, lo, hi⟩ N H v p z gz) (nD : N D) (hW : IsWt H CWt Wt lo hi) (l1 : lo ≤ hi)
    (hD : H D = some (.lst (ds.map V.int))) (ok : okP n l p) (hg : g ≤ hi + 1) (ht : gz.testBit g = true) (hm : ds.length + mx p ≤ 10000000)
    (q : ∀ (H' : Hp) (as : List Int) (g2 : Nat), Frm D H H' → H' D = some (.lst ((ds ++ as).map V.int)) → Go lo hi (rn p) g as g2 → z.testBit g2 = true → g2 ≤ hi + 1 → as.length ≤ mx p → Q (nV g2) H') :
    ∃ (a dx : Addr) (fs : List (Str × V)) (c : Addr × Sp), c ∈ CsL K CWt WP WK WR WE WL n ∧ v = .ref a ∧ H a = some (.ins c.1 dx fs) ∧ fs.lookup ("lead" : Str) = none ∧ c.2 [v, nV g, .ref D] H Q C8.E0 := by
  have sp : sp_ld K CWt WP WK WR WE WL n (shp p) [v, nV g, .ref D] H Q C8.E0 := ⟨N, v, D, Wt, ds, p, g, lo, hi, l, z, gz, rfl, rfl, wa, nD, hW, l1, hD, ok, hg, ht, hm, q⟩
  cases wa with
  | pat h _ _ => exact ⟨_, _, _, (WP, sp_ld K CWt WP WK WR WE WL n 0), .head _, rfl, h, rfl, sp⟩
  | work h _ _ => exact ⟨_, _, _, (WK, sp_ld K CWt WP WK WR WE WL n 1), .tail _ (.head _), rfl, h, rfl, sp⟩
  | row h _ _ _ _ _ => exact ⟨_, _, _, (WR, sp_ld K CWt WP WK WR WE WL n 2), .tail _ (.tail _ (.head _)), rfl, h, rfl, sp⟩
  | either h _ _ _ _ _ => exact ⟨_, _, _, (WE, sp_ld K CWt WP WK WR WE WL n 3), .tail _ (.tail _ (.tail _ (.head _))), rfl, h, rfl, sp⟩
  | loop h _ _ _ _ _ _ _ _ => exact ⟨_, _, _, (WL, sp_ld K CWt WP WK WR WE WL n 4), .tail _ (.tail _ (.tail _ (.tail _ (.head _)))), rfl, h, rfl, sp⟩
theorem use_ldV {n i j : Nat} {σ : L2.St} {H : Hp} {Q : VK} {N : Addr → Prop} {v : V} {D Wt : Addr} {ds : List Int} {p : Pl} {g lo hi l z gz : Nat} (hi1 : σ[i]? = some (some (nV g))) (hj : σ[j]? = some (some (.ref D))) (wa : WayA ⟨WP, WK, WR, WE, WL, Wt, lo, hi⟩ N H v p z gz) (nD : N D) (hW : IsWt H CWt Wt lo hi) (l1 : lo ≤ hi)
    (hD : H D = some (.lst (ds.map V.int))) (ok : okP n l p) (hg : g ≤ hi + 1) (ht : gz.testBit g = true) (hm : ds.length + mx p ≤ 10000000)
    (q : ∀ (H' : Hp) (as : List Int) (g2 : Nat), Frm D H H' → H' D = some (.lst ((ds ++ as).map V.int)) → Go lo hi (rn p) g as g2 → z.testBit g2 = true → g2 ≤ hi + 1 → as.length ≤ mx p → Q (nV g2) H') :
    ∃ (a dx : Addr) (fs : List (Str × V)) (c : Addr × Sp), c ∈ CsL K CWt WP WK WR WE WL n ∧ v = .ref a ∧ H a = some (.ins c.1 dx fs) ∧ fs.lookup ("lead" : Str) = none ∧ tCons (tVar i) (tCons (tVar j) tNil) σ H fun vs H2 => c.2 (v :: (vs ++ [])) H2 Q C8.E0 := by
  obtain ⟨a, dx, fs, c, h1, h2, h3, h4, h5⟩ := use_ld (K := K) (CWt := CWt) (n := n) wa nD hW l1 hD ok hg ht hm q
  exact ⟨a, dx, fs, c, h1, h2, h3, h4, g_cons (g_var hi1 (g_cons (g_var hj (g_nil h5))))⟩
abbrev s_PatWay_lead : Stmt := (C8.clsBody (top 27)).getD 1 (.Pass ⟨0, 0, 0, 0⟩)
theorem sc_PatWay_lead : FnScope ["self", "gap", "delays"] ["self", "gap", "delays"] (C8.fnScope s_PatWay_lead) := C8.fnScope_by (by decide +kernel)
theorem ok_plead {n : Nat} (T2 : TxtY K WP WK WR WE WL) {f : Addr} {fd : FuncData} (me : Meth K WP "lead" f) (F : C8.Fun K "lead" "PatWay.lead" s_PatWay_lead f fd) (b : Binds K fd ["self", "gap", "delays"] []) (m_gbp : C8.Met P w K mg base 1 CWt "gap_behind_pat" (sp_gbp CWt) []) :
    C8.Met P w K mg base 2 WP "lead" (sp_ld K CWt WP WK WR WE WL n 0) [] := by
  refine C8.met0 T2.cP me F b sc_PatWay_lead (fun vs H Q E h => ?_) fun cdv A outer s H vs Q E hr h => ?_
  · obtain ⟨N, v, D, Wt, ds, p, g, lo, hi, l, z, gz, _, rfl, _⟩ := h; rfl
  · obtain ⟨N, v, D, Wt, ds, p, g, lo, hi, l, z, gz, hs, rfl, wa, nD, ⟨dw, hW⟩, l1, hD, ok, hg, ht, hm, q⟩ := h
    have nd := sc_PatWay_lead.nd
    refine ⟨_, (pss_one (ps_ret (C8.pe_mt m_gbp hr (by first | decide | exact Nat.le_refl _ | omega) (pe_fld (pv 0) rfl) (pa_cons (pv 1) pa_nil)))), ?_⟩
    cases wa with
    | work _ _ _ => cases hs
    | row _ _ _ _ _ _ => cases hs
    | either _ _ _ _ _ _ => cases hs
    | loop _ _ _ _ _ _ _ _ _ => cases hs
    | pat h nR bt =>
      walk_at "go"
      refine g_fldV rfl h T2.cP T2.pW rfl ?_
      refine ⟨Wt, dw, _, rfl, hW, rfl, ?_⟩
      walk_at "go"
      refine ⟨Wt, lo, hi, g, rfl, ⟨dw, hW⟩, ?_⟩
      walk_at "go"
      have hz := (bt.bit g hg).mp ht
      unfold Led at hz
      refine q H [] _ (fun b o _ h => h) (by rw [List.append_nil]; exact hD) (go_pat l1) hz gP_le (Nat.zero_le _)
abbrev s_WorkWay_lead : Stmt := (C8.clsBody (top 28)).getD 1 (.Pass ⟨0, 0, 0, 0⟩)
theorem sc_WorkWay_lead : FnScope ["self", "gap", "delays", "delay"] ["self", "gap", "delays"] (C8.fnScope s_WorkWay_lead) := C8.fnScope_by (by decide +kernel)
theorem ok_klead {n : Nat} (T2 : TxtY K WP WK WR WE WL) {f : Addr} {fd : FuncData} (me : Meth K WK "lead" f) (F : C8.Fun K "lead" "WorkWay.lead" s_WorkWay_lead f fd) (b : Binds K fd ["self", "gap", "delays"] []) (m_gbw : C8.Met P w K mg base 1 CWt "gap_behind_work" (sp_gbw CWt) []) (g_holds : C8.Cal P w K mg base 1 "holds" sp_holds []) :
    C8.Met P w K mg base 2 WK "lead" (sp_ld K CWt WP WK WR WE WL n 1) [] := by
  refine C8.met0 T2.cK me F b sc_WorkWay_lead (fun vs H Q E h => ?_) fun cdv A outer s H vs Q E hr h => ?_
  · obtain ⟨N, v, D, Wt, ds, p, g, lo, hi, l, z, gz, _, rfl, _⟩ := h; rfl
  · obtain ⟨N, v, D, Wt, ds, p, g, lo, hi, l, z, gz, hs, rfl, wa, nD, ⟨dw, hW⟩, l1, hD, ok, hg, ht, hm, q⟩ := h
    have nd := sc_WorkWay_lead.nd
    refine ⟨_, (pss_cons (ps_set (i := 3) nd rfl (Or.inl rfl) (pe_fld (pv 0) rfl))
      (pss_cons (ps_while PassesOwn.never (pt_not (pt_val (C8.pe_c g_holds hr (by first | decide | exact Nat.le_refl _ | omega) (by rfl) (pa_cons (pe_fld (pv 0) rfl) (pa_cons (C8.pe_mt m_gbw hr (by first | decide | exact Nat.le_refl _ | omega) (pe_fld (pv 0) rfl) (pa_cons (pv 1) (pa_cons (pv 3) pa_nil))) pa_nil))))) (pss_one (ps_aug (i := 3) nd rfl (Or.inl rfl) pe_int ip_add)))
      (pss_cons (ps_expr (pe_bmK (K := K) rfl PySem.F.plainAttrs_list PySem.F.slot_list_append PySem.F.type_list_append mt_append (pv 2) (pa_cons (pv 3) pa_nil)))
      (pss_one (ps_ret (C8.pe_mt m_gbw hr (by first | decide | exact Nat.le_refl _ | omega) (pe_fld (pv 0) rfl) (pa_cons (pv 1) (pa_cons (pv 3) pa_nil)))))))), ?_⟩
    cases wa with
    | pat _ _ _ => cases hs
    | row _ _ _ _ _ _ => cases hs
    | either _ _ _ _ _ _ => cases hs
    | loop _ _ _ _ _ _ _ _ _ => cases hs
    | @work R dx a b _ _ h nR bt =>
      have hz := (bt.bit g hg).mp ht
      unfold Led at hz
      obtain ⟨d0, b1, b2, b3⟩ := hz
      walk_at "go"
      refine g_fldV rfl h T2.cK T2.kL rfl ?_
      walk_at "go"
      refine w_loop (fun k σ H' => ∃ d : Nat, σ = [some (.ref R), some (nV g), some (.ref D), some (nV d)] ∧ H' = H ∧ a ≤ d ∧ d ≤ d0 ∧ k = d0 - d) (d0 - a) ?_ ?_
      · exact ⟨a, rfl, rfl, Nat.le_refl _, by omega, rfl⟩
      · rintro k σ H' ⟨d, rfl, rfl, c1, c2, rfl⟩
        walk_at "go"
        refine g_fldV rfl h T2.cK T2.kO rfl ?_
        walk_at "go"
        refine g_fldV rfl h T2.cK T2.kW rfl ?_
        refine ⟨Wt, dw, _, rfl, hW, rfl, ?_⟩
        walk_at "go"
        refine ⟨Wt, lo, hi, g, d, rfl, ⟨dw, hW⟩, ?_⟩
        walk_at "go"
        refine ⟨z, gW hi g d, rfl, ?_⟩
        refine ⟨_, rfl, ?_⟩
        by_cases c : z.testBit (gW hi g d) = true
        · rw [if_neg (by rw [c]; exact Bool.false_ne_true)]
          walk_at "go"
          refine g_tyL hD ?_
          walk_at "go"
          have dl : ds.length < 16000000 := by omega
          refine ⟨_, _, _, rfl, rfl, hD, by rw [List.length_map]; exact Nat.lt_of_lt_of_le dl (by decide), ?_⟩
          have nDR : R ≠ D := ne_of h hD (fun y => nomatch y)
          have nDW : Wt ≠ D := ne_of hW hD (fun y => nomatch y)
          have eD := upd_same (H := H') (a := D) (o := .lst (ds.map V.int ++ [nV d]))
          have eR := (upd_ne (H := H') (o := .lst (ds.map V.int ++ [nV d])) nDR).trans h
          have eW := (upd_ne (H := H') (o := .lst (ds.map V.int ++ [nV d])) nDW).trans hW
          have fD : Frm D H' (upd H' D (.lst (ds.map V.int ++ [nV d]))) := .set
          generalize upd H' D (.lst (ds.map V.int ++ [nV d])) = H2 at eD eR eW fD ⊢
          walk_at "go"
          refine g_fldV rfl eR T2.cK T2.kW rfl ?_
          refine ⟨Wt, dw, _, rfl, eW, rfl, ?_⟩
          walk_at "go"
          refine ⟨Wt, lo, hi, g, d, rfl, ⟨dw, eW⟩, ?_⟩
          walk_at "go"
          refine q H2 [(d : Int)] _ fD (by rw [eD, List.map_append]; rfl) (go_work c1 (by omega)) c gW_le (Nat.le_refl _)
        · rw [if_pos (by rw [Bool.not_eq_true] at c; rw [c]; rfl)]
          have ne : d ≠ d0 := fun y => c (y ▸ b3)
          refine ⟨fun σ' H'' => ∃ d' : Nat, σ' = [some (.ref R), some (nV g), some (.ref D), some (nV d')] ∧ H'' = H' ∧ a ≤ d' ∧ d' ≤ d0 ∧ d < d', fun σ' H'' ⟨d', e1, e2, e3, e4, e5⟩ => ⟨d0 - d', by omega, d', e1, e2, e3, e4, rfl⟩, ?_⟩
          refine ⟨_, rfl, ⟨_, _, rfl, rfl, ?_⟩⟩
          exact ⟨d + 1, rfl, rfl, by omega, by omega, by omega⟩
end
end K05
namespace K05
open PySem PySem.Spec PyProof.Rows L2 Wd RT
local macro_rules | `(tactic| walk_at "gs") => `(tactic| repeat (first
  | with_reducible refine Wd.g_seq ?_
  | ((with_reducible show L2.Ends.nx _ _ _); (with_reducible refine Wd.g_nx ?_))
  | with_reducible refine Wd.g_asg ?_
  | ((with_reducible refine' Wd.g_var ?h1 ?_); (case h1 => exact rfl))
  | with_reducible refine Wd.g_c ?_
  | with_reducible refine Wd.g_op ?_
  | with_reducible refine Wd.g_un ?_
  | with_reducible refine Wd.g_I0 ?_
  | with_reducible refine Wd.g_U ?_
  | with_reducible refine Wd.g_eqI ?_
  | with_reducible refine Wd.g_neI ?_
  | with_reducible refine Wd.g_eqS ?_
  | with_reducible refine Wd.g_neS ?_
  | with_reducible refine Wd.g_eqB ?_
  | with_reducible refine Wd.g_neB ?_
  | with_reducible refine Wd.g_isN ?_
  | with_reducible refine Wd.g_notN ?_
  | with_reducible refine Wd.g_lc ?_
  | with_reducible refine Wd.g_yes ?_
  | with_reducible refine Wd.g_test ?_
  | with_reducible refine Wd.g_tB ?_
  | with_reducible refine Wd.g_bl ?_
  | with_reducible refine Wd.g_blI ?_
  | with_reducible refine Wd.g_and ?_
  | with_reducible refine Wd.g_or ?_
  | with_reducible refine Wd.g_not ?_
  | with_reducible refine Wd.g_andV ?_
  | with_reducible refine Wd.g_orV ?_
  | with_reducible refine Wd.g_notV ?_
  | with_reducible refine Wd.g_if ?_
  | with_reducible refine Wd.g_chain ?_
  | with_reducible refine Wd.g_chain3 ?_
  | with_reducible refine Wd.g_nil ?_
  | with_reducible refine Wd.g_cons ?_
  | with_reducible refine Wd.g_tup ?_
  | with_reducible refine Wd.g_lst ?_
  | with_reducible refine Wd.g_CB ?_
  | with_reducible refine Wd.g_call ?_
  | with_reducible refine Wd.g_callS ?_
  | with_reducible refine Wd.g_bm ?_
  | with_reducible refine Wd.g_bm0 ?_
  | with_reducible refine Wd.g_sl ?_
  | with_reducible refine Wd.g_part ?_
  | with_reducible refine Wd.g_part1 ?_
  | with_reducible refine Wd.g_noPart ?_
  | with_reducible refine Wd.g_next ?_
  | with_reducible refine Wd.g_name ?_
  | with_reducible refine Wd.g_sub ?_
  | with_reducible refine Wd.g_gnil ?_
  | with_reducible refine Wd.g_gcons ?_
  | with_reducible refine Wd.g_drop ?_
  | with_reducible refine Wd.g_ret ?_
  | with_reducible refine Wd.g_retN ?_
  | with_reducible refine Wd.g_brk ?_
  | with_reducible refine Wd.g_cont ?_
  | ((with_reducible show L2.Ends.bk _ _ _); (with_reducible refine Wd.g_bk ?_))
  | ((with_reducible show L2.Ends.ct _ _ _); (with_reducible refine Wd.g_ct ?_))
  | ((with_reducible show L2.Ends.rt _ _ _); (with_reducible refine Wd.g_rt ?_))
  | with_reducible refine Wd.g_for ?_
  | with_reducible refine Wd.g_rng1 ?_
  | with_reducible refine Wd.g_rng2 ?_
  | with_reducible refine Wd.g_iList ?_
  | with_reducible refine Wd.g_iTup ?_
  | ((with_reducible refine Wd.g_fit ?h1 ?_); (case h1 => exact rfl))
  | with_reducible refine Wd.g_max2 ?_
  | with_reducible refine Wd.g_min2 ?_
  | with_reducible refine Wd.g_int1B ?_
  | with_reducible refine L2.iteT ?_
  | with_reducible refine L2.iteF ?_
  | ((with_reducible refine Wd.g_itT ?h1 ?_); (case h1 => exact rfl))
  | ((with_reducible refine Wd.g_itF ?h1 ?_); (case h1 => exact rfl))))
theorem keepF {N : Addr → Prop} {D : Addr} {H H' : Hp} (nD : N D) (f : Frm D H H') : ∀ b o, ¬ N b → H b = some o → H' b = some o := fun b o nb e => f b o (fun y => nb (by rw [y]; exact nD)) e
theorem frm_trans {D : Addr} {H H1 H2 : Hp} (f : Frm D H H1) (g : Frm D H1 H2) : Frm D H H2 := fun b o n h => g b o n (f b o n h)
theorem g_fld {K : PySem.W.Frag} {te : TE} {f : Str} {σ : L2.St} {H : Hp} {Q : VK} (h : te σ H fun x H1 => ∃ a C dx fs v, x = .ref a ∧ H1 a = some (.ins C dx fs) ∧ Cls K C ∧ NoAttr K C f ∧ fs.lookup f = some v ∧ Q v H1) : tFld K te f σ H Q := h
theorem WaysR.len {Y : Wy} {N : Addr → Prop} {H : Hp} : ∀ {vs : List V} {ps : List Pl} {z g : Nat}, WaysR Y N H vs ps z g → vs.length = ps.length
  | _, _, _, _, .nil => rfl
  | _, _, _, _, .snoc a b => by rw [List.length_append, WaysR.len a]; rfl
theorem WaysR.inv {Y : Wy} {N : Addr → Prop} {H : Hp} {vs : List V} {ps : List Pl} {z g : Nat} (h : WaysR Y N H vs ps z g) :
    (vs = [] ∧ ps = [] ∧ g = z) ∨ ∃ (us : List V) (qs : List Pl) (v : V) (p : Pl) (g1 : Nat), vs = us ++ [v] ∧ ps = p :: qs ∧ WaysR Y N H us qs z g1 ∧ WayA Y N H v p g1 g := by
  cases h with
  | nil => exact .inl ⟨rfl, rfl, rfl⟩
  | snoc a b => exact .inr ⟨_, _, _, _, _, rfl, rfl, a, b⟩
theorem mxs_drop {ps : List Pl} {i : Nat} {p : Pl} {qs : List Pl} (h : ps.drop i = p :: qs) : mxs (ps.drop i) = mx p + mxs (ps.drop (i + 1)) := by
  have : ps.drop (i + 1) = qs := by rw [← List.drop_drop, h]; rfl
  rw [h, this]; simp only [mxs]
section
variable {P : Program} {w : World} {K : PySem.W.Frag} {mg : Str → Option Value} {base : Heap} {CWt WP WK WR WE WL : Addr}
abbrev s_RowWay_lead : Stmt := (C8.clsBody (top 29)).getD 1 (.Pass ⟨0, 0, 0, 0⟩)
theorem sc_RowWay_lead : FnScope ["self", "gap", "delays", "way"] ["self", "gap", "delays"] (C8.fnScope s_RowWay_lead) := C8.fnScope_by (by decide +kernel)
theorem ok_rlead {n : Nat} (T2 : TxtY K WP WK WR WE WL) (T : TxtJ K mg) {f : Addr} {fd : FuncData} (me : Meth K WR "lead" f) (F : C8.Fun K "lead" "RowWay.lead" s_RowWay_lead f fd) (b : Binds K fd ["self", "gap", "delays"] []) (m_lead : MetS P w K mg base (2 + n) (CsL K CWt WP WK WR WE WL n) "lead") :
    C8.Met P w K mg base (3 + n) WR "lead" (sp_ld K CWt WP WK WR WE WL (n + 1) 2) [] := by
  have lv : 3 + n = (2 + n) + 1 := by omega
  rw [lv]
  refine C8.met0 T2.cR me F b sc_RowWay_lead (fun vs H Q E h => ?_) fun cdv A outer s H vs Q E hr h => ?_
  · obtain ⟨N, v, D, Wt, ds, p, g, lo, hi, l, z, gz, _, rfl, _⟩ := h; rfl
  · obtain ⟨N, v, D, Wt, ds, p, g, lo, hi, l, z, gz, hs, rfl, wa, nD, ⟨dw, hW⟩, l1, hD, ok, hg, ht, hm, q⟩ := h
    have nd := sc_RowWay_lead.nd
    refine ⟨_, (pss_cons (ps_for PassesOwn.never rfl (pi_revA (by rfl) T.n_reversed (pe_fld (pv 0) rfl)) (pg_name (i := 3) nd rfl (Or.inl rfl)) (pss_one (ps_set (i := 1) nd rfl (Or.inl rfl) (pe_mtS m_lead hr (by first | decide | exact Nat.le_refl _ | omega) (pv 3) (pa_cons (pv 1) (pa_cons (pv 2) pa_nil))))))
      (pss_one (ps_ret (pv 1)))), ?_⟩
    cases wa with
    | pat _ _ _ => cases hs
    | work _ _ _ => cases hs
    | either _ _ _ _ _ _ => cases hs
    | loop _ _ _ _ _ _ _ _ _ => cases hs
    | @row R dx L vs ps _ _ h nR hL nL wr bt =>
      unfold okP at ok
      have nRD : R ≠ D := fun y => nR (by rw [y]; exact nD)
      have nLD : L ≠ D := fun y => nL (by rw [y]; exact nD)
      have nWD : Wt ≠ D := ne_of hW hD (fun y => nomatch y)
      have vl := wr.len
      walk_at "go"
      refine g_rev ?_
      refine g_fldV rfl h T2.cR T2.rY rfl ?_
      refine w_revL (xs := vs) (fun i σ H' => ∃ (gi g1 : Nat) (as : List Int) (v3 : Option V), σ = [some (.ref R), some (nV g1), some (.ref D), v3] ∧ Frm D H H' ∧ H' D = some (.lst ((ds ++ as).map V.int)) ∧ WaysR ⟨WP, WK, WR, WE, WL, Wt, lo, hi⟩ N H' (vs.take (vs.length - i)) (ps.drop i) z gi ∧ gi.testBit g1 = true ∧ g1 ≤ hi + 1 ∧
        (∀ b g2, Go lo hi (rns (ps.drop i)) g1 b g2 → Go lo hi (rns ps) g (as ++ b) g2) ∧ as.length + mxs (ps.drop i) ≤ mxs ps) ?_ ?_ ?_ ?_
      · exact ⟨gz, g, [], _, rfl, fun b o _ h => h, by rw [List.append_nil]; exact hD, by rw [Nat.sub_zero, List.take_length]; exact wr, ht, hg, fun b g2 h => h, by rw [List.length_nil, List.drop_zero]; omega⟩
      · rintro i σ H' ⟨gi, g1, as, v3, rfl, f1, _⟩
        exact SqL.of (f1 _ _ nLD hL)
      · rintro i x σ H' hi' hx ⟨gi, g1, as, v3, rfl, f1, e1, w1, t1, le1, go1, m1⟩
        rcases w1.inv with ⟨y, _⟩ | ⟨us, qs, v, p, g', eu, ep, w2, wa⟩
        · have := congrArg List.length y
          rw [List.length_take, List.length_nil] at this
          omega
        have ul : us.length = vs.length - 1 - i := by
          have := congrArg List.length eu
          rw [List.length_take, List.length_append, List.length_singleton] at this
          omega
        have ev : us = vs.take (vs.length - (i + 1)) ∧ x = v := by
          have h1 : (vs.take (vs.length - i))[vs.length - 1 - i]? = some x := by rw [List.getElem?_take_of_lt (by omega)]; exact hx
          rw [eu, ← ul, List.getElem?_concat_length] at h1
          refine ⟨?_, (Option.some.inj h1).symm⟩
          have h2 := congrArg (List.take us.length) eu
          rw [List.take_take, List.take_left] at h2
          rw [← h2]
          congr 1
          omega
        obtain ⟨rfl, rfl⟩ : us = vs.take (vs.length - (i + 1)) ∧ v = x := ⟨ev.1, ev.2.symm⟩
        have eq : ps.drop (i + 1) = qs := by rw [← List.drop_drop, ep]; rfl
        have pk : ps[i]? = some p := by
          have := congrArg (·[0]?) ep
          simp only [List.getElem?_drop, Nat.add_zero] at this
          exact this
        have md := mxs_drop ep
        have mrow : mx (.row ps) = mxs ps := by simp only [mx]
        walk_at "go"
        refine g_mtS ?_
        walk_at "go"
        refine use_ldV (l := l) rfl rfl wa nD ⟨dw, f1 _ _ nWD hW⟩ l1 e1 (okPs_at ok.2.2 pk) le1 t1 (by rw [List.length_append]; omega) fun H2 as2 g2 f2 e2 go2 t2 le2 m2 => ?_
        walk_at "go"
        refine ⟨g', g2, as ++ as2, _, rfl, frm_trans f1 f2, by rw [← List.append_assoc]; exact e2, by rw [eq]; exact WaysR.keep (keepF nD f2) w2, t2, le2, fun b g3 hb => ?_, by rw [List.length_append]; omega⟩
        rw [List.append_assoc]
        refine go1 _ _ ?_
        rw [ep, ← eq]
        exact go_cons go2 hb
      · rintro σ H' ⟨gi, g1, as, v3, rfl, f1, e1, w1, t1, le1, go1, m1⟩
        rw [Nat.sub_self, List.take_zero] at w1
        rw [vl, List.drop_length] at w1 go1
        rcases w1.inv with ⟨_, _, rfl⟩ | ⟨us, qs, v, p, g', eu, _⟩
        · walk_at "go"
          refine q _ as g1 f1 e1 (go_row (by have := go1 [] g1 go_nil; rw [List.append_nil] at this; exact this)) t1 le1 (by simp only [mx]; omega)
        · exact absurd (congrArg List.length eu) (by rw [List.length_append]; exact fun y => nomatch y)
end
end K05
namespace K05
open PySem PySem.Spec PyProof.Rows L2 Wd RT
local macro_rules | `(tactic| walk_at "gs") => `(tactic| repeat (first
  | with_reducible refine Wd.g_seq ?_
  | ((with_reducible show L2.Ends.nx _ _ _); (with_reducible refine Wd.g_nx ?_))
  | with_reducible refine Wd.g_asg ?_
  | ((with_reducible refine' Wd.g_var ?h1 ?_); (case h1 => exact rfl))
  | with_reducible refine Wd.g_c ?_
  | with_reducible refine Wd.g_op ?_
  | with_reducible refine Wd.g_un ?_
  | with_reducible refine Wd.g_I0 ?_
  | with_reducible refine Wd.g_U ?_
  | with_reducible refine Wd.g_eqI ?_
  | with_reducible refine Wd.g_neI ?_
  | with_reducible refine Wd.g_eqS ?_
  | with_reducible refine Wd.g_neS ?_
  | with_reducible refine Wd.g_eqB ?_
  | with_reducible refine Wd.g_neB ?_
  | with_reducible refine Wd.g_isN ?_
  | with_reducible refine Wd.g_notN ?_
  | with_reducible refine Wd.g_lc ?_
  | with_reducible refine Wd.g_yes ?_
  | with_reducible refine Wd.g_test ?_
  | with_reducible refine Wd.g_tB ?_
  | with_reducible refine Wd.g_bl ?_
  | with_reducible refine Wd.g_blI ?_
  | with_reducible refine Wd.g_and ?_
  | with_reducible refine Wd.g_or ?_
  | with_reducible refine Wd.g_not ?_
  | with_reducible refine Wd.g_andV ?_
  | with_reducible refine Wd.g_orV ?_
  | with_reducible refine Wd.g_notV ?_
  | with_reducible refine Wd.g_if ?_
  | with_reducible refine Wd.g_chain ?_
  | with_reducible refine Wd.g_chain3 ?_
  | with_reducible refine Wd.g_nil ?_
  | with_reducible refine Wd.g_cons ?_
  | with_reducible refine Wd.g_tup ?_
  | with_reducible refine Wd.g_lst ?_
  | with_reducible refine Wd.g_CB ?_
  | with_reducible refine Wd.g_call ?_
  | with_reducible refine Wd.g_callS ?_
  | with_reducible refine Wd.g_bm ?_
  | with_reducible refine Wd.g_bm0 ?_
  | with_reducible refine Wd.g_sl ?_
  | with_reducible refine Wd.g_part ?_
  | with_reducible refine Wd.g_part1 ?_
  | with_reducible refine Wd.g_noPart ?_
  | with_reducible refine Wd.g_next ?_
  | with_reducible refine Wd.g_name ?_
  | with_reducible refine Wd.g_sub ?_
  | with_reducible refine Wd.g_gnil ?_
  | with_reducible refine Wd.g_gcons ?_
  | with_reducible refine Wd.g_drop ?_
  | with_reducible refine Wd.g_ret ?_
  | with_reducible refine Wd.g_retN ?_
  | with_reducible refine Wd.g_brk ?_
  | with_reducible refine Wd.g_cont ?_
  | ((with_reducible show L2.Ends.bk _ _ _); (with_reducible refine Wd.g_bk ?_))
  | ((with_reducible show L2.Ends.ct _ _ _); (with_reducible refine Wd.g_ct ?_))
  | ((with_reducible show L2.Ends.rt _ _ _); (with_reducible refine Wd.g_rt ?_))
  | with_reducible refine Wd.g_for ?_
  | with_reducible refine Wd.g_rng1 ?_
  | with_reducible refine Wd.g_rng2 ?_
  | with_reducible refine Wd.g_iList ?_
  | with_reducible refine Wd.g_iTup ?_
  | ((with_reducible refine Wd.g_fit ?h1 ?_); (case h1 => exact rfl))
  | with_reducible refine Wd.g_max2 ?_
  | with_reducible refine Wd.g_min2 ?_
  | with_reducible refine Wd.g_int1B ?_
  | with_reducible refine L2.iteT ?_
  | with_reducible refine L2.iteF ?_
  | ((with_reducible refine Wd.g_itT ?h1 ?_); (case h1 => exact rfl))
  | ((with_reducible refine Wd.g_itF ?h1 ?_); (case h1 => exact rfl))))
theorem ledE_at {lo hi : Nat} {G : Nat → Prop} {g : Nat} : ∀ {ps : List Pl}, LedE lo hi ps G g → ∃ (k : Nat) (p : Pl), ps[k]? = some p ∧ Led lo hi p G g
  | [], h => by unfold LedE at h; exact h.elim
  | p :: ps, h => by
    unfold LedE at h
    rcases h with h | h
    · exact ⟨0, p, rfl, h⟩
    · obtain ⟨k, q, h1, h2⟩ := ledE_at h
      exact ⟨k + 1, q, h1, h2⟩
theorem WaysE.at2 {Y : Wy} {N : Addr → Prop} {H : Hp} : ∀ {vs : List V} {ps : List Pl} {z i : Nat} {p : Pl}, WaysE Y N H vs ps z → ps[i]? = some p → ∃ v g, vs[i]? = some v ∧ WayA Y N H v p z g
  | _, _, _, _, _, .nil, h => nomatch h
  | _, _, _, 0, _, .cons (v := v) (g := g) a b, h => by cases h; exact ⟨v, g, rfl, a⟩
  | _, _, _, i + 1, _, .cons a b, h => WaysE.at2 (i := i) b h
section
variable {P : Program} {w : World} {K : PySem.W.Frag} {mg : Str → Option Value} {base : Heap} {CWt WP WK WR WE WL : Addr}
abbrev s_EitherWay_lead : Stmt := (C8.clsBody (top 30)).getD 1 (.Pass ⟨0, 0, 0, 0⟩)
theorem sc_EitherWay_lead : FnScope ["self", "gap", "delays", "which"] ["self", "gap", "delays"] (C8.fnScope s_EitherWay_lead) := C8.fnScope_by (by decide +kernel)
theorem ok_elead {n : Nat} (T2 : TxtY K WP WK WR WE WL) (T : TxtJ K mg) {f : Addr} {fd : FuncData} (me : Meth K WE "lead" f) (F : C8.Fun K "lead" "EitherWay.lead" s_EitherWay_lead f fd) (b : Binds K fd ["self", "gap", "delays"] []) (m_lead : MetS P w K mg base (2 + n) (CsL K CWt WP WK WR WE WL n) "lead") (g_holds : C8.Cal P w K mg base 1 "holds" sp_holds []) :
    C8.Met P w K mg base (3 + n) WE "lead" (sp_ld K CWt WP WK WR WE WL (n + 1) 3) [] := by
  have lv : 3 + n = (2 + n) + 1 := by omega
  rw [lv]
  refine C8.met0 T2.cE me F b sc_EitherWay_lead (fun vs H Q E h => ?_) fun cdv A outer s H vs Q E hr h => ?_
  · obtain ⟨N, v, D, Wt, ds, p, g, lo, hi, l, z, gz, _, rfl, _⟩ := h; rfl
  · obtain ⟨N, v, D, Wt, ds, p, g, lo, hi, l, z, gz, hs, rfl, wa, nD, ⟨dw, hW⟩, l1, hD, ok, hg, ht, hm, q⟩ := h
    have nd := sc_EitherWay_lead.nd
    refine ⟨_, (pss_cons (ps_set (i := 3) nd rfl (Or.inl rfl) pe_int)
      (pss_cons (ps_while PassesOwn.never (pt_not (pt_val (C8.pe_c g_holds hr (by first | decide | exact Nat.le_refl _ | omega) (by rfl) (pa_cons (pe_fld (pe_ix (r := rIxL K) ix_list (pe_fld (pv 0) rfl) (pv 3) (fun _ _ => rfl)) rfl) (pa_cons (pv 1) pa_nil))))) (pss_one (ps_aug (i := 3) nd rfl (Or.inl rfl) pe_int ip_add)))
      (pss_cons (ps_expr (pe_bmK (K := K) rfl PySem.F.plainAttrs_list PySem.F.slot_list_append PySem.F.type_list_append mt_append (pv 2) (pa_cons (pv 3) pa_nil)))
      (pss_one (ps_ret (pe_mtS m_lead hr (by first | decide | exact Nat.le_refl _ | omega) (pe_ix (r := rIxL K) ix_list (pe_fld (pv 0) rfl) (pv 3) (fun _ _ => rfl)) (pa_cons (pv 1) (pa_cons (pv 2) pa_nil)))))))), ?_⟩
    cases wa with
    | pat _ _ _ => cases hs
    | work _ _ _ => cases hs
    | row _ _ _ _ _ _ => cases hs
    | loop _ _ _ _ _ _ _ _ _ => cases hs
    | @either R dx L vs ps _ _ h nR hL nL we bt =>
      unfold okP at ok
      have nRD : R ≠ D := fun y => nR (by rw [y]; exact nD)
      have nLD : L ≠ D := fun y => nL (by rw [y]; exact nD)
      have nWD : Wt ≠ D := ne_of hW hD (fun y => nomatch y)
      have hz := (bt.bit g hg).mp ht
      unfold Led at hz
      obtain ⟨k0, p0, pk0, led0⟩ := ledE_at hz
      obtain ⟨v0, g0, vk0, wa0⟩ := we.at2 pk0
      have t0 := (wa0.bits.bit g hg).mpr led0
      have vl := we.len
      have k0l : k0 < vs.length := (List.getElem?_eq_some_iff.mp vk0).1
      walk_at "go"
      refine w_loop (fun k σ H' => ∃ d : Nat, σ = [some (.ref R), some (nV g), some (.ref D), some (nV d)] ∧ H' = H ∧ d ≤ k0 ∧ k = k0 - d) k0 ?_ ?_
      · exact ⟨0, rfl, rfl, Nat.zero_le _, rfl⟩
      · rintro k σ H' ⟨d, rfl, rfl, c2, rfl⟩
        obtain ⟨v, hv⟩ : ∃ v, vs[d]? = some v := ⟨vs[d], List.getElem?_eq_getElem (by omega)⟩
        obtain ⟨p, gp, hp, wa⟩ := we.at hv
        obtain ⟨R', C', dx', fs', ev, hR', _, cls', na', lk', _⟩ := WayA.at_ (K := K) T2 wa
        have atv : atI vs (d : Int) = some v := at_of (j := d) (by omega) hv
        walk_at "go"
        refine g_fld ?_
        walk_at "go"
        refine g_fldV rfl h T2.cE T2.eY rfl ?_
        walk_at "go"
        refine g_ixL (SqL.of hL) atv ?_
        refine ⟨R', C', dx', fs', nV gp, ev, hR', cls', na', lk', ?_⟩
        walk_at "go"
        refine ⟨gp, g, rfl, ?_⟩
        refine ⟨_, rfl, ?_⟩
        by_cases c : gp.testBit g = true
        · rw [if_neg (by rw [c]; exact Bool.false_ne_true)]
          walk_at "go"
          refine g_tyL hD ?_
          walk_at "go"
          have dl : ds.length < 16000000 := by omega
          refine ⟨_, _, _, rfl, rfl, hD, by rw [List.length_map]; exact Nat.lt_of_lt_of_le dl (by decide), ?_⟩
          have eD := upd_same (H := H') (a := D) (o := .lst (ds.map V.int ++ [nV d]))
          have eR := (upd_ne (H := H') (o := .lst (ds.map V.int ++ [nV d])) nRD).trans h
          have eL := (upd_ne (H := H') (o := .lst (ds.map V.int ++ [nV d])) nLD).trans hL
          have eW := (upd_ne (H := H') (o := .lst (ds.map V.int ++ [nV d])) nWD).trans hW
          have fD : Frm D H' (upd H' D (.lst (ds.map V.int ++ [nV d]))) := .set
          have wa2 := WayA.keep (keepN (o := .lst (ds.map V.int ++ [nV d])) nD) wa
          generalize upd H' D (.lst (ds.map V.int ++ [nV d])) = H2 at eD eR eL eW fD wa2 ⊢
          have eD2 : H2 D = some (.lst ((ds ++ [(d : Int)]).map V.int)) := by rw [eD, List.map_append]; rfl
          have mxp := mx_either hp
          walk_at "go"
          refine g_mtS ?_
          walk_at "go"
          refine g_fldV rfl eR T2.cE T2.eY rfl ?_
          walk_at "go"
          refine g_ixL (SqL.of eL) atv ?_
          refine use_ldV (l := l) rfl rfl wa2 nD ⟨dw, eW⟩ l1 eD2 (okPs_at ok.2.2 hp) hg c (by rw [List.length_append, List.length_singleton]; omega) fun H3 as2 g2 f3 e3 go3 t3 le3 m3 => ?_
          walk_at "go"
          refine q H3 ((d : Int) :: as2) g2 (frm_trans fD f3) (by rw [e3, List.append_assoc]; rfl) (go_either hp go3) t3 le3 (by rw [List.length_cons]; omega)
        · rw [if_pos (by rw [Bool.not_eq_true] at c; rw [c]; rfl)]
          have ne : d ≠ k0 := fun y => by
            subst y
            rw [hv] at vk0
            obtain rfl := Option.some.inj vk0
            rw [hp] at pk0
            obtain rfl := Option.some.inj pk0
            exact c ((wa.bits.bit g hg).mpr led0)
          refine ⟨fun σ' H'' => ∃ d' : Nat, σ' = [some (.ref R), some (nV g), some (.ref D), some (nV d')] ∧ H'' = H' ∧ d' ≤ k0 ∧ d < d', fun σ' H'' ⟨d', e1, e2, e4, e5⟩ => ⟨k0 - d', by omega, d', e1, e2, e4, rfl⟩, ?_⟩
          refine ⟨_, rfl, ⟨_, _, rfl, rfl, ?_⟩⟩
          exact ⟨d + 1, rfl, rfl, by omega, by omega⟩
end
end K05
namespace K05
open PySem PySem.Spec PyProof.Rows L2 Wd RT
local macro_rules | `(tactic| walk_at "gs") => `(tactic| repeat (first
  | with_reducible refine Wd.g_seq ?_
  | ((with_reducible show L2.Ends.nx _ _ _); (with_reducible refine Wd.g_nx ?_))
  | with_reducible refine Wd.g_asg ?_
  | ((with_reducible refine' Wd.g_var ?h1 ?_); (case h1 => exact rfl))
  | with_reducible refine Wd.g_c ?_
  | with_reducible refine Wd.g_op ?_
  | with_reducible refine Wd.g_un ?_
  | with_reducible refine Wd.g_I0 ?_
  | with_reducible refine Wd.g_U ?_
  | with_reducible refine Wd.g_eqI ?_
  | with_reducible refine Wd.g_neI ?_
  | with_reducible refine Wd.g_eqS ?_
  | with_reducible refine Wd.g_neS ?_
  | with_reducible refine Wd.g_eqB ?_
  | with_reducible refine Wd.g_neB ?_
  | with_reducible refine Wd.g_isN ?_
  | with_reducible refine Wd.g_notN ?_
  | with_reducible refine Wd.g_lc ?_
  | with_reducible refine Wd.g_yes ?_
  | with_reducible refine Wd.g_test ?_
  | with_reducible refine Wd.g_tB ?_
  | with_reducible refine Wd.g_bl ?_
  | with_reducible refine Wd.g_blI ?_
  | with_reducible refine Wd.g_and ?_
  | with_reducible refine Wd.g_or ?_
  | with_reducible refine Wd.g_not ?_
  | with_reducible refine Wd.g_andV ?_
  | with_reducible refine Wd.g_orV ?_
  | with_reducible refine Wd.g_notV ?_
  | with_reducible refine Wd.g_if ?_
  | with_reducible refine Wd.g_chain ?_
  | with_reducible refine Wd.g_chain3 ?_
  | with_reducible refine Wd.g_nil ?_
  | with_reducible refine Wd.g_cons ?_
  | with_reducible refine Wd.g_tup ?_
  | with_reducible refine Wd.g_lst ?_
  | with_reducible refine Wd.g_CB ?_
  | with_reducible refine Wd.g_call ?_
  | with_reducible refine Wd.g_callS ?_
  | with_reducible refine Wd.g_bm ?_
  | with_reducible refine Wd.g_bm0 ?_
  | with_reducible refine Wd.g_sl ?_
  | with_reducible refine Wd.g_part ?_
  | with_reducible refine Wd.g_part1 ?_
  | with_reducible refine Wd.g_noPart ?_
  | with_reducible refine Wd.g_next ?_
  | with_reducible refine Wd.g_name ?_
  | with_reducible refine Wd.g_sub ?_
  | with_reducible refine Wd.g_gnil ?_
  | with_reducible refine Wd.g_gcons ?_
  | with_reducible refine Wd.g_drop ?_
  | with_reducible refine Wd.g_ret ?_
  | with_reducible refine Wd.g_retN ?_
  | with_reducible refine Wd.g_brk ?_
  | with_reducible refine Wd.g_cont ?_
  | ((with_reducible show L2.Ends.bk _ _ _); (with_reducible refine Wd.g_bk ?_))
  | ((with_reducible show L2.Ends.ct _ _ _); (with_reducible refine Wd.g_ct ?_))
  | ((with_reducible show L2.Ends.rt _ _ _); (with_reducible refine Wd.g_rt ?_))
  | with_reducible refine Wd.g_for ?_
  | with_reducible refine Wd.g_rng1 ?_
  | with_reducible refine Wd.g_rng2 ?_
  | with_reducible refine Wd.g_iList ?_
  | with_reducible refine Wd.g_iTup ?_
  | ((with_reducible refine Wd.g_fit ?h1 ?_); (case h1 => exact rfl))
  | with_reducible refine Wd.g_max2 ?_
  | with_reducible refine Wd.g_min2 ?_
  | with_reducible refine Wd.g_int1B ?_
  | with_reducible refine L2.iteT ?_
  | with_reducible refine L2.iteF ?_
  | ((with_reducible refine Wd.g_itT ?h1 ?_); (case h1 => exact rfl))
  | ((with_reducible refine Wd.g_itF ?h1 ?_); (case h1 => exact rfl))))
theorem cut_to {α : Type} (l : List α) (f : α → V) {b : Nat} (hb : b ≤ l.length) : cutV (l.map f) none (some (b : Int)) = (l.take b).map f := by
  unfold cutV
  rw [HT.sIx_nat, HT.sIx_none, List.length_map, Nat.min_eq_left hb, List.drop_zero, Nat.sub_zero, List.map_take]
theorem cut_toV (l : List V) {b : Nat} (hb : b ≤ l.length) : cutV l none (some (b : Int)) = l.take b := by
  have := cut_to l id hb
  rw [List.map_id, List.map_id] at this
  exact this
theorem WaysL.bit {Y : Wy} {N : Addr → Prop} {H : Hp} : ∀ {ts : List V} {p : Pl} {z : Nat} {zs : List Nat}, WaysL Y N H ts p z zs → ∀ {n g : Nat}, zs[n]? = some g → ∀ i, i ≤ Y.hi + 1 → (g.testBit i = true ↔ iterP (Led Y.lo Y.hi p) n (inS z) i)
  | _, _, z, _, .nil, n, g, e => by
    match n, e with
    | 0, e =>
      obtain rfl : z = g := Option.some.inj e
      exact fun i _ => Iff.rfl
  | _, p, z, _, .snoc (ts := ts) (zs := zs) (g := g1) (g2 := g2) a b, n, g, e => by
    by_cases c : n < (zs ++ [g1]).length
    · rw [List.getElem?_append_left c] at e
      exact WaysL.bit a e
    · have c2 : n < (zs ++ [g1] ++ [g2]).length := (List.getElem?_eq_some_iff.mp e).1
      have en : n = (zs ++ [g1]).length := by rw [List.length_append (bs := [g2]), List.length_singleton] at c2; omega
      subst en
      rw [List.getElem?_concat_length] at e
      obtain rfl : g2 = g := Option.some.inj e
      have b1 := WaysL.bit a (n := zs.length) (g := g1) List.getElem?_concat_length
      rw [List.length_append, List.length_singleton]
      refine fun i hi' => (b.bits.bit i hi').trans ?_
      show Led Y.lo Y.hi p (inS g1) i ↔ Led Y.lo Y.hi p (iterP (Led Y.lo Y.hi p) zs.length (inS z)) i
      exact ⟨Led.congr p (fun j hj x => (b1 j hj).mp x) i hi', Led.congr p (fun j hj x => (b1 j hj).mpr x) i hi'⟩
theorem WaysL.zero {Y : Wy} {N : Addr → Prop} {H : Hp} : ∀ {ts : List V} {p : Pl} {z : Nat} {zs : List Nat}, WaysL Y N H ts p z zs → zs[0]? = some z
  | _, _, _, _, .nil => rfl
  | _, _, _, _, .snoc (zs := zs) (g := g) a b => by
    rw [List.getElem?_append_left (by rw [List.length_append, List.length_singleton]; omega)]
    exact WaysL.zero a
theorem WaysL.at {Y : Wy} {N : Addr → Prop} {H : Hp} : ∀ {ts : List V} {p : Pl} {z : Nat} {zs : List Nat}, WaysL Y N H ts p z zs → ∀ {k : Nat} {v : V}, ts[k]? = some v → ∃ g g2, zs[k]? = some g ∧ zs[k + 1]? = some g2 ∧ WayA Y N H v p g g2
  | _, _, _, _, .nil, k, v, e => nomatch e
  | _, p, z, _, .snoc (ts := ts) (zs := zs) (v := v1) (g := g1) (g2 := g2) a b, k, v, e => by
    have al := a.len
    rw [List.length_append, List.length_singleton] at al
    by_cases c : k < ts.length
    · rw [List.getElem?_append_left c] at e
      obtain ⟨g, g', h1, h2, h3⟩ := WaysL.at a e
      exact ⟨g, g', by rw [List.getElem?_append_left (by rw [List.length_append, List.length_singleton]; omega)]; exact h1, by rw [List.getElem?_append_left (by rw [List.length_append, List.length_singleton]; omega)]; exact h2, h3⟩
    · have c2 : k < (ts ++ [v1]).length := (List.getElem?_eq_some_iff.mp e).1
      have en : k = ts.length := by rw [List.length_append, List.length_singleton] at c2; omega
      subst en
      rw [List.getElem?_concat_length] at e
      obtain rfl : v1 = v := Option.some.inj e
      have el : ts.length = zs.length := by omega
      refine ⟨g1, g2, ?_, ?_, b⟩
      · rw [el, List.getElem?_append_left (by rw [List.length_append, List.length_singleton]; omega)]
        exact List.getElem?_concat_length
      · have : ts.length + 1 = (zs ++ [g1]).length := by rw [List.length_append, List.length_singleton, el]
        rw [this]
        exact List.getElem?_concat_length
section
variable {P : Program} {w : World} {K : PySem.W.Frag} {mg : Str → Option Value} {base : Heap} {CWt WP WK WR WE WL : Addr}
abbrev s_LoopWay_lead : Stmt := (C8.clsBody (top 31)).getD 1 (.Pass ⟨0, 0, 0, 0⟩)
theorem sc_LoopWay_lead : FnScope ["self", "gap", "delays", "times", "way"] ["self", "gap", "delays"] (C8.fnScope s_LoopWay_lead) := C8.fnScope_by (by decide +kernel)
theorem ok_llead {n : Nat} (T2 : TxtY K WP WK WR WE WL) (T : TxtJ K mg) {f : Addr} {fd : FuncData} (me : Meth K WL "lead" f) (F : C8.Fun K "lead" "LoopWay.lead" s_LoopWay_lead f fd) (b : Binds K fd ["self", "gap", "delays"] []) (m_lead : MetS P w K mg base (2 + n) (CsL K CWt WP WK WR WE WL n) "lead") (g_holds : C8.Cal P w K mg base 1 "holds" sp_holds []) :
    C8.Met P w K mg base (3 + n) WL "lead" (sp_ld K CWt WP WK WR WE WL (n + 1) 4) [] := by
  have lv : 3 + n = (2 + n) + 1 := by omega
  rw [lv]
  refine C8.met0 T2.cL me F b sc_LoopWay_lead (fun vs H Q E h => ?_) fun cdv A outer s H vs Q E hr h => ?_
  · obtain ⟨N, v, D, Wt, ds, p, g, lo, hi, l, z, gz, _, rfl, _⟩ := h; rfl
  · obtain ⟨N, v, D, Wt, ds, p, g, lo, hi, l, z, gz, hs, rfl, wa, nD, ⟨dw, hW⟩, l1, hD, ok, hg, ht, hm, q⟩ := h
    have nd := sc_LoopWay_lead.nd
    refine ⟨_, (pss_cons (ps_set (i := 3) nd rfl (Or.inl rfl) (pe_fld (pv 0) rfl))
      (pss_cons (ps_while PassesOwn.never (pt_not (pt_val (C8.pe_c g_holds hr (by first | decide | exact Nat.le_refl _ | omega) (by rfl) (pa_cons (pe_ix (r := rIxL K) ix_list (pe_fld (pv 0) rfl) (pv 3) (fun _ _ => rfl)) (pa_cons (pv 1) pa_nil))))) (pss_one (ps_aug (i := 3) nd rfl (Or.inl rfl) pe_int ip_add)))
      (pss_cons (ps_expr (pe_bmK (K := K) rfl PySem.F.plainAttrs_list PySem.F.slot_list_append PySem.F.type_list_append mt_append (pv 2) (pa_cons (pv 3) pa_nil)))
      (pss_cons (ps_for PassesOwn.never rfl (pi_revA (by rfl) T.n_reversed (pe_slice (r := rSlL K) sl_list (pe_fld (pv 0) rfl) po_none (po_some (pv 3)))) (pg_name (i := 4) nd rfl (Or.inl rfl)) (pss_one (ps_set (i := 1) nd rfl (Or.inl rfl) (pe_mtS m_lead hr (by first | decide | exact Nat.le_refl _ | omega) (pv 4) (pa_cons (pv 1) (pa_cons (pv 2) pa_nil))))))
      (pss_one (ps_ret (pv 1))))))), ?_⟩
    cases wa with
    | pat _ _ _ => cases hs
    | work _ _ _ => cases hs
    | row _ _ _ _ _ _ => cases hs
    | either _ _ _ _ _ _ => cases hs
    | @loop R dx TT O ts zs p a b _ _ h nR hT nT hO nO wl tl bt =>
      match l, ok with
      | 0, ok => unfold okP at ok; exact ok.elim
      | l + 1, ok =>
      unfold okP at ok
      have nRD : R ≠ D := fun y => nR (by rw [y]; exact nD)
      have nTD : TT ≠ D := fun y => nT (by rw [y]; exact nD)
      have nOD : O ≠ D := fun y => nO (by rw [y]; exact nD)
      have nWD : Wt ≠ D := ne_of hW hD (fun y => nomatch y)
      have hz := (bt.bit g hg).mp ht
      unfold Led at hz
      obtain ⟨n0, b1, b2, b3⟩ := hz
      have zl := wl.len
      have mxl : mx (.loop a b p) = 1 + 9 * mx p := by simp only [mx]
      walk_at "go"
      refine g_fldV rfl h T2.cL T2.lL rfl ?_
      refine w_loop (fun k σ H' => ∃ (d : Nat) (v4 : Option V), σ = [some (.ref R), some (nV g), some (.ref D), some (nV d), v4] ∧ H' = H ∧ a ≤ d ∧ d ≤ n0 ∧ k = n0 - d) (n0 - a) ?_ ?_
      · exact ⟨a, _, rfl, rfl, Nat.le_refl _, by omega, rfl⟩
      · rintro k σ H' ⟨d, v4, rfl, rfl, c1, c2, rfl⟩
        obtain ⟨gd, hgd⟩ : ∃ v, zs[d]? = some v := ⟨zs[d], List.getElem?_eq_getElem (by omega)⟩
        have bd := wl.bit hgd g hg
        walk_at "go"
        refine g_fldV rfl h T2.cL T2.lO rfl ?_
        walk_at "go"
        refine g_ixL (SqL.of hO) (atN (i := d) rfl hgd) ?_
        walk_at "go"
        refine ⟨gd, g, rfl, ?_⟩
        refine ⟨_, rfl, ?_⟩
        by_cases c : gd.testBit g = true
        · rw [if_neg (by rw [c]; exact Bool.false_ne_true)]
          walk_at "go"
          refine g_tyL hD ?_
          walk_at "go"
          have dl : ds.length < 16000000 := by omega
          refine ⟨_, _, _, rfl, rfl, hD, by rw [List.length_map]; exact Nat.lt_of_lt_of_le dl (by decide), ?_⟩
          have eD := upd_same (H := H') (a := D) (o := .lst (ds.map V.int ++ [nV d]))
          have eR := (upd_ne (H := H') (o := .lst (ds.map V.int ++ [nV d])) nRD).trans h
          have eT := (upd_ne (H := H') (o := .lst (ds.map V.int ++ [nV d])) nTD).trans hT
          have eW := (upd_ne (H := H') (o := .lst (ds.map V.int ++ [nV d])) nWD).trans hW
          have fD : Frm D H' (upd H' D (.lst (ds.map V.int ++ [nV d]))) := .set
          have wl2 := WaysL.keep (keepN (o := .lst (ds.map V.int ++ [nV d])) nD) wl
          generalize upd H' D (.lst (ds.map V.int ++ [nV d])) = H2 at eD eR eT eW fD wl2 ⊢
          have eD2 : H2 D = some (.lst ((ds ++ [(d : Int)]).map V.int)) := by rw [eD, List.map_append]; rfl
          walk_at "go"
          refine g_rev ?_
          walk_at "go"
          refine g_fldV rfl eR T2.cL T2.lT rfl ?_
          walk_at "go"
          refine g_slL (SqL.of eT) fun S hS => ?_
          rw [cut_toV _ (by omega)]
          have sS := same_new (o := .lst (ts.take d)) hS
          have eS := upd_same (H := H2) (a := S) (o := .lst (ts.take d))
          have nSD : S ≠ D := fun y => by rw [y, eD2] at hS; cases hS
          have fS := frm_trans fD (.of sS)
          have eD3 := sS _ _ eD2
          have eW3 := sS _ _ eW
          have wl3 := WaysL.same sS wl2
          generalize upd H2 S (.lst (ts.take d)) = H3 at sS eS fS eD3 eW3 wl3
          have tdl : (ts.take d).length = d := by rw [List.length_take]; omega
          refine w_revL (xs := ts.take d) (fun i σ H4 => ∃ (gi g1 : Nat) (as : List Int) (v4 : Option V), σ = [some (.ref R), some (nV g1), some (.ref D), some (nV d), v4] ∧ Frm D H3 H4 ∧ H4 D = some (.lst ((ds ++ (d : Int) :: as).map V.int)) ∧ zs[d - i]? = some gi ∧ gi.testBit g1 = true ∧ g1 ≤ hi + 1 ∧
            (∀ b g2, Go lo hi (iter (rn p) (d - i)) g1 b g2 → Go lo hi (iter (rn p) d) g (as ++ b) g2) ∧ as.length ≤ i * mx p) ?_ ?_ ?_ ?_
          · exact ⟨gd, g, [], _, rfl, fun b o _ h => h, by rw [eD3], hgd, c, hg, fun b g2 h => h, Nat.zero_le _⟩
          · rintro i σ H4 ⟨gi, g1, as, v4, rfl, f1, _⟩
            exact SqL.of (f1 _ _ nSD eS)
          · rintro i x σ H4 hi' hx ⟨gi, g1, as, v4, rfl, f1, e1, z1, t1, le1, go1, m1⟩
            rw [tdl] at hi' hx
            rw [List.getElem?_take_of_lt (by omega)] at hx
            obtain ⟨g3, g4, h3, h4, wa⟩ := wl3.at hx
            have ei : d - 1 - i + 1 = d - i := by omega
            rw [ei, z1] at h4
            obtain rfl := Option.some.inj h4
            have wa4 := WayA.keep (keepF nD f1) wa
            have e9 := Nat.mul_le_mul_right (mx p) (show i + 1 ≤ 9 by omega)
            rw [Nat.succ_mul] at e9
            walk_at "go"
            refine g_mtS ?_
            walk_at "go"
            refine use_ldV (l := l) rfl rfl wa4 nD ⟨dw, f1 _ _ nWD eW3⟩ l1 e1 ok.2.2.2 le1 t1 (by rw [List.length_append, List.length_cons]; omega) fun H5 as2 g2 f2 e2 go2 t2 le2 m2 => ?_
            walk_at "go"
            refine ⟨g3, g2, as ++ as2, _, rfl, frm_trans f1 f2, by rw [e2, List.append_assoc, List.cons_append], by rw [show d - (i + 1) = d - 1 - i by omega]; exact h3, t2, le2, fun b' g5 hb => ?_, by rw [List.length_append, Nat.succ_mul]; omega⟩
            rw [List.append_assoc]
            refine go1 _ _ ?_
            rw [show d - i = d - (i + 1) + 1 by omega]
            exact go_iter go2 hb
          · rintro σ H4 ⟨gi, g1, as, v4, rfl, f1, e1, z1, t1, le1, go1, m1⟩
            rw [tdl, Nat.sub_self] at z1 go1
            rw [tdl] at m1
            rw [wl.zero] at z1
            obtain rfl := Option.some.inj z1
            have e9 := Nat.mul_le_mul_right (mx p) (show d ≤ 9 by omega)
            walk_at "go"
            refine q _ ((d : Int) :: as) g1 (frm_trans fS f1) e1 (go_loop c1 (by omega) (by have := go1 [] g1 go_iter0; rw [List.append_nil] at this; exact this)) t1 le1 (by rw [List.length_cons]; omega)
        · rw [if_pos (by rw [Bool.not_eq_true] at c; rw [c]; rfl)]
          have ne : d ≠ n0 := fun y => by
            subst y
            exact c (bd.mpr b3)
          refine ⟨fun σ' H'' => ∃ (d' : Nat) (v4 : Option V), σ' = [some (.ref R), some (nV g), some (.ref D), some (nV d'), v4] ∧ H'' = H' ∧ a ≤ d' ∧ d' ≤ n0 ∧ d < d', fun σ' H'' ⟨d', v4, e1, e2, e3, e4, e5⟩ => ⟨n0 - d', by omega, d', v4, e1, e2, e3, e4, rfl⟩, ?_⟩
          refine ⟨_, rfl, ⟨_, _, rfl, rfl, ?_⟩⟩
          exact ⟨d + 1, _, rfl, rfl, by omega, by omega, by omega⟩
end
end K05
namespace K05
open PySem PySem.Spec PyProof.Rows L2 Wd RT
local macro_rules | `(tactic| walk_at "gs") => `(tactic| repeat (first
  | with_reducible refine Wd.g_seq ?_
  | ((with_reducible show L2.Ends.nx _ _ _); (with_reducible refine Wd.g_nx ?_))
  | with_reducible refine Wd.g_asg ?_
  | ((with_reducible refine' Wd.g_var ?h1 ?_); (case h1 => exact rfl))
  | with_reducible refine Wd.g_c ?_
  | with_reducible refine Wd.g_op ?_
  | with_reducible refine Wd.g_un ?_
  | with_reducible refine Wd.g_I0 ?_
  | with_reducible refine Wd.g_U ?_
  | with_reducible refine Wd.g_eqI ?_
  | with_reducible refine Wd.g_neI ?_
  | with_reducible refine Wd.g_eqS ?_
  | with_reducible refine Wd.g_neS ?_
  | with_reducible refine Wd.g_eqB ?_
  | with_reducible refine Wd.g_neB ?_
  | with_reducible refine Wd.g_isN ?_
  | with_reducible refine Wd.g_notN ?_
  | with_reducible refine Wd.g_lc ?_
  | with_reducible refine Wd.g_yes ?_
  | with_reducible refine Wd.g_test ?_
  | with_reducible refine Wd.g_tB ?_
  | with_reducible refine Wd.g_bl ?_
  | with_reducible refine Wd.g_blI ?_
  | with_reducible refine Wd.g_and ?_
  | with_reducible refine Wd.g_or ?_
  | with_reducible refine Wd.g_not ?_
  | with_reducible refine Wd.g_andV ?_
  | with_reducible refine Wd.g_orV ?_
  | with_reducible refine Wd.g_notV ?_
  | with_reducible refine Wd.g_if ?_
  | with_reducible refine Wd.g_chain ?_
  | with_reducible refine Wd.g_chain3 ?_
  | with_reducible refine Wd.g_nil ?_
  | with_reducible refine Wd.g_cons ?_
  | with_reducible refine Wd.g_tup ?_
  | with_reducible refine Wd.g_lst ?_
  | with_reducible refine Wd.g_CB ?_
  | with_reducible refine Wd.g_call ?_
  | with_reducible refine Wd.g_callS ?_
  | with_reducible refine Wd.g_bm ?_
  | with_reducible refine Wd.g_bm0 ?_
  | with_reducible refine Wd.g_sl ?_
  | with_reducible refine Wd.g_part ?_
  | with_reducible refine Wd.g_part1 ?_
  | with_reducible refine Wd.g_noPart ?_
  | with_reducible refine Wd.g_next ?_
  | with_reducible refine Wd.g_name ?_
  | with_reducible refine Wd.g_sub ?_
  | with_reducible refine Wd.g_gnil ?_
  | with_reducible refine Wd.g_gcons ?_
  | with_reducible refine Wd.g_drop ?_
  | with_reducible refine Wd.g_ret ?_
  | with_reducible refine Wd.g_retN ?_
  | with_reducible refine Wd.g_brk ?_
  | with_reducible refine Wd.g_cont ?_
  | ((with_reducible show L2.Ends.bk _ _ _); (with_reducible refine Wd.g_bk ?_))
  | ((with_reducible show L2.Ends.ct _ _ _); (with_reducible refine Wd.g_ct ?_))
  | ((with_reducible show L2.Ends.rt _ _ _); (with_reducible refine Wd.g_rt ?_))
  | with_reducible refine Wd.g_for ?_
  | with_reducible refine Wd.g_rng1 ?_
  | with_reducible refine Wd.g_rng2 ?_
  | with_reducible refine Wd.g_iList ?_
  | with_reducible refine Wd.g_iTup ?_
  | ((with_reducible refine Wd.g_fit ?h1 ?_); (case h1 => exact rfl))
  | with_reducible refine Wd.g_max2 ?_
  | with_reducible refine Wd.g_min2 ?_
  | with_reducible refine Wd.g_int1B ?_
  | with_reducible refine L2.iteT ?_
  | with_reducible refine L2.iteF ?_
  | ((with_reducible refine Wd.g_itT ?h1 ?_); (case h1 => exact rfl))
  | ((with_reducible refine Wd.g_itF ?h1 ?_); (case h1 => exact rfl))))
section
variable {P : Program} {w : World} {K : PySem.W.Frag} {mg : Str → Option Value} {base : Heap} {CWt WP WK WR WE WL : Addr}
theorem ld0 {s : Nat} (hs : 2 ≤ s) {vs : List V} {H : Hp} {Q : VK} {E : XK} (h : sp_ld K CWt WP WK WR WE WL 0 s vs H Q E) : False := by
  obtain ⟨N, v, D, Wt, ds, p, g, lo, hi, l, z, gz, e, _, _, _, _, _, _, ok, _⟩ := h
  cases p with
  | pat => simp only [shp] at e; omega
  | work a b => simp only [shp] at e; omega
  | row ps => unfold okP at ok; exact ok
  | either ps => unfold okP at ok; exact ok
  | loop a b p => unfold okP at ok; exact ok
theorem fn_ld0 {s : Nat} (hs : 2 ≤ s) {f : Addr} {fd : FuncData} {ps : List Str} : FnOk P w K mg base C8.CX0 2 f fd ps (sp_ld K CWt WP WK WR WE WL 0 s) :=
  ⟨fun vs H Q E h => (ld0 (K := K) (vs := vs) (H := H) (Q := Q) (E := E) hs h).elim, fun A o s H _ _ vs Q E _ _ _ _ h => (ld0 (K := K) (vs := vs) (H := H) (Q := Q) (E := E) hs h).elim⟩
theorem ok_lead (T2 : TxtY K WP WK WR WE WL) (T : TxtJ K mg) {fP fK fR fE fL : Addr} {dP dK dR dE dL : FuncData}
    (meP : Meth K WP "lead" fP) (FP : C8.Fun K "lead" "PatWay.lead" s_PatWay_lead fP dP) (bP : Binds K dP ["self", "gap", "delays"] [])
    (meK : Meth K WK "lead" fK) (FK : C8.Fun K "lead" "WorkWay.lead" s_WorkWay_lead fK dK) (bK : Binds K dK ["self", "gap", "delays"] [])
    (meR : Meth K WR "lead" fR) (FR : C8.Fun K "lead" "RowWay.lead" s_RowWay_lead fR dR) (bR : Binds K dR ["self", "gap", "delays"] [])
    (meE : Meth K WE "lead" fE) (FE : C8.Fun K "lead" "EitherWay.lead" s_EitherWay_lead fE dE) (bE : Binds K dE ["self", "gap", "delays"] [])
    (meL : Meth K WL "lead" fL) (FL : C8.Fun K "lead" "LoopWay.lead" s_LoopWay_lead fL dL) (bL : Binds K dL ["self", "gap", "delays"] [])
    (m_gbp : C8.Met P w K mg base 1 CWt "gap_behind_pat" (sp_gbp CWt) []) (m_gbw : C8.Met P w K mg base 1 CWt "gap_behind_work" (sp_gbw CWt) []) (g_holds : C8.Cal P w K mg base 1 "holds" sp_holds []) :
    ∀ n, MetS P w K mg base (2 + n) (CsL K CWt WP WK WR WE WL n) "lead"
  | 0 => fun c hc => by
    simp only [CsL, List.mem_cons, List.not_mem_nil, or_false] at hc
    rcases hc with rfl | rfl | rfl | rfl | rfl
    · exact ⟨2, Nat.le_refl _, ok_plead T2 meP FP bP m_gbp⟩
    · exact ⟨2, Nat.le_refl _, ok_klead T2 meK FK bK m_gbw g_holds⟩
    · exact ⟨2, Nat.le_refl _, fR, dR, ["self", "gap", "delays"], [], T2.cR, meR, fn_ld0 (by decide), bR, .nil⟩
    · exact ⟨2, Nat.le_refl _, fE, dE, ["self", "gap", "delays"], [], T2.cE, meE, fn_ld0 (by decide), bE, .nil⟩
    · exact ⟨2, Nat.le_refl _, fL, dL, ["self", "gap", "delays"], [], T2.cL, meL, fn_ld0 (by decide), bL, .nil⟩
  | n + 1 => fun c hc => by
    have ih := ok_lead T2 T meP FP bP meK FK bK meR FR bR meE FE bE meL FL bL m_gbp m_gbw g_holds n
    have lv : 2 + (n + 1) = 3 + n := by omega
    simp only [CsL, List.mem_cons, List.not_mem_nil, or_false] at hc
    rcases hc with rfl | rfl | rfl | rfl | rfl
    · exact ⟨2, by omega, ok_plead T2 meP FP bP m_gbp⟩
    · exact ⟨2, by omega, ok_klead T2 meK FK bK m_gbw g_holds⟩
    · exact ⟨3 + n, by omega, ok_rlead T2 T meR FR bR ih⟩
    · exact ⟨3 + n, by omega, ok_elead T2 T meE FE bE ih g_holds⟩
    · exact ⟨3 + n, by omega, ok_llead T2 T meL FL bL ih g_holds⟩
abbrev s_goals_of_rounds : Stmt := top 33
theorem sc_goals_of_rounds : FnScope ["watcher", "plan", "goals", "gaps"] ["watcher", "plan"] (C8.fnScope s_goals_of_rounds) := C8.fnScope_by (by decide +kernel)
/-- the goals of more rounds, the bite first -/
structure Chn (lo hi : Nat) (p : Pl) (zs : List Nat) : Prop where
  zero : zs[0]? = some (2 ^ (hi + 1))
  next : ∀ k a b, zs[k]? = some a → zs[k + 1]? = some b → Bits hi (Led lo hi p) a b
def sp_gr (CWt : Addr) (n : Nat) : Sp := fun vs H Q _ => ∃ (Wt : Addr) (lo hi : Nat) (v : V) (p : Pl) (l : Nat), vs = [.ref Wt, v] ∧ IsWt H CWt Wt lo hi ∧ lo ≤ hi ∧ hi ≤ 1000 ∧ PlA H v p ∧ okP n l p ∧
  (∀ H' Z, Same H H' → Bits hi (Led lo hi p) Z Z → Z.testBit (hi + 1) = true → Z.testBit 0 = false → Q .non H') ∧
  ∀ H' L zs g, Same H H' → H' L = some (.lst ((zs ++ [g]).map nV)) → Chn lo hi p (zs ++ [g]) → g.testBit 0 = true → zs.length ≤ hi + 1 → Q (.ref L) H'
theorem chn_snoc {lo hi : Nat} {p : Pl} {zs : List Nat} {g g2 : Nat} (h : Chn lo hi p (zs ++ [g])) (b : Bits hi (Led lo hi p) g g2) : Chn lo hi p (zs ++ [g] ++ [g2]) where
  zero := by rw [List.getElem?_append_left (by rw [List.length_append, List.length_singleton]; omega)]; exact h.zero
  next := fun k x y hx hy => by
    by_cases c : k + 1 < (zs ++ [g]).length
    · rw [List.getElem?_append_left c] at hy
      rw [List.getElem?_append_left (by omega)] at hx
      exact h.next k x y hx hy
    · have c2 : k + 1 < (zs ++ [g] ++ [g2]).length := (List.getElem?_eq_some_iff.mp hy).1
      rw [List.length_append (bs := [g2]), List.length_singleton] at c2
      rw [List.length_append, List.length_singleton] at c c2
      have ek : k = zs.length := by omega
      subst ek
      rw [show zs.length + 1 = (zs ++ [g]).length by rw [List.length_append]; rfl, List.getElem?_concat_length] at hy
      rw [List.getElem?_append_left (by rw [List.length_append, List.length_singleton]; omega), List.getElem?_concat_length] at hx
      obtain rfl := Option.some.inj hx
      obtain rfl := Option.some.inj hy
      exact b
theorem ok_gr {n : Nat} (T2 : TxtY K WP WK WR WE WL) (TW : TxtWt K CWt) (T : TxtJ K mg) {f : Addr} {fd : FuncData} (D : C8.Def K mg "goals_of_rounds" s_goals_of_rounds f fd) (b : Binds K fd ["watcher", "plan"] []) (g_holds : C8.Cal P w K mg base 1 "holds" sp_holds []) (g_way_to : C8.Cal P w K mg base (5 + 3 * n) "way_to" (sp_way CWt WP WK WR WE WL n) []) :
    C8.Cal P w K mg base (6 + 3 * n) "goals_of_rounds" (sp_gr CWt n) [] := by
  have lv : 6 + 3 * n = (5 + 3 * n) + 1 := by omega
  rw [lv]
  refine C8.cal0 D b .nil sc_goals_of_rounds (fun vs H Q E h => ?_) fun cdv A outer s H vs Q E hr h => ?_
  · obtain ⟨Wt, lo, hi, v, p, l, rfl, _⟩ := h; rfl
  · obtain ⟨Wt, lo, hi, v, p, l, rfl, ⟨dw, hW⟩, l1, l2, pA, ok, q1, q2⟩ := h
    have nd := sc_goals_of_rounds.nd
    refine ⟨_, (pss_cons (ps_set (i := 2) nd rfl (Or.inl rfl) (pe_lst (pa_cons (pe_fld (pv 0) rfl) pa_nil)))
      (pss_cons (ps_while PassesOwn.never (pt_not (pt_val (C8.pe_c g_holds hr (by first | decide | exact Nat.le_refl _ | omega) (by rfl) (pa_cons (pe_ix (r := rIxL K) ix_list (pv 2) (pe_un un_neg pe_int) (fun _ _ => rfl)) (pa_cons pe_int pa_nil))))) (pss_cons (ps_set (i := 3) nd rfl (Or.inl rfl) (pe_fld (C8.pe_c g_way_to hr (by first | decide | exact Nat.le_refl _ | omega) (by rfl) (pa_cons (pv 0) (pa_cons (pv 1) (pa_cons (pe_ix (r := rIxL K) ix_list (pv 2) (pe_un un_neg pe_int) (fun _ _ => rfl)) pa_nil)))) rfl))
      (pss_cons (ps_if (pt_cmpR op_eq (pv 3) (pe_ix (r := rIxL K) ix_list (pv 2) (pe_un un_neg pe_int) (fun _ _ => rfl)) (nomark _)) (pss_one (ps_ret pe_non)) pss_nil)
      (pss_one (ps_expr (pe_bmK (K := K) rfl PySem.F.plainAttrs_list PySem.F.slot_list_append PySem.F.type_list_append mt_append (pv 2) (pa_cons (pv 3) pa_nil)))))))
      (pss_one (ps_ret (pv 2))))), ?_⟩
    walk_at "go"
    refine g_fldV rfl hW TW.c TW.nI rfl ?_
    walk_at "go"
    intro L hL
    have s1 := same_new (o := .lst [nV (2 ^ (hi + 1))]) hL
    have e1 := upd_same (H := H) (a := L) (o := .lst [nV (2 ^ (hi + 1))])
    generalize upd H L (.lst [nV (2 ^ (hi + 1))]) = H1 at s1 e1
    walk_at "go"
    have one : ∀ i, i ≤ hi + 1 → inS (2 ^ (hi + 1)) i → Led lo hi p (inS (2 ^ (hi + 1))) i := fun i _ hi' => by
      have : hi + 1 = i := by rw [show inS (2 ^ (hi + 1)) i = ((2 ^ (hi + 1)).testBit i = true) from rfl, tb_one, decide_eq_true_eq] at hi'; exact hi'
      subst this
      exact led_bitten p ok hi'
    have bo : (2 ^ (hi + 1)).testBit (hi + 1) = true := by rw [tb_one]; exact decide_eq_true rfl
    have crd : 1 ≤ card (hi + 2) (2 ^ (hi + 1)) := by
      have c0 : Below (hi + 2) 0 := fun i h => by rw [Nat.zero_testBit] at h; cases h
      have := card_lt c0 (below_bite hi) (fun i h => by rw [Nat.zero_testBit] at h; cases h) (fun y => by rw [← y, Nat.zero_testBit] at bo; cases bo)
      omega
    refine w_loop (fun k σ H' => ∃ (zs : List Nat) (g : Nat) (v3 : Option V), σ = [some (.ref Wt), some v, some (.ref L), v3] ∧ Same H H' ∧ H' L = some (.lst ((zs ++ [g]).map nV)) ∧ Chn lo hi p (zs ++ [g]) ∧ Below (hi + 2) g ∧ g.testBit (hi + 1) = true ∧
      (∀ i, i ≤ hi + 1 → inS g i → Led lo hi p (inS g) i) ∧ zs.length + 1 ≤ card (hi + 2) g ∧ k = hi + 2 - zs.length) (hi + 2) ?_ ?_
    · refine ⟨[], 2 ^ (hi + 1), _, rfl, s1, e1, ⟨rfl, fun k a b ha hb => by rw [show ([] ++ [2 ^ (hi + 1)])[k + 1]? = none from rfl] at hb; cases hb⟩, below_bite hi, bo, one, crd, rfl⟩
    · rintro k σ H' ⟨zs, g, v3, rfl, f1, e2, ch, bg, bb, inc, cd, rfl⟩
      have cl := card_le (hi + 2) g
      have atg : atI ((zs ++ [g]).map nV) (-1) = some (nV g) := atI_back (by rw [List.length_map, List.length_append, List.length_singleton, Nat.add_sub_cancel, List.getElem?_map, List.getElem?_concat_length]; rfl)
      walk_at "go"
      refine g_ixL (SqL.of e2) atg ?_
      walk_at "go"
      refine ⟨g, 0, rfl, ?_⟩
      refine ⟨_, rfl, ?_⟩
      cases c : g.testBit 0 with
      | true =>
        rw [if_neg (by exact Bool.false_ne_true)]
        walk_at "go"
        exact q2 _ _ zs g f1 e2 ch c (by omega)
      | false =>
        rw [if_pos (by rfl)]
        refine ⟨fun σ' H'' => ∃ (zs2 : List Nat) (g2 : Nat) (v3 : Option V), σ' = [some (.ref Wt), some v, some (.ref L), v3] ∧ Same H H'' ∧ H'' L = some (.lst ((zs2 ++ [g2]).map nV)) ∧ Chn lo hi p (zs2 ++ [g2]) ∧ Below (hi + 2) g2 ∧ g2.testBit (hi + 1) = true ∧
          (∀ i, i ≤ hi + 1 → inS g2 i → Led lo hi p (inS g2) i) ∧ zs2.length + 1 ≤ card (hi + 2) g2 ∧ zs2.length = zs.length + 1, fun σ' H'' ⟨zs2, g2, v3, a1, a2, a3, a4, a5, a6, a7, a8, a9⟩ => ⟨hi + 2 - zs2.length, by omega, zs2, g2, v3, a1, a2, a3, a4, a5, a6, a7, a8, rfl⟩, ?_⟩
        walk_at "go"
        refine g_fld ?_
        walk_at "go"
        refine g_ixL (SqL.of e2) atg ?_
        walk_at "go"
        refine ⟨Wt, lo, hi, v, p, l, g, rfl, ⟨dw, f1 _ _ hW⟩, l1, l2, PlA_keep (keepT_same f1) _ _ pA, ok, bg, fun H3 u g2 s3 wa => ?_⟩
        obtain ⟨R', C', dx', fs', rfl, hR', _, cls', na', lk', _⟩ := WayA.at_ (K := K) T2 wa
        have bits : Bits hi (Led lo hi p) g g2 := wa.bits
        refine ⟨R', C', dx', fs', nV g2, rfl, hR', cls', na', lk', ?_⟩
        walk_at "go"
        have e3 := s3 _ _ e2
        refine g_ixL (SqL.of e3) atg ?_
        walk_at "go"
        by_cases c2 : g2 = g
        · rw [if_pos (decide_eq_true (by rw [c2]))]
          walk_at "go"
          subst c2
          exact q1 _ g2 (f1.trans s3) bits bb c
        · rw [if_neg (by rw [decide_eq_false (by omega)]; exact Bool.false_ne_true)]
          walk_at "go"
          refine g_tyL e3 ?_
          walk_at "go"
          refine g_append e3 (by rw [List.length_map, List.length_append, List.length_singleton]; omega) ?_
          have eq : (zs ++ [g]).map nV ++ [nV g2] = (zs ++ [g] ++ [g2]).map nV := by rw [List.map_append (l₂ := [g2])]; rfl
          rw [eq]
          have up : ∀ i, inS g i → inS g2 i := fun i h => (bits.bit i (by have := bg i h; omega)).mpr (inc i (by have := bg i h; omega) h)
          refine ⟨zs ++ [g], g2, _, rfl, fun b o h => ?_, upd_same, chn_snoc ch bits, bits.low, up _ bb, fun i hi' h => Led.mono p up i ((bits.bit i hi').mp h), ?_, by rw [List.length_append]; rfl⟩
          · have nbL : b ≠ L := ne_of_none h hL
            rw [upd_ne nbL]; exact s3 _ _ (f1 _ _ h)
          · have := card_lt bg bits.low up (fun y => c2 y.symm)
            rw [List.length_append, List.length_singleton]; omega
end
end K05
namespace K05
open PySem PySem.Spec PyProof.Rows L2 Wd
theorem iter_le {f : List Int → Int → Res} {B : Nat} (hf : ∀ ds t nq ds' t', f ds t = some (nq, ds', t') → nq.length ≤ B) : ∀ (n : Nat) (ds : List Int) (t : Int) (nq ds' : List Int) (t' : Int), iter f n ds t = some (nq, ds', t') → nq.length ≤ n * B
  | 0, ds, t, nq, ds', t', h => by simp only [iter, Option.some.injEq, Prod.mk.injEq] at h; rw [← h.1]; exact Nat.zero_le _
  | n + 1, ds, t, nq, ds', t', h => by
    simp only [iter] at h
    obtain ⟨a, d2, t2, b, h1, h2, rfl⟩ := seqR_inv h
    have := hf _ _ _ _ _ h1
    have := iter_le hf n _ _ _ _ _ h2
    rw [List.length_append, Nat.add_mul]
    omega
mutual
theorem np_le : ∀ (p : Pl) (d l : Nat) (ds : List Int) (t : Int) (nq ds' : List Int) (t' : Int), okP d l p → rn p ds t = some (nq, ds', t') → nq.length ≤ Wd.cnt p * 10 ^ l
  | .pat, d, l, ds, t, nq, ds', t', _, h => by
    simp only [rn, Option.some.injEq, Prod.mk.injEq] at h
    rw [← h.1]
    simp only [Wd.cnt, Nat.one_mul, List.length_singleton]; exact ten_pos l
  | .work _ _, d, l, [], t, nq, ds', t', _, h => by simp only [rn] at h; cases h
  | .work _ _, d, l, _ :: _, t, nq, ds', t', _, h => by
    simp only [rn] at h
    split at h
    · simp only [Option.some.injEq, Prod.mk.injEq] at h
      rw [← h.1]; exact Nat.zero_le _
    · cases h
  | .row ps, 0, l, _, _, _, _, _, h, _ => by unfold okP at h; exact h.elim
  | .row ps, d + 1, l, ds, t, nq, ds', t', ok, h => by
    unfold okP at ok
    simp only [rn] at h
    have := nps_le ps d l ds t nq ds' t' ok.2.2 h
    simp only [Wd.cnt, Nat.add_mul]
    omega
  | .either ps, 0, l, _, _, _, _, _, h, _ => by unfold okP at h; exact h.elim
  | .either _, d + 1, l, [], t, nq, ds', t', _, h => by simp only [rn] at h; cases h
  | .either ps, d + 1, l, x :: ds, t, nq, ds', t', ok, h => by
    unfold okP at ok
    simp only [rn] at h
    split at h
    · have := npAt_le ps x.toNat d l ds t nq ds' t' ok.2.2 h
      simp only [Wd.cnt, Nat.add_mul]
      omega
    · cases h
  | .loop _ _ _, 0, l, _, _, _, _, _, h, _ => by unfold okP at h; exact h.elim
  | .loop _ _ _, d + 1, 0, _, _, _, _, _, h, _ => by unfold okP at h; exact h.elim
  | .loop _ _ _, d + 1, l + 1, [], t, nq, ds', t', _, h => by simp only [rn] at h; cases h
  | .loop a b p, d + 1, l + 1, x :: ds, t, nq, ds', t', ok, h => by
    unfold okP at ok
    simp only [rn] at h
    split at h
    · rename_i bd
      have h1 := iter_le (fun ds t nq ds' t' e => np_le p d l ds t nq ds' t' ok.2.2.2 e) _ _ _ _ _ _ h
      have h9 : x.toNat ≤ 9 := by omega
      have h2 : x.toNat * (Wd.cnt p * 10 ^ l) ≤ 9 * (Wd.cnt p * 10 ^ l) := Nat.mul_le_mul_right _ h9
      simp only [Wd.cnt, Nat.add_mul, Nat.pow_succ]
      have e : Wd.cnt p * (10 ^ l * 10) = 10 * (Wd.cnt p * 10 ^ l) := by rw [← Nat.mul_assoc, Nat.mul_comm]
      omega
    · cases h
theorem nps_le : ∀ (ps : List Pl) (d l : Nat) (ds : List Int) (t : Int) (nq ds' : List Int) (t' : Int), okPs d l ps → rns ps ds t = some (nq, ds', t') → nq.length ≤ Wd.cnts ps * 10 ^ l
  | [], d, l, ds, t, nq, ds', t', _, h => by simp only [rns, Option.some.injEq, Prod.mk.injEq] at h; rw [← h.1]; exact Nat.zero_le _
  | p :: ps, d, l, ds, t, nq, ds', t', ok, h => by
    unfold okPs at ok
    simp only [rns] at h
    obtain ⟨a, d2, t2, b, h1, h2, rfl⟩ := seqR_inv h
    have := np_le p d l _ _ _ _ _ ok.1 h1
    have := nps_le ps d l _ _ _ _ _ ok.2 h2
    simp only [Wd.cnts, Nat.add_mul, List.length_append]
    omega
theorem npAt_le : ∀ (ps : List Pl) (n d l : Nat) (ds : List Int) (t : Int) (nq ds' : List Int) (t' : Int), okPs d l ps → rnAt ps n ds t = some (nq, ds', t') → nq.length ≤ Wd.cnts ps * 10 ^ l
  | [], n, d, l, ds, t, nq, ds', t', _, h => by simp only [rnAt] at h; cases h
  | p :: ps, 0, d, l, ds, t, nq, ds', t', ok, h => by
    unfold okPs at ok
    simp only [rnAt] at h
    have := np_le p d l _ _ _ _ _ ok.1 h
    simp only [Wd.cnts, Nat.add_mul]
    omega
  | p :: ps, n + 1, d, l, ds, t, nq, ds', t', ok, h => by
    unfold okPs at ok
    simp only [rnAt] at h
    have := npAt_le ps n d l _ _ _ _ _ ok.2 h
    simp only [Wd.cnts, Nat.add_mul]
    omega
end
end K05
namespace K05
open PySem PySem.Spec PyProof.Rows L2 Wd RT
local macro_rules | `(tactic| walk_at "gs") => `(tactic| repeat (first
  | with_reducible refine Wd.g_seq ?_
  | ((with_reducible show L2.Ends.nx _ _ _); (with_reducible refine Wd.g_nx ?_))
  | with_reducible refine Wd.g_asg ?_
  | ((with_reducible refine' Wd.g_var ?h1 ?_); (case h1 => exact rfl))
  | with_reducible refine Wd.g_c ?_
  | with_reducible refine Wd.g_op ?_
  | with_reducible refine Wd.g_un ?_
  | with_reducible refine Wd.g_I0 ?_
  | with_reducible refine Wd.g_U ?_
  | with_reducible refine Wd.g_eqI ?_
  | with_reducible refine Wd.g_neI ?_
  | with_reducible refine Wd.g_eqS ?_
  | with_reducible refine Wd.g_neS ?_
  | with_reducible refine Wd.g_eqB ?_
  | with_reducible refine Wd.g_neB ?_
  | with_reducible refine Wd.g_isN ?_
  | with_reducible refine Wd.g_notN ?_
  | with_reducible refine Wd.g_lc ?_
  | with_reducible refine Wd.g_yes ?_
  | with_reducible refine Wd.g_test ?_
  | with_reducible refine Wd.g_tB ?_
  | with_reducible refine Wd.g_bl ?_
  | with_reducible refine Wd.g_blI ?_
  | with_reducible refine Wd.g_and ?_
  | with_reducible refine Wd.g_or ?_
  | with_reducible refine Wd.g_not ?_
  | with_reducible refine Wd.g_andV ?_
  | with_reducible refine Wd.g_orV ?_
  | with_reducible refine Wd.g_notV ?_
  | with_reducible refine Wd.g_if ?_
  | with_reducible refine Wd.g_chain ?_
  | with_reducible refine Wd.g_chain3 ?_
  | with_reducible refine Wd.g_nil ?_
  | with_reducible refine Wd.g_cons ?_
  | with_reducible refine Wd.g_tup ?_
  | with_reducible refine Wd.g_lst ?_
  | with_reducible refine Wd.g_CB ?_
  | with_reducible refine Wd.g_call ?_
  | with_reducible refine Wd.g_callS ?_
  | with_reducible refine Wd.g_bm ?_
  | with_reducible refine Wd.g_bm0 ?_
  | with_reducible refine Wd.g_sl ?_
  | with_reducible refine Wd.g_part ?_
  | with_reducible refine Wd.g_part1 ?_
  | with_reducible refine Wd.g_noPart ?_
  | with_reducible refine Wd.g_next ?_
  | with_reducible refine Wd.g_name ?_
  | with_reducible refine Wd.g_sub ?_
  | with_reducible refine Wd.g_gnil ?_
  | with_reducible refine Wd.g_gcons ?_
  | with_reducible refine Wd.g_drop ?_
  | with_reducible refine Wd.g_ret ?_
  | with_reducible refine Wd.g_retN ?_
  | with_reducible refine Wd.g_brk ?_
  | with_reducible refine Wd.g_cont ?_
  | ((with_reducible show L2.Ends.bk _ _ _); (with_reducible refine Wd.g_bk ?_))
  | ((with_reducible show L2.Ends.ct _ _ _); (with_reducible refine Wd.g_ct ?_))
  | ((with_reducible show L2.Ends.rt _ _ _); (with_reducible refine Wd.g_rt ?_))
  | with_reducible refine Wd.g_for ?_
  | with_reducible refine Wd.g_rng1 ?_
  | with_reducible refine Wd.g_rng2 ?_
  | with_reducible refine Wd.g_iList ?_
  | with_reducible refine Wd.g_iTup ?_
  | ((with_reducible refine Wd.g_fit ?h1 ?_); (case h1 => exact rfl))
  | with_reducible refine Wd.g_max2 ?_
  | with_reducible refine Wd.g_min2 ?_
  | with_reducible refine Wd.g_int1B ?_
  | with_reducible refine L2.iteT ?_
  | with_reducible refine L2.iteF ?_
  | ((with_reducible refine Wd.g_itT ?h1 ?_); (case h1 => exact rfl))
  | ((with_reducible refine Wd.g_itF ?h1 ?_); (case h1 => exact rfl))))
theorem cut_last (zs : List Nat) (g : Nat) : cutV ((zs ++ [g]).map nV) none (some (-1)) = zs.map nV := by
  unfold cutV
  have e : HT.sIx ((zs ++ [g]).map nV).length ((zs ++ [g]).map nV).length (some (-1)) = zs.length := by
    show (if (-1 : Int) < 0 then ((-1 : Int) + ((((zs ++ [g]).map nV).length : Nat) : Int)).toNat else min (-1 : Int).toNat ((zs ++ [g]).map nV).length) = zs.length
    rw [if_pos (by decide), List.length_map, List.length_append, List.length_singleton]
    omega
  rw [e, HT.sIx_none, List.drop_zero, Nat.sub_zero, List.map_append, List.take_left' (by rw [List.length_map])]
theorem chn_below {lo hi : Nat} {p : Pl} {zs : List Nat} (h : Chn lo hi p zs) : ∀ {k g : Nat}, zs[k]? = some g → Below (hi + 2) g
  | 0, g, e => by rw [h.zero] at e; obtain rfl := Option.some.inj e; exact below_bite hi
  | k + 1, g, e => by
    have hl := (List.getElem?_eq_some_iff.mp e).1
    exact (h.next k zs[k] g (List.getElem?_eq_getElem (by omega)) e).low
section
variable {P : Program} {w : World} {K : PySem.W.Frag} {mg : Str → Option Value} {base : Heap} {CWt WP WK WR WE WL : Addr}
abbrev s_delays_of_rounds : Stmt := top 34
theorem sc_delays_of_rounds : FnScope ["watcher", "plan", "goals", "gap", "delays", "goal"] ["watcher", "plan", "goals"] (C8.fnScope s_delays_of_rounds) := C8.fnScope_by (by decide +kernel)
def sp_dr (CWt : Addr) (n : Nat) : Sp := fun vs H Q _ => ∃ (Wt L : Addr) (lo hi : Nat) (v : V) (p : Pl) (l : Nat) (zs : List Nat) (g0 : Nat), vs = [.ref Wt, v, .ref L] ∧ IsWt H CWt Wt lo hi ∧ lo ≤ hi ∧ hi ≤ 1000 ∧ PlA H v p ∧ okP n l p ∧ mx p ≤ 3000 ∧
  H L = some (.lst ((zs ++ [g0]).map nV)) ∧ Chn lo hi p (zs ++ [g0]) ∧ g0.testBit 0 = true ∧ zs.length ≤ hi + 1 ∧
  ∀ H' D as, Same H H' → H D = none → H' D = some (.lst (as.map V.int)) → Go lo hi (iter (rn p) zs.length) 0 as (hi + 1) → as.length ≤ zs.length * mx p → Q (.ref D) H'
theorem ok_dr {n : Nat} (T2 : TxtY K WP WK WR WE WL) (T : TxtJ K mg) {f : Addr} {fd : FuncData} (D : C8.Def K mg "delays_of_rounds" s_delays_of_rounds f fd) (b : Binds K fd ["watcher", "plan", "goals"] []) (m_lead : MetS P w K mg base (2 + n) (CsL K CWt WP WK WR WE WL n) "lead") (g_way_to : C8.Cal P w K mg base (5 + 3 * n) "way_to" (sp_way CWt WP WK WR WE WL n) []) :
    C8.Cal P w K mg base (6 + 3 * n) "delays_of_rounds" (sp_dr CWt n) [] := by
  have lv : 6 + 3 * n = (5 + 3 * n) + 1 := by omega
  rw [lv]
  refine C8.cal0 D b .nil sc_delays_of_rounds (fun vs H Q E h => ?_) fun cdv A outer s H vs Q E hr h => ?_
  · obtain ⟨Wt, L, lo, hi, v, p, l, zs, g0, rfl, _⟩ := h; rfl
  · obtain ⟨Wt, L, lo, hi, v, p, l, zs, g0, rfl, ⟨dw, hW⟩, l1, l2, pA, ok, mb, hL, ch, b0, zl, q⟩ := h
    have nd := sc_delays_of_rounds.nd
    refine ⟨_, (pss_cons (ps_set (i := 3) nd rfl (Or.inl rfl) pe_int)
      (pss_cons (ps_set (i := 4) nd rfl (Or.inl rfl) (pe_lst pa_nil))
      (pss_cons (ps_for PassesOwn.never rfl (pi_revA (by rfl) T.n_reversed (pe_slice (r := rSlL K) sl_list (pv 2) po_none (po_some (pe_un un_neg pe_int)))) (pg_name (i := 5) nd rfl (Or.inl rfl)) (pss_one (ps_set (i := 3) nd rfl (Or.inl rfl) (pe_mtS m_lead hr (by first | decide | exact Nat.le_refl _ | omega) (C8.pe_c g_way_to hr (by first | decide | exact Nat.le_refl _ | omega) (by rfl) (pa_cons (pv 0) (pa_cons (pv 1) (pa_cons (pv 5) pa_nil)))) (pa_cons (pv 3) (pa_cons (pv 4) pa_nil))))))
      (pss_one (ps_ret (pv 4)))))), ?_⟩
    walk_at "go"
    intro DD hD
    have s1 := same_new (o := .lst []) hD
    have e1 := upd_same (H := H) (a := DD) (o := .lst [])
    generalize upd H DD (.lst []) = H1 at s1 e1
    walk_at "go"
    refine g_rev ?_
    walk_at "go"
    refine g_slL (SqL.of (s1 _ _ hL)) fun S hS => ?_
    rw [cut_last]
    have sS := same_new (o := .lst (zs.map nV)) hS
    have eS := upd_same (H := H1) (a := S) (o := .lst (zs.map nV))
    have nSD : S ≠ DD := fun y => by rw [y, e1] at hS; cases hS
    have s2 := s1.trans sS
    have e2 := sS _ _ e1
    generalize upd H1 S (.lst (zs.map nV)) = H2 at sS eS s2 e2
    refine w_revL (xs := zs.map nV) (fun i σ H' => ∃ (g1 gi : Nat) (as : List Int) (v5 : Option V), σ = [some (.ref Wt), some v, some (.ref L), some (nV g1), some (.ref DD), v5] ∧ Same H H' ∧ H' S = some (.lst (zs.map nV)) ∧ H' DD = some (.lst (as.map V.int)) ∧ (zs ++ [g0])[zs.length - i]? = some gi ∧ gi.testBit g1 = true ∧ g1 ≤ hi + 1 ∧
      (∀ b g2, Go lo hi (iter (rn p) (zs.length - i)) g1 b g2 → Go lo hi (iter (rn p) zs.length) 0 (as ++ b) g2) ∧ as.length ≤ i * mx p) ?_ ?_ ?_ ?_
    · exact ⟨0, g0, [], _, rfl, s2, eS, e2, List.getElem?_concat_length, b0, Nat.zero_le _, fun b g2 h => h, Nat.zero_le _⟩
    · rintro i σ H' ⟨g1, gi, as, v5, rfl, f1, e3, _⟩
      exact SqL.of e3
    · rintro i x σ H3 hi' hx ⟨g1, gi, as, v5, rfl, f1, e3, d3, z1, t1, le1, go1, m1⟩
      rw [List.length_map] at hi' hx
      obtain ⟨gx, hgx, rfl⟩ : ∃ gx, zs[zs.length - 1 - i]? = some gx ∧ x = nV gx := by
        rw [List.getElem?_map] at hx
        cases hq : zs[zs.length - 1 - i]? with
        | none => rw [hq] at hx; cases hx
        | some y => rw [hq] at hx; exact ⟨y, rfl, (Option.some.inj hx).symm⟩
      have hgx2 : (zs ++ [g0])[zs.length - 1 - i]? = some gx := by rw [List.getElem?_append_left (by omega)]; exact hgx
      have bt := ch.next (zs.length - 1 - i) gx gi hgx2 (by rw [show zs.length - 1 - i + 1 = zs.length - i by omega]; exact z1)
      have e9 := Nat.mul_le_mul_right (mx p) (show i + 1 ≤ 1001 by omega)
      rw [Nat.succ_mul] at e9
      walk_at "go"
      refine g_mtS ?_
      walk_at "go"
      refine ⟨Wt, lo, hi, v, p, l, gx, rfl, ⟨dw, f1 _ _ hW⟩, l1, l2, PlA_keep (keepT_same f1) _ _ pA, ok, chn_below ch hgx2, fun H4 u gg s4 wa => ?_⟩
      have eg : gg = gi := Bits.uniq (F := Led lo hi p) (z := gx) (hi := hi) wa.bits bt
      subst eg
      have nD : H3 DD ≠ none := by rw [d3]; exact fun y => nomatch y
      refine use_ldV (l := l) rfl rfl wa nD ⟨dw, s4 _ _ (f1 _ _ hW)⟩ l1 (s4 _ _ d3) ok le1 t1 (by omega) fun H5 as2 g2 f2 e5 go2 t2 le2 m2 => ?_
      walk_at "go"
      refine ⟨g2, gx, as ++ as2, _, rfl, fun b o h => f2 _ _ (ne_of_none h hD) (s4 _ _ (f1 _ _ h)), f2 _ _ nSD (s4 _ _ e3), e5, by rw [show zs.length - (i + 1) = zs.length - 1 - i by omega]; exact hgx2, t2, le2, fun b' g5 hb => ?_, by rw [List.length_append, Nat.succ_mul]; omega⟩
      rw [List.append_assoc]
      refine go1 _ _ ?_
      rw [show zs.length - i = zs.length - (i + 1) + 1 by omega]
      exact go_iter go2 hb
    · rintro σ H3 ⟨g1, gi, as, v5, rfl, f1, e3, d3, z1, t1, le1, go1, m1⟩
      rw [List.length_map, Nat.sub_self] at z1 go1
      rw [List.length_map] at m1
      rw [ch.zero] at z1
      obtain rfl := Option.some.inj z1
      have eg : hi + 1 = g1 := by rw [tb_one, decide_eq_true_eq] at t1; exact t1
      subst eg
      walk_at "go"
      exact q _ DD as f1 hD d3 (by have := go1 [] (hi + 1) go_iter0; rw [List.append_nil] at this; exact this) m1
end
end K05
namespace K05
open PySem PySem.Spec PyProof.Rows L2 Wd RT
local macro_rules | `(tactic| walk_at "gs") => `(tactic| repeat (first
  | with_reducible refine Wd.g_seq ?_
  | ((with_reducible show L2.Ends.nx _ _ _); (with_reducible refine Wd.g_nx ?_))
  | with_reducible refine Wd.g_asg ?_
  | ((with_reducible refine' Wd.g_var ?h1 ?_); (case h1 => exact rfl))
  | with_reducible refine Wd.g_c ?_
  | with_reducible refine Wd.g_op ?_
  | with_reducible refine Wd.g_un ?_
  | with_reducible refine Wd.g_I0 ?_
  | with_reducible refine Wd.g_U ?_
  | with_reducible refine Wd.g_eqI ?_
  | with_reducible refine Wd.g_neI ?_
  | with_reducible refine Wd.g_eqS ?_
  | with_reducible refine Wd.g_neS ?_
  | with_reducible refine Wd.g_eqB ?_
  | with_reducible refine Wd.g_neB ?_
  | with_reducible refine Wd.g_isN ?_
  | with_reducible refine Wd.g_notN ?_
  | with_reducible refine Wd.g_lc ?_
  | with_reducible refine Wd.g_yes ?_
  | with_reducible refine Wd.g_test ?_
  | with_reducible refine Wd.g_tB ?_
  | with_reducible refine Wd.g_bl ?_
  | with_reducible refine Wd.g_blI ?_
  | with_reducible refine Wd.g_and ?_
  | with_reducible refine Wd.g_or ?_
  | with_reducible refine Wd.g_not ?_
  | with_reducible refine Wd.g_andV ?_
  | with_reducible refine Wd.g_orV ?_
  | with_reducible refine Wd.g_notV ?_
  | with_reducible refine Wd.g_if ?_
  | with_reducible refine Wd.g_chain ?_
  | with_reducible refine Wd.g_chain3 ?_
  | with_reducible refine Wd.g_nil ?_
  | with_reducible refine Wd.g_cons ?_
  | with_reducible refine Wd.g_tup ?_
  | with_reducible refine Wd.g_lst ?_
  | with_reducible refine Wd.g_CB ?_
  | with_reducible refine Wd.g_call ?_
  | with_reducible refine Wd.g_callS ?_
  | with_reducible refine Wd.g_bm ?_
  | with_reducible refine Wd.g_bm0 ?_
  | with_reducible refine Wd.g_sl ?_
  | with_reducible refine Wd.g_part ?_
  | with_reducible refine Wd.g_part1 ?_
  | with_reducible refine Wd.g_noPart ?_
  | with_reducible refine Wd.g_next ?_
  | with_reducible refine Wd.g_name ?_
  | with_reducible refine Wd.g_sub ?_
  | with_reducible refine Wd.g_gnil ?_
  | with_reducible refine Wd.g_gcons ?_
  | with_reducible refine Wd.g_drop ?_
  | with_reducible refine Wd.g_ret ?_
  | with_reducible refine Wd.g_retN ?_
  | with_reducible refine Wd.g_brk ?_
  | with_reducible refine Wd.g_cont ?_
  | ((with_reducible show L2.Ends.bk _ _ _); (with_reducible refine Wd.g_bk ?_))
  | ((with_reducible show L2.Ends.ct _ _ _); (with_reducible refine Wd.g_ct ?_))
  | ((with_reducible show L2.Ends.rt _ _ _); (with_reducible refine Wd.g_rt ?_))
  | with_reducible refine Wd.g_for ?_
  | with_reducible refine Wd.g_rng1 ?_
  | with_reducible refine Wd.g_rng2 ?_
  | with_reducible refine Wd.g_iList ?_
  | with_reducible refine Wd.g_iTup ?_
  | ((with_reducible refine Wd.g_fit ?h1 ?_); (case h1 => exact rfl))
  | with_reducible refine Wd.g_max2 ?_
  | with_reducible refine Wd.g_min2 ?_
  | with_reducible refine Wd.g_int1B ?_
  | with_reducible refine L2.iteT ?_
  | with_reducible refine L2.iteF ?_
  | ((with_reducible refine Wd.g_itT ?h1 ?_); (case h1 => exact rfl))
  | ((with_reducible refine Wd.g_itF ?h1 ?_); (case h1 => exact rfl))))
structure TxtQ (K : PySem.W.Frag) (mg : Str → Option Value) : Prop extends TxtJ K mg where
  c_GREATEST_HIGH : ∃ t, mg "GREATEST_HIGH" = some (.int 1000 t)
section
variable {P : Program} {w : World} {K : PySem.W.Frag} {mg : Str → Option Value} {base : Heap} {CWt CR WP WK WR WE WL : Addr}
abbrev s_check_window : Stmt := top 21
theorem sc_check_window : FnScope ["window", "low", "high"] ["window"] (C8.fnScope s_check_window) := C8.fnScope_by (by decide +kernel)
def sp_check_window (K : PySem.W.Frag) : Sp := fun vs H Q _ => ∃ (W : Addr) (lo hi : Int), vs = [.ref W] ∧ SqT K H W [.int lo, .int hi] ∧ (0 ≤ lo ∧ lo ≤ hi ∧ hi ≤ 1000) ∧ Q .non H
theorem ok_check_window (T : TxtQ K mg) {f : Addr} {fd : FuncData} (D : C8.Def K mg "check_window" s_check_window f fd) (b : Binds K fd ["window"] []) (g_is_range : C8.Cal P w K mg base 2 "is_range" sp_is_range []) : C8.Cal P w K mg base 3 "check_window" (sp_check_window K) [] := by
  refine C8.cal0 D b .nil sc_check_window (fun vs H Q E h => ?_) fun cdv A outer s H vs Q E hr h => ?_
  · obtain ⟨W, lo, hi, rfl, _⟩ := h; rfl
  · obtain ⟨W, lo, hi, rfl, hW, ok, q⟩ := h
    have nd := sc_check_window.nd
    obtain ⟨tg, c_GREATEST_HIGH⟩ := T.c_GREATEST_HIGH
    refine ⟨_, (pss_cons (ps_asg (pv 0) (pg_tup rfl (pgs_cons (pg_name (i := 1) nd rfl (Or.inl rfl)) (pgs_cons (pg_name (i := 2) nd rfl (Or.inl rfl)) pgs_nil))))
      (pss_one (ps_if (pt_not (pt_val (C8.pe_c g_is_range hr (by first | decide | exact Nat.le_refl _ | omega) (by rfl) (pa_cons (pv 1) (pa_cons (pv 2) (pa_cons (pe_glob (v := .int 1000) rfl c_GREATEST_HIGH ⟨_, rfl⟩) pa_nil)))))) (pss_one ps_never) pss_nil))), ?_⟩
    walk_at "go"
    refine g_gtup hW rfl ?_
    walk_at "go"
    refine ⟨lo, hi, 1000, rfl, ok, ?_⟩
    walk_at "go"
    exact q

/-! ### the first bite -/
def fb (lo hi : Int) : Int → List Int → Int × Str
  | last, [] => (last + hi + 1, ("late" : Str))
  | last, p :: ps => if p > last + hi then (last + hi + 1, ("late" : Str)) else if p < last + lo then (p, ("early" : Str)) else fb lo hi p ps
theorem fb_nil (lo hi last : Int) : fb lo hi last [] = (last + hi + 1, ("late" : Str)) := rfl
theorem fb_late {lo hi last p : Int} {ps : List Int} (h : p > last + hi) : fb lo hi last (p :: ps) = (last + hi + 1, ("late" : Str)) := if_pos h
theorem fb_early {lo hi last p : Int} {ps : List Int} (h : ¬ p > last + hi) (h2 : p < last + lo) : fb lo hi last (p :: ps) = (p, ("early" : Str)) := (if_neg h).trans (if_pos h2)
theorem fb_next {lo hi last p : Int} {ps : List Int} (h : ¬ p > last + hi) (h2 : ¬ p < last + lo) : fb lo hi last (p :: ps) = fb lo hi p ps := (if_neg h).trans (if_neg h2)

abbrev s_first_bite : Stmt := top 22
theorem sc_first_bite : FnScope ["window", "pats", "low", "high", "last", "pat"] ["window", "pats"] (C8.fnScope s_first_bite) := C8.fnScope_by (by decide +kernel)
def sp_first_bite (K : PySem.W.Frag) : Sp := fun vs H Q _ => ∃ (W S : Addr) (lo hi : Int) (ps : List Int), vs = [.ref W, .ref S] ∧ SqT K H W [.int lo, .int hi] ∧ SqL K H S (ps.map V.int) ∧
  ∀ q, H q = none → Q (.ref q) (upd H q (.tup [.int (fb lo hi 0 ps).1, .str (fb lo hi 0 ps).2]))
theorem ok_first_bite (T : TxtQ K mg) {f : Addr} {fd : FuncData} (D : C8.Def K mg "first_bite" s_first_bite f fd) (b : Binds K fd ["window", "pats"] []) : C8.Cal P w K mg base 1 "first_bite" (sp_first_bite K) [] := by
  refine C8.cal0 D b .nil sc_first_bite (fun vs H Q E h => ?_) fun cdv A outer s H vs Q E hr h => ?_
  · obtain ⟨W, S, lo, hi, ps, rfl, _⟩ := h; rfl
  · obtain ⟨W, S, lo, hi, ps, rfl, hW, hS, q⟩ := h
    have nd := sc_first_bite.nd
    refine ⟨_, (pss_cons (ps_asg (pv 0) (pg_tup rfl (pgs_cons (pg_name (i := 2) nd rfl (Or.inl rfl)) (pgs_cons (pg_name (i := 3) nd rfl (Or.inl rfl)) pgs_nil))))
      (pss_cons (ps_set (i := 4) nd rfl (Or.inl rfl) pe_int)
      (pss_cons (ps_for PassesOwn.never rfl (pi_list (pv 1)) (pg_name (i := 5) nd rfl (Or.inl rfl)) (pss_cons (ps_if (pt_cmpR op_gt (pv 5) (pe_op op_add (pv 4) (pv 3)) (nomark _)) (pss_one ps_break) pss_nil)
      (pss_cons (ps_if (pt_cmpR op_lt (pv 5) (pe_op op_add (pv 4) (pv 2)) (nomark _)) (pss_one (ps_ret (pe_tup (pa_cons (pv 5) (pa_cons pe_str pa_nil))))) pss_nil)
      (pss_one (ps_set (i := 4) nd rfl (Or.inl rfl) (pv 5))))))
      (pss_one (ps_ret (pe_tup (pa_cons (pe_op op_add (pe_op op_add (pv 4) (pv 3)) pe_int) (pa_cons pe_str pa_nil)))))))), ?_⟩
    walk_at "go"
    refine g_gtup hW rfl ?_
    walk_at "go"
    refine w_list (xs := ps.map V.int) (fun i σ H' => H' = H ∧ ∃ (last : Int) (v : Option V), σ = [some (.ref W), some (.ref S), some (.int lo), some (.int hi), some (.int last), v] ∧ fb lo hi 0 ps = fb lo hi last (ps.drop i)) ?_ ?_ ?_ ?_
    · exact ⟨rfl, 0, none, rfl, rfl⟩
    · rintro i σ H' _ ⟨rfl, _⟩; exact hS
    · rintro i x σ H' hx ⟨rfl, last, v, rfl, e⟩
      obtain ⟨p, hp, rfl⟩ : ∃ p, ps[i]? = some p ∧ x = V.int p := by
        rw [List.getElem?_map] at hx
        cases hq : ps[i]? with
        | none => rw [hq] at hx; cases hx
        | some z => rw [hq] at hx; exact ⟨z, rfl, (Option.some.inj hx).symm⟩
      have ed : ps.drop i = p :: ps.drop (i + 1) := by
        obtain ⟨hl, hh⟩ := List.getElem?_eq_some_iff.mp hp
        rw [List.drop_eq_getElem_cons hl, hh]
      rw [ed] at e
      walk_at "go"
      refine g_ite (fun h1 => ?_) (fun h1 => ?_)
      · rw [fb_late h1] at e
        rw [e] at q
        walk_at "go"
        exact q
      · walk_at "go"
        refine g_ite (fun h2 => ?_) (fun h2 => ?_)
        · rw [fb_early h1 h2] at e
          rw [e] at q
          walk_at "go"
          exact q
        · rw [fb_next h1 h2] at e
          walk_at "go"
          exact ⟨rfl, p, _, rfl, e⟩
    · rintro σ H' ⟨rfl, last, v, rfl, e⟩
      rw [List.length_map, List.drop_length, fb_nil] at e
      rw [e] at q
      walk_at "go"
      exact q
abbrev s_bite_of_rounds : Stmt := top 35
theorem sc_bite_of_rounds : FnScope ["window", "plan", "rounds", "delays", "run", "turn"] ["window", "plan", "rounds", "delays"] (C8.fnScope s_bite_of_rounds) := C8.fnScope_by (by decide +kernel)
def sp_br (K : PySem.W.Frag) (n : Nat) : Sp := fun vs H Q _ => ∃ (W DL : Addr) (lo hi : Int) (v : V) (p : Pl) (l m : Nat) (ds nq : List Int) (t' : Int), vs = [.ref W, v, nV m, .ref DL] ∧ SqT K H W [.int lo, .int hi] ∧ H W = some (.tup [.int lo, .int hi]) ∧ PlA H v p ∧ okP n l p ∧ H DL = some (.lst (ds.map V.int)) ∧ m ≤ 1001 ∧
  iter (rn p) m ds 0 = some (nq, [], t') ∧ nq.length ≤ 10000000 ∧ ∀ H' q, Same H H' → H' q = some (.tup [.int (fb lo hi 0 nq).1, .str (fb lo hi 0 nq).2]) → Q (.ref q) H'
theorem ok_br {n : Nat} (T : TxtQ K mg) (TR : TxtR K CR) {f : Addr} {fd : FuncData} (D : C8.Def K mg "bite_of_rounds" s_bite_of_rounds f fd) (b : Binds K fd ["window", "plan", "rounds", "delays"] []) (g_Run : C8.Mak P w K mg base 1 "Run" CR (sp_init CR) []) (m_follow : C8.Met P w K mg base (n + 3) CR "follow" (sp_follow K CR (n + 1)) []) (g_first_bite : C8.Cal P w K mg base 1 "first_bite" (sp_first_bite K) []) :
    C8.Cal P w K mg base (n + 4) "bite_of_rounds" (sp_br K n) [] := by
  refine C8.cal0 D b .nil sc_bite_of_rounds (fun vs H Q E h => ?_) fun cdv A outer s H vs Q E hr h => ?_
  · obtain ⟨W, DL, lo, hi, v, p, l, m, ds, nq, t', rfl, _⟩ := h; rfl
  · obtain ⟨W, DL, lo, hi, v, p, l, m, ds, nq, t', rfl, _, hW, pA, ok, hD, m1, it, sz, q⟩ := h
    have nd := sc_bite_of_rounds.nd
    have hr : Room (n + 3) _ := hr
    refine ⟨_, (pss_cons (ps_set (i := 4) nd rfl (Or.inl rfl) (C8.pe_mk g_Run hr (by first | decide | exact Nat.le_refl _ | omega) (by rfl) (pa_cons (pv 3) pa_nil)))
      (pss_cons (ps_for PassesOwn.never rfl (pi_range1 rfl T.n_range (pa_cons (pv 2) pa_nil)) (pg_name (i := 5) nd rfl (Or.inl rfl)) (pss_one (ps_expr (C8.pe_mt m_follow hr (by first | decide | exact Nat.le_refl _ | omega) (pv 4) (pa_cons (pv 1) pa_nil)))))
      (pss_one (ps_ret (C8.pe_c g_first_bite hr (by first | decide | exact Nat.le_refl _ | omega) (by rfl) (pa_cons (pv 0) (pa_cons (pe_fld (pv 4) rfl) pa_nil))))))), ?_⟩
    walk_at "go"
    refine g_make ?_
    walk_at "go"
    intro R dx hx hd nx
    obtain ⟨G, eG, s1, g1, k1, n1⟩ := made (C := CR) hx hd nx
    rw [eG]
    refine ⟨R, dx, DL, rfl, g1, fun H2 PA f2 hPA e2 e3 => ⟨rfl, ?_⟩⟩
    have s2 := k1 _ f2
    have nPA : H PA = none := by
      cases hq : H PA with
      | none => rfl
      | some o => rw [s1 _ _ hq] at hPA; cases hPA
    have nDL : DL ≠ PA := ne_of_none hD nPA
    walk_at "go"
    refine w_range (by omega) (by omega) (fun i σ H' => ∃ (u : Nat) (np np2 : List Int) (t1 : Int) (v5 : Option V), σ = [some (.ref W), some v, some (nV m), some (.ref DL), some (.ref R), v5] ∧ Same H H' ∧ H' R = some (.ins CR dx (runF DL PA u t1)) ∧ H' PA = some (.lst (np.map V.int)) ∧ u ≤ ds.length ∧
      iter (rn p) (m - i) (ds.drop u) t1 = some (np2, [], t') ∧ np ++ np2 = nq) ?_ ?_ ?_
    · exact ⟨0, [], nq, 0, _, rfl, s2, e2, e3, Nat.zero_le _, it, rfl⟩
    · rintro i σ H3 hi' ⟨u, np, np2, t1, v5, rfl, s3, r3, p3, hu, it3, ea⟩
      rw [show m - i = m - (i + 1) + 1 by omega] at it3
      simp only [iter] at it3
      obtain ⟨a2, d2, t2, b2, c1, c2, rfl⟩ := seqR_inv it3
      walk_at "go"
      refine ⟨_, rfl, R, dx, _, rfl, r3, lk_follow, ?_⟩
      walk_at "go"
      refine ⟨R, dx, DL, PA, u, t1, v, p, l, ds, np, a2, d2, t2, rfl, PlA_keep (keepT_same s3) _ _ pA, ok, r3, s3 _ _ hD, nDL, p3, hu, c1, by rw [← ea, List.length_append, List.length_append] at sz; omega, fun H4 u2 f4 hu2 eu2 r4 p4 => ?_⟩
      subst eu2
      walk_at "go"
      exact ⟨u2, np ++ a2, b2, t2, _, rfl, fun b o h => f4 _ _ (ne_of_none h hx) (ne_of_none h nPA) (s3 _ _ h), r4, p4, hu2, c2, by rw [List.append_assoc]; exact ea⟩
    · rintro σ H3 ⟨u, np, np2, t1, v5, rfl, s3, r3, p3, hu, it3, ea⟩
      rw [show m - ((m : Int)).toNat = 0 by omega] at it3
      simp only [iter, Option.some.injEq, Prod.mk.injEq] at it3
      obtain ⟨rfl, _, _⟩ := it3
      rw [List.append_nil] at ea
      subst ea
      walk_at "go"
      refine g_fldV rfl r3 TR.c TR.nP lk_p ?_
      walk_at "go"
      refine ⟨W, PA, lo, hi, np, rfl, SqT.of (s3 _ _ hW), SqL.of p3, fun z hz => ?_⟩
      walk_at "go"
      exact q _ z (s3.trans (same_new hz)) upd_same
end
end K05
namespace K05
open PySem PySem.Spec PyProof.Rows L2 Wd RT
local macro_rules | `(tactic| walk_at "gs") => `(tactic| repeat (first
  | with_reducible refine Wd.g_seq ?_
  | ((with_reducible show L2.Ends.nx _ _ _); (with_reducible refine Wd.g_nx ?_))
  | with_reducible refine Wd.g_asg ?_
  | ((with_reducible refine' Wd.g_var ?h1 ?_); (case h1 => exact rfl))
  | with_reducible refine Wd.g_c ?_
  | with_reducible refine Wd.g_op ?_
  | with_reducible refine Wd.g_un ?_
  | with_reducible refine Wd.g_I0 ?_
  | with_reducible refine Wd.g_U ?_
  | with_reducible refine Wd.g_eqI ?_
  | with_reducible refine Wd.g_neI ?_
  | with_reducible refine Wd.g_eqS ?_
  | with_reducible refine Wd.g_neS ?_
  | with_reducible refine Wd.g_eqB ?_
  | with_reducible refine Wd.g_neB ?_
  | with_reducible refine Wd.g_isN ?_
  | with_reducible refine Wd.g_notN ?_
  | with_reducible refine Wd.g_lc ?_
  | with_reducible refine Wd.g_yes ?_
  | with_reducible refine Wd.g_test ?_
  | with_reducible refine Wd.g_tB ?_
  | with_reducible refine Wd.g_bl ?_
  | with_reducible refine Wd.g_blI ?_
  | with_reducible refine Wd.g_and ?_
  | with_reducible refine Wd.g_or ?_
  | with_reducible refine Wd.g_not ?_
  | with_reducible refine Wd.g_andV ?_
  | with_reducible refine Wd.g_orV ?_
  | with_reducible refine Wd.g_notV ?_
  | with_reducible refine Wd.g_if ?_
  | with_reducible refine Wd.g_chain ?_
  | with_reducible refine Wd.g_chain3 ?_
  | with_reducible refine Wd.g_nil ?_
  | with_reducible refine Wd.g_cons ?_
  | with_reducible refine Wd.g_tup ?_
  | with_reducible refine Wd.g_lst ?_
  | with_reducible refine Wd.g_CB ?_
  | with_reducible refine Wd.g_call ?_
  | with_reducible refine Wd.g_callS ?_
  | with_reducible refine Wd.g_bm ?_
  | with_reducible refine Wd.g_bm0 ?_
  | with_reducible refine Wd.g_sl ?_
  | with_reducible refine Wd.g_part ?_
  | with_reducible refine Wd.g_part1 ?_
  | with_reducible refine Wd.g_noPart ?_
  | with_reducible refine Wd.g_next ?_
  | with_reducible refine Wd.g_name ?_
  | with_reducible refine Wd.g_sub ?_
  | with_reducible refine Wd.g_gnil ?_
  | with_reducible refine Wd.g_gcons ?_
  | with_reducible refine Wd.g_drop ?_
  | with_reducible refine Wd.g_ret ?_
  | with_reducible refine Wd.g_retN ?_
  | with_reducible refine Wd.g_brk ?_
  | with_reducible refine Wd.g_cont ?_
  | ((with_reducible show L2.Ends.bk _ _ _); (with_reducible refine Wd.g_bk ?_))
  | ((with_reducible show L2.Ends.ct _ _ _); (with_reducible refine Wd.g_ct ?_))
  | ((with_reducible show L2.Ends.rt _ _ _); (with_reducible refine Wd.g_rt ?_))
  | with_reducible refine Wd.g_for ?_
  | with_reducible refine Wd.g_rng1 ?_
  | with_reducible refine Wd.g_rng2 ?_
  | with_reducible refine Wd.g_iList ?_
  | with_reducible refine Wd.g_iTup ?_
  | ((with_reducible refine Wd.g_fit ?h1 ?_); (case h1 => exact rfl))
  | with_reducible refine Wd.g_max2 ?_
  | with_reducible refine Wd.g_min2 ?_
  | with_reducible refine Wd.g_int1B ?_
  | with_reducible refine L2.iteT ?_
  | with_reducible refine L2.iteF ?_
  | ((with_reducible refine Wd.g_itT ?h1 ?_); (case h1 => exact rfl))
  | ((with_reducible refine Wd.g_itF ?h1 ?_); (case h1 => exact rfl))))
section
variable {P : Program} {w : World} {K : PySem.W.Frag} {mg : Str → Option Value} {base : Heap} {CWt CR WP WK WR WE WL : Addr}
abbrev s_judged : Stmt := top 36
theorem sc_judged : FnScope ["window", "plan", "watcher", "goals", "rounds", "delays"] ["window", "plan"] (C8.fnScope s_judged) := C8.fnScope_by (by decide +kernel)
/-- safe: a set of gaps without 0 and with the bite, out of which nothing leads; bitten: a run that is bitten -/
def sp_jd (n : Nat) : Sp := fun vs H Q _ => ∃ (W : Addr) (lo hi : Nat) (v : V) (p : Pl) (l : Nat), vs = [.ref W, v] ∧ H W = some (.tup [nV lo, nV hi]) ∧ lo ≤ hi ∧ hi ≤ 1000 ∧ PlA H v p ∧ okP n l p ∧ n ≤ 5 ∧ l ≤ 2 ∧ cnt p ≤ 30 ∧
  (∀ H' t Z, Same H H' → H t = none → H' t = some (.tup [.str "safe"]) → Bits hi (Led lo hi p) Z Z → Z.testBit (hi + 1) = true → Z.testBit 0 = false → Q (.ref t) H') ∧
  ∀ H' t D q m ds nq t', Same H H' → H t = none → H D = none → D ≠ t → H' t = some (.tup [.str "bitten", nV m, .ref D, .ref q]) → H' D = some (.lst (ds.map V.int)) → H' q = some (.tup [.int (fb lo hi 0 nq).1, .str (fb lo hi 0 nq).2]) →
    m ≤ 1001 → iter (rn p) m ds 0 = some (nq, [], t') → gapOf lo hi nq t' = ((hi + 1 : Nat) : Int) → ds.length ≤ 3003000 → nq.length ≤ 3003000 → Q (.ref t) H'
theorem ok_judged {n : Nat} (T : TxtQ K mg) {f : Addr} {fd : FuncData} (D : C8.Def K mg "judged" s_judged f fd) (b : Binds K fd ["window", "plan"] []) (g_check_window : C8.Cal P w K mg base 3 "check_window" (sp_check_window K) []) (g_check_plan : C8.Cal P w K mg base 4 "check_plan" (sp_check_plan K) [])
    (g_Watcher : C8.Mak P w K mg base 1 "Watcher" CWt (sp_winit K CWt) []) (g_goals_of_rounds : C8.Cal P w K mg base (6 + 3 * n) "goals_of_rounds" (sp_gr CWt n) []) (g_delays_of_rounds : C8.Cal P w K mg base (6 + 3 * n) "delays_of_rounds" (sp_dr CWt n) []) (g_bite_of_rounds : C8.Cal P w K mg base (n + 4) "bite_of_rounds" (sp_br K n) []) :
    C8.Cal P w K mg base (7 + 3 * n) "judged" (sp_jd n) [] := by
  have lv : 7 + 3 * n = (6 + 3 * n) + 1 := by omega
  rw [lv]
  refine C8.cal0 D b .nil sc_judged (fun vs H Q E h => ?_) fun cdv A outer s H vs Q E hr h => ?_
  · obtain ⟨W, lo, hi, v, p, l, rfl, _⟩ := h; rfl
  · obtain ⟨W, lo, hi, v, p, l, rfl, hW, l1, l2, pA, ok, n5, ll, cn, q1, q2⟩ := h
    have nd := sc_judged.nd
    have m3 : mx p ≤ 3000 := by
      have h1 := mx_le p n l ok
      have h2 : 10 ^ l ≤ 10 ^ 2 := Nat.pow_le_pow_right (by decide) ll
      have h3 := Nat.mul_le_mul cn h2
      omega
    refine ⟨_, (pss_cons (ps_expr (C8.pe_c g_check_window hr (by first | decide | exact Nat.le_refl _ | omega) (by rfl) (pa_cons (pv 0) pa_nil)))
      (pss_cons (ps_expr (C8.pe_c g_check_plan hr (by first | decide | exact Nat.le_refl _ | omega) (by rfl) (pa_cons (pv 1) pa_nil)))
      (pss_cons (ps_set (i := 2) nd rfl (Or.inl rfl) (C8.pe_mk g_Watcher hr (by first | decide | exact Nat.le_refl _ | omega) (by rfl) (pa_cons (pv 0) pa_nil)))
      (pss_cons (ps_set (i := 3) nd rfl (Or.inl rfl) (C8.pe_c g_goals_of_rounds hr (by first | decide | exact Nat.le_refl _ | omega) (by rfl) (pa_cons (pv 2) (pa_cons (pv 1) pa_nil))))
      (pss_cons (ps_if (pt_cmpR op_isN1 (pv 3) pe_non (nomark _)) (pss_one (ps_ret (pe_tup (pa_cons pe_str pa_nil)))) pss_nil)
      (pss_cons (ps_set (i := 4) nd rfl (Or.inl rfl) (pe_op op_sub (pe_callB (r := Wd.rLen K) call_len1 (by rfl) T.n_len PySem.boot_len (pa_cons (pv 3) pa_nil)) pe_int))
      (pss_cons (ps_set (i := 5) nd rfl (Or.inl rfl) (C8.pe_c g_delays_of_rounds hr (by first | decide | exact Nat.le_refl _ | omega) (by rfl) (pa_cons (pv 2) (pa_cons (pv 1) (pa_cons (pv 3) pa_nil)))))
      (pss_one (ps_ret (pe_tup (pa_cons pe_str (pa_cons (pv 4) (pa_cons (pv 5) (pa_cons (C8.pe_c g_bite_of_rounds hr (by first | decide | exact Nat.le_refl _ | omega) (by rfl) (pa_cons (pv 0) (pa_cons (pv 1) (pa_cons (pv 4) (pa_cons (pv 5) pa_nil))))) pa_nil)))))))))))))), ?_⟩
    walk_at "go"
    refine ⟨W, lo, hi, rfl, SqT.of hW, ⟨by omega, by omega, by omega⟩, ?_⟩
    walk_at "go"
    refine ⟨v, p, n, l, rfl, pA, ok, n5, ll, cn, fun H1 s1 => ?_⟩
    walk_at "go"
    refine g_make ?_
    walk_at "go"
    intro x dx hx hd nx
    obtain ⟨G, eG, s2, g2, k2, n2⟩ := made (C := CWt) hx hd nx
    rw [eG]
    refine ⟨x, dx, W, lo, hi, rfl, g2, SqT.of (s2 _ _ (s1 _ _ hW)), l1, l2, fun H2 f2 e2 => ⟨rfl, ?_⟩⟩
    have s3 : Same H H2 := s1.trans (k2 _ f2)
    walk_at "go"
    refine ⟨x, lo, hi, v, p, l, rfl, ⟨dx, e2⟩, l1, l2, PlA_keep (keepT_same s3) _ _ pA, ok, fun H4 Z s4 bz z1 z0 => ?_, fun H4 L zs g s4 hL ch b0 zl => ?_⟩
    · walk_at "go"
      intro t ht
      walk_at "go"
      have s5 := s3.trans s4
      refine q1 _ t Z (s5.trans (same_new ht)) ?_ upd_same bz z1 z0
      cases hq : H t with
      | none => rfl
      | some o => rw [s5 _ _ hq] at ht; cases ht
    · have s5 := s3.trans s4
      walk_at "go"
      refine g_len (.inl (SqL.of hL)) ?_
      walk_at "go"
      have el : (((zs ++ [g]).map nV).length : Int) - 1 = ((zs.length : Nat) : Int) := by rw [List.length_map, List.length_append, List.length_singleton]; omega
      rw [el]
      walk_at "go"
      refine ⟨x, L, lo, hi, v, p, l, zs, g, rfl, ⟨dx, s4 _ _ e2⟩, l1, l2, PlA_keep (keepT_same s5) _ _ pA, ok, m3, hL, ch, b0, zl, fun H5 DD as s6 nD eD go al => ?_⟩
      have s7 := s5.trans s6
      have nDH : H DD = none := by
        cases hq : H DD with
        | none => rfl
        | some o => rw [s5 _ _ hq] at nD; cases nD
      obtain ⟨nq, t', it, gp⟩ := go [] 0
      rw [List.append_nil] at it
      have gp0 := gp [] (by unfold gapOf stL; simp only; omega)
      rw [List.nil_append] at gp0
      have al2 : as.length ≤ 3003000 := by
        have := Nat.mul_le_mul (show zs.length ≤ 1001 by omega) m3
        omega
      have nl : nq.length ≤ 3003000 := by
        have h1 := iter_le (B := cnt p * 10 ^ l) (fun ds t nq ds' t' h => np_le p n l ds t nq ds' t' ok h) zs.length as 0 nq [] t' it
        have h2 : 10 ^ l ≤ 10 ^ 2 := Nat.pow_le_pow_right (by decide) ll
        have h3 := Nat.mul_le_mul cn h2
        have h4 := Nat.mul_le_mul (show zs.length ≤ 1001 by omega) h3
        omega
      walk_at "go"
      refine ⟨W, DD, lo, hi, v, p, l, zs.length, as, nq, t', rfl, SqT.of (s7 _ _ hW), s7 _ _ hW, PlA_keep (keepT_same s7) _ _ pA, ok, eD, by omega, it, by omega, fun H6 qq s8 eq => ?_⟩
      walk_at "go"
      intro t ht
      walk_at "go"
      have s9 := s7.trans s8
      have eD6 := s8 _ _ eD
      refine q2 _ t DD qq zs.length as nq t' (s9.trans (same_new ht)) ?_ nDH (fun y => by rw [y, ht] at eD6; cases eD6) upd_same (same_new ht _ _ eD6) (same_new ht _ _ eq) (by omega) it gp0 al2 nl
      cases hq : H t with
      | none => rfl
      | some o => rw [s9 _ _ hq] at ht; cases ht
end
end K05
namespace K05
open PySem PySem.Spec PyProof.Rows L2 Wd RT
local macro_rules | `(tactic| walk_at "gs") => `(tactic| repeat (first
  | with_reducible refine Wd.g_seq ?_
  | ((with_reducible show L2.Ends.nx _ _ _); (with_reducible refine Wd.g_nx ?_))
  | with_reducible refine Wd.g_asg ?_
  | ((with_reducible refine' Wd.g_var ?h1 ?_); (case h1 => exact rfl))
  | with_reducible refine Wd.g_c ?_
  | with_reducible refine Wd.g_op ?_
  | with_reducible refine Wd.g_un ?_
  | with_reducible refine Wd.g_I0 ?_
  | with_reducible refine Wd.g_U ?_
  | with_reducible refine Wd.g_eqI ?_
  | with_reducible refine Wd.g_neI ?_
  | with_reducible refine Wd.g_eqS ?_
  | with_reducible refine Wd.g_neS ?_
  | with_reducible refine Wd.g_eqB ?_
  | with_reducible refine Wd.g_neB ?_
  | with_reducible refine Wd.g_isN ?_
  | with_reducible refine Wd.g_notN ?_
  | with_reducible refine Wd.g_lc ?_
  | with_reducible refine Wd.g_yes ?_
  | with_reducible refine Wd.g_test ?_
  | with_reducible refine Wd.g_tB ?_
  | with_reducible refine Wd.g_bl ?_
  | with_reducible refine Wd.g_blI ?_
  | with_reducible refine Wd.g_and ?_
  | with_reducible refine Wd.g_or ?_
  | with_reducible refine Wd.g_not ?_
  | with_reducible refine Wd.g_andV ?_
  | with_reducible refine Wd.g_orV ?_
  | with_reducible refine Wd.g_notV ?_
  | with_reducible refine Wd.g_if ?_
  | with_reducible refine Wd.g_chain ?_
  | with_reducible refine Wd.g_chain3 ?_
  | with_reducible refine Wd.g_nil ?_
  | with_reducible refine Wd.g_cons ?_
  | with_reducible refine Wd.g_tup ?_
  | with_reducible refine Wd.g_lst ?_
  | with_reducible refine Wd.g_CB ?_
  | with_reducible refine Wd.g_call ?_
  | with_reducible refine Wd.g_callS ?_
  | with_reducible refine Wd.g_bm ?_
  | with_reducible refine Wd.g_bm0 ?_
  | with_reducible refine Wd.g_sl ?_
  | with_reducible refine Wd.g_part ?_
  | with_reducible refine Wd.g_part1 ?_
  | with_reducible refine Wd.g_noPart ?_
  | with_reducible refine Wd.g_next ?_
  | with_reducible refine Wd.g_name ?_
  | with_reducible refine Wd.g_sub ?_
  | with_reducible refine Wd.g_gnil ?_
  | with_reducible refine Wd.g_gcons ?_
  | with_reducible refine Wd.g_drop ?_
  | with_reducible refine Wd.g_ret ?_
  | with_reducible refine Wd.g_retN ?_
  | with_reducible refine Wd.g_brk ?_
  | with_reducible refine Wd.g_cont ?_
  | ((with_reducible show L2.Ends.bk _ _ _); (with_reducible refine Wd.g_bk ?_))
  | ((with_reducible show L2.Ends.ct _ _ _); (with_reducible refine Wd.g_ct ?_))
  | ((with_reducible show L2.Ends.rt _ _ _); (with_reducible refine Wd.g_rt ?_))
  | with_reducible refine Wd.g_for ?_
  | with_reducible refine Wd.g_rng1 ?_
  | with_reducible refine Wd.g_rng2 ?_
  | with_reducible refine Wd.g_iList ?_
  | with_reducible refine Wd.g_iTup ?_
  | ((with_reducible refine Wd.g_fit ?h1 ?_); (case h1 => exact rfl))
  | with_reducible refine Wd.g_max2 ?_
  | with_reducible refine Wd.g_min2 ?_
  | with_reducible refine Wd.g_int1B ?_
  | with_reducible refine L2.iteT ?_
  | with_reducible refine L2.iteF ?_
  | ((with_reducible refine Wd.g_itT ?h1 ?_); (case h1 => exact rfl))
  | ((with_reducible refine Wd.g_itF ?h1 ?_); (case h1 => exact rfl))))
/-! ### whatever a run does, Led knows -/
def Snd (lo hi : Nat) (f : List Int → Int → Res) (L : (Nat → Prop) → Nat → Prop) : Prop := ∀ x t nq y t' pats (g : Nat), g ≤ hi + 1 → gapOf lo hi pats t = (g : Int) → f x t = some (nq, y, t') → ∃ g' : Nat, g' ≤ hi + 1 ∧ gapOf lo hi (pats ++ nq) t' = (g' : Int) ∧ ∀ G : Nat → Prop, G g' → L G g
theorem snd_id {lo hi : Nat} {f : List Int → Int → Res} {L : (Nat → Prop) → Nat → Prop} (h : ∀ x t, f x t = some ([], x, t)) (hl : ∀ G g, G g → L G g) : Snd lo hi f L := fun x t nq y t' pats g hg gp e => by
  rw [h] at e
  simp only [Option.some.injEq, Prod.mk.injEq] at e
  obtain ⟨rfl, rfl, rfl⟩ := e
  exact ⟨g, hg, by rw [List.append_nil]; exact gp, fun G hG => hl G g hG⟩
theorem snd_seq {lo hi : Nat} {f k h : List Int → Int → Res} {L1 L2 L : (Nat → Prop) → Nat → Prop} (e : ∀ ds t, h ds t = seqR (f ds t) k) (hl : ∀ G g, L1 (L2 G) g → L G g) (c1 : Snd lo hi f L1) (c2 : Snd lo hi k L2) : Snd lo hi h L := fun x t nq y t' pats g hg gp r => by
  rw [e] at r
  obtain ⟨a, ds, t1, b, h1, h2, rfl⟩ := seqR_inv r
  obtain ⟨g1, i1, j1, k1⟩ := c1 _ _ _ _ _ _ _ hg gp h1
  obtain ⟨g2, i2, j2, k2⟩ := c2 _ _ _ _ _ _ _ i1 j1 h2
  exact ⟨g2, i2, by rw [← List.append_assoc]; exact j2, fun G hG => hl G g (k1 _ (k2 G hG))⟩
theorem snd_iter {lo hi : Nat} {f : List Int → Int → Res} {L : (Nat → Prop) → Nat → Prop} (c : Snd lo hi f L) : ∀ n, Snd lo hi (iter f n) (iterP L n)
  | 0 => snd_id (fun x t => by simp only [iter]) fun G g h => h
  | n + 1 => snd_seq (f := f) (k := iter f n) (L1 := L) (L2 := iterP L n) (fun ds t => by simp only [iter]) (fun G g h => h) c (snd_iter c n)
mutual
theorem rn_led {lo hi : Nat} (hl : lo ≤ hi) : ∀ (p : Pl) (d l : Nat), okP d l p → Snd lo hi (rn p) (Led lo hi p)
  | .pat, d, l, ok => fun x t nq y t' pats g hg gp e => by
    obtain ⟨n1, t1, e1, q1⟩ := go_pat (g := g) hl x t
    rw [List.nil_append, e] at e1
    simp only [Option.some.injEq, Prod.mk.injEq] at e1
    obtain ⟨rfl, _, rfl⟩ := e1
    exact ⟨_, gP_le, q1 pats gp, fun G h => by unfold Led; exact h⟩
  | .work a b, d, l, ok => fun x t nq y t' pats g hg gp e => by
    unfold okP at ok
    cases x with
    | nil => simp only [rn] at e; cases e
    | cons d0 ds =>
      have e0 := e
      simp only [rn] at e
      split at e
      · rename_i c
        obtain ⟨a', rfl⟩ : ∃ a' : Nat, a = a' := ⟨a.toNat, by omega⟩
        obtain ⟨b', rfl⟩ : ∃ b' : Nat, b = b' := ⟨b.toNat, by omega⟩
        obtain ⟨d', rfl⟩ : ∃ d' : Nat, d0 = d' := ⟨d0.toNat, by omega⟩
        obtain ⟨n1, t1, e1, q1⟩ := go_work (lo := lo) (hi := hi) (g := g) (a := a') (b := b') (d := d') (by omega) (by omega) ds t
        rw [show [(d' : Int)] ++ ds = (d' : Int) :: ds from rfl, e0] at e1
        simp only [Option.some.injEq, Prod.mk.injEq] at e1
        obtain ⟨rfl, _, rfl⟩ := e1
        exact ⟨_, gW_le, q1 pats gp, fun G h => by unfold Led; exact ⟨d', by omega, by omega, h⟩⟩
      · cases e
  | .row ps, 0, l, ok => by unfold okP at ok; exact ok.elim
  | .row ps, d + 1, l, ok => fun x t nq y t' pats g hg gp e => by
    unfold okP at ok
    simp only [rn] at e
    obtain ⟨g', h1, h2, h3⟩ := rns_led hl ps d l ok.2.2 _ _ _ _ _ _ _ hg gp e
    exact ⟨g', h1, h2, fun G h => by unfold Led; exact h3 G h⟩
  | .either ps, 0, l, ok => by unfold okP at ok; exact ok.elim
  | .either ps, d + 1, l, ok => fun x t nq y t' pats g hg gp e => by
    unfold okP at ok
    cases x with
    | nil => simp only [rn] at e; cases e
    | cons d0 ds =>
      simp only [rn] at e
      split at e
      · obtain ⟨g', h1, h2, h3⟩ := rnAt_led hl ps d0.toNat d l ok.2.2 _ _ _ _ _ _ _ hg gp e
        exact ⟨g', h1, h2, fun G h => by unfold Led; exact h3 G h⟩
      · cases e
  | .loop a b p, 0, l, ok => by unfold okP at ok; exact ok.elim
  | .loop a b p, d + 1, 0, ok => by unfold okP at ok; exact ok.elim
  | .loop a b p, d + 1, l + 1, ok => fun x t nq y t' pats g hg gp e => by
    unfold okP at ok
    cases x with
    | nil => simp only [rn] at e; cases e
    | cons d0 ds =>
      simp only [rn] at e
      split at e
      · rename_i c
        obtain ⟨g', h1, h2, h3⟩ := snd_iter (rn_led hl p d l ok.2.2.2) d0.toNat _ _ _ _ _ _ _ hg gp e
        exact ⟨g', h1, h2, fun G h => by unfold Led; exact ⟨d0.toNat, by omega, by omega, h3 G h⟩⟩
      · cases e
theorem rns_led {lo hi : Nat} (hl : lo ≤ hi) : ∀ (ps : List Pl) (d l : Nat), okPs d l ps → Snd lo hi (rns ps) (Leds lo hi ps)
  | [], d, l, ok => snd_id (fun x t => by simp only [rns]) fun G g h => by unfold Leds; exact h
  | p :: ps, d, l, ok => by
    unfold okPs at ok
    exact snd_seq (fun ds t => by simp only [rns]) (fun G g h => by unfold Leds; exact h) (rn_led hl p d l ok.1) (rns_led hl ps d l ok.2)
theorem rnAt_led {lo hi : Nat} (hl : lo ≤ hi) : ∀ (ps : List Pl) (n d l : Nat), okPs d l ps → Snd lo hi (rnAt ps n) (LedE lo hi ps)
  | [], n, d, l, ok => fun x t nq y t' pats g hg gp e => by simp only [rnAt] at e; cases e
  | p :: ps, 0, d, l, ok => fun x t nq y t' pats g hg gp e => by
    unfold okPs at ok
    simp only [rnAt] at e
    obtain ⟨g', h1, h2, h3⟩ := rn_led hl p d l ok.1 _ _ _ _ _ _ _ hg gp e
    exact ⟨g', h1, h2, fun G h => by unfold LedE; exact .inl (h3 G h)⟩
  | p :: ps, n + 1, d, l, ok => fun x t nq y t' pats g hg gp e => by
    unfold okPs at ok
    simp only [rnAt] at e
    obtain ⟨g', h1, h2, h3⟩ := rnAt_led hl ps n d l ok.2 _ _ _ _ _ _ _ hg gp e
    exact ⟨g', h1, h2, fun G h => by unfold LedE; exact .inr (h3 G h)⟩
end
theorem fix_iter {lo hi Z : Nat} {p : Pl} (bz : Bits hi (Led lo hi p) Z Z) : ∀ (m i : Nat), i ≤ hi + 1 → iterP (Led lo hi p) m (inS Z) i → inS Z i
  | 0, i, _, h => h
  | m + 1, i, hi', h => (bz.bit i hi').mpr (Led.congr p (fun j hj x => fix_iter bz m j hj x) i hi' h)
/-- out of a closed set of gaps no run leads -/
theorem safe_runs {lo hi Z : Nat} {p : Pl} {d l : Nat} (hl : lo ≤ hi) (ok : okP d l p) (bz : Bits hi (Led lo hi p) Z Z) (z1 : Z.testBit (hi + 1) = true) (z0 : Z.testBit 0 = false) {m : Nat} {ds nq y : List Int} {t' : Int} (it : iter (rn p) m ds 0 = some (nq, y, t')) : gapOf lo hi nq t' ≠ ((hi + 1 : Nat) : Int) := fun h => by
  obtain ⟨g', h1, h2, h3⟩ := snd_iter (rn_led hl p d l ok) m ds 0 nq y t' [] 0 (Nat.zero_le _) (by unfold gapOf stL; simp only; omega) it
  rw [List.nil_append, h] at h2
  have e : hi + 1 = g' := by omega
  subst e
  have := fix_iter bz m 0 (Nat.zero_le _) (h3 _ z1)
  rw [show inS Z 0 = (Z.testBit 0 = true) from rfl, z0] at this
  cases this
/-! ### what is found, as data -/
theorem fb_kind (lo hi : Int) : ∀ (ps : List Int) (last : Int), (fb lo hi last ps).2 = ("late" : Str) ∨ (fb lo hi last ps).2 = ("early" : Str)
  | [], last => .inl rfl
  | p :: ps, last => by
    by_cases c1 : p > last + hi
    · rw [fb_late c1]; exact .inl rfl
    · by_cases c2 : p < last + lo
      · rw [fb_early c1 c2]; exact .inr rfl
      · rw [fb_next c1 c2]; exact fb_kind lo hi ps p
def btD (z : Int × Str) : PyData := .tuple [.int z.1, .str z.2]
theorem dp_bt {K : PySem.W.Frag} {H : Hp} {q : Addr} {z : Int × Str} (h : H q = some (.tup [.int z.1, .str z.2])) : Dp K H (.ref q) (btD z) := .tup (SqT.of h) (.cons (.int _) (.cons (.str _) .nil))
def fdD (m : Int) (ds : List Int) (z : Int × Str) : PyData := .tuple [.str "bitten", .int m, .list (ds.map PyData.int), btD z]
theorem fd_shaped (m : Int) (ds : List Int) {z : Int × Str} (h : z.2 = ("late" : Str) ∨ z.2 = ("early" : Str)) : SeqAt.shaped (fdD m ds z) = true := by
  have ok : PyData.strOk z.2 = true := by rcases h with h | h <;> rw [h] <;> decide +kernel
  have ok2 : PyData.strOk ("bitten" : Str) = true := by decide +kernel
  unfold SeqAt.shaped fdD btD
  rw [Bool.and_eq_true]
  refine ⟨by simp only [PyData.canLay0, PyData.canLayAll0, PySem.W.ke_canLayAll0, ok, ok2, Bool.and_true], decide_eq_true ?_⟩
  simp only [PyData.depth, PyData.depthAll, PySem.W.ke_depthAll]
  omega
theorem bt_shaped {z : Int × Str} (h : z.2 = ("late" : Str) ∨ z.2 = ("early" : Str)) : SeqAt.shaped (btD z) = true := by
  have ok : PyData.strOk z.2 = true := by rcases h with h | h <;> rw [h] <;> decide +kernel
  unfold SeqAt.shaped btD
  rw [Bool.and_eq_true]
  refine ⟨by simp only [PyData.canLay0, PyData.canLayAll0, ok, Bool.and_true], decide_eq_true ?_⟩
  simp only [PyData.depth, PyData.depthAll]
  omega
theorem safe_shaped : SeqAt.shaped (.tuple [.str ("safe" : Str)]) = true := by
  have ok : PyData.strOk ("safe" : Str) = true := by decide +kernel
  simp [SeqAt.shaped, PyData.canLay0, PyData.canLayAll0, PyData.depth, PyData.depthAll, ok]
theorem g_eqSafe {K : PySem.W.Frag} {a b : Addr} {H : Hp} {Q : VK} (h1 : H a = some (.tup [.str "safe"])) (h2 : H b = some (.tup [.str "safe"])) (q : Q (.bl true) H) : rEqD K (.ref a) (.ref b) H Q :=
  ⟨_, _, .tup (SqT.of h1) (.cons (.str _) .nil), .tup (SqT.of h2) (.cons (.str _) .nil), safe_shaped, safe_shaped, by
    have : PyData.eqv (.tuple [.str ("safe" : Str)]) (.tuple [.str ("safe" : Str)]) = true := by simp [PyData.eqv, PyData.eqvAll]
    rw [this]; exact q⟩
theorem g_eqFd {K : PySem.W.Frag} {a b D q : Addr} {m : Int} {ds : List Int} {z : Int × Str} {H : Hp} {Q : VK} (hk : z.2 = ("late" : Str) ∨ z.2 = ("early" : Str)) (h1 : H a = some (.tup [.str "bitten", .int m, .ref D, .ref q])) (hD : H D = some (.lst (ds.map V.int))) (hq : H q = some (.tup [.int z.1, .str z.2])) (h2 : H b = some (.tup [.str "safe"])) (k : Q (.bl false) H) : rEqD K (.ref a) (.ref b) H Q :=
  ⟨fdD m ds z, _, .tup (SqT.of h1) (.cons (.str _) (.cons (.int _) (.cons (dp_ints (SqL.of hD)) (.cons (dp_bt hq) .nil)))), .tup (SqT.of h2) (.cons (.str _) .nil), fd_shaped _ _ hk, safe_shaped, by
    have : PyData.eqv (fdD m ds z) (.tuple [.str ("safe" : Str)]) = false := by simp [fdD, PyData.eqv, PyData.eqvAll]
    rw [this]; exact k⟩
end K05
namespace K05
open PySem PySem.Spec PyProof.Rows L2 Wd Sn
local macro_rules | `(tactic| walk_at "gs") => `(tactic| repeat (first
  | with_reducible refine Wd.g_seq ?_
  | ((with_reducible show L2.Ends.nx _ _ _); (with_reducible refine Wd.g_nx ?_))
  | with_reducible refine Wd.g_asg ?_
  | ((with_reducible refine' Wd.g_var ?h1 ?_); (case h1 => exact rfl))
  | with_reducible refine Wd.g_c ?_
  | with_reducible refine Wd.g_op ?_
  | with_reducible refine Wd.g_un ?_
  | with_reducible refine Wd.g_I0 ?_
  | with_reducible refine Wd.g_U ?_
  | with_reducible refine Wd.g_eqI ?_
  | with_reducible refine Wd.g_neI ?_
  | with_reducible refine Wd.g_eqS ?_
  | with_reducible refine Wd.g_neS ?_
  | with_reducible refine Wd.g_eqB ?_
  | with_reducible refine Wd.g_neB ?_
  | with_reducible refine Wd.g_isN ?_
  | with_reducible refine Wd.g_notN ?_
  | with_reducible refine Wd.g_lc ?_
  | with_reducible refine Wd.g_yes ?_
  | with_reducible refine Wd.g_test ?_
  | with_reducible refine Wd.g_tB ?_
  | with_reducible refine Wd.g_bl ?_
  | with_reducible refine Wd.g_blI ?_
  | with_reducible refine Wd.g_and ?_
  | with_reducible refine Wd.g_or ?_
  | with_reducible refine Wd.g_not ?_
  | with_reducible refine Wd.g_andV ?_
  | with_reducible refine Wd.g_orV ?_
  | with_reducible refine Wd.g_notV ?_
  | with_reducible refine Wd.g_if ?_
  | with_reducible refine Wd.g_chain ?_
  | with_reducible refine Wd.g_chain3 ?_
  | with_reducible refine Wd.g_nil ?_
  | with_reducible refine Wd.g_cons ?_
  | with_reducible refine Wd.g_tup ?_
  | with_reducible refine Wd.g_lst ?_
  | with_reducible refine Wd.g_CB ?_
  | with_reducible refine Wd.g_call ?_
  | with_reducible refine Wd.g_callS ?_
  | with_reducible refine Wd.g_bm ?_
  | with_reducible refine Wd.g_bm0 ?_
  | with_reducible refine Wd.g_sl ?_
  | with_reducible refine Wd.g_part ?_
  | with_reducible refine Wd.g_part1 ?_
  | with_reducible refine Wd.g_noPart ?_
  | with_reducible refine Wd.g_next ?_
  | with_reducible refine Wd.g_name ?_
  | with_reducible refine Wd.g_sub ?_
  | with_reducible refine Wd.g_gnil ?_
  | with_reducible refine Wd.g_gcons ?_
  | with_reducible refine Wd.g_drop ?_
  | with_reducible refine Wd.g_ret ?_
  | with_reducible refine Wd.g_retN ?_
  | with_reducible refine Wd.g_brk ?_
  | with_reducible refine Wd.g_cont ?_
  | ((with_reducible show L2.Ends.bk _ _ _); (with_reducible refine Wd.g_bk ?_))
  | ((with_reducible show L2.Ends.ct _ _ _); (with_reducible refine Wd.g_ct ?_))
  | ((with_reducible show L2.Ends.rt _ _ _); (with_reducible refine Wd.g_rt ?_))
  | with_reducible refine Wd.g_for ?_
  | with_reducible refine Wd.g_rng1 ?_
  | with_reducible refine Wd.g_rng2 ?_
  | with_reducible refine Wd.g_iList ?_
  | with_reducible refine Wd.g_iTup ?_
  | ((with_reducible refine Wd.g_fit ?h1 ?_); (case h1 => exact rfl))
  | with_reducible refine Wd.g_max2 ?_
  | with_reducible refine Wd.g_min2 ?_
  | with_reducible refine Wd.g_int1B ?_
  | with_reducible refine L2.iteT ?_
  | with_reducible refine L2.iteF ?_
  | ((with_reducible refine Wd.g_itT ?h1 ?_); (case h1 => exact rfl))
  | ((with_reducible refine Wd.g_itF ?h1 ?_); (case h1 => exact rfl))))
section
variable {P : Program} {w : World} {K : PySem.W.Frag} {mg : Str → Option Value} {base : Heap}
mutual
theorem okP_up : ∀ (p : Pl) (d l : Nat), okP d l p → okP (d + 1) l p
  | .pat, d, l, h => by unfold okP; trivial
  | .work _ _, d, l, h => by unfold okP at h ⊢; exact h
  | .row ps, 0, l, h => by unfold okP at h; exact h.elim
  | .row ps, d + 1, l, h => by unfold okP at h ⊢; exact ⟨h.1, h.2.1, okPs_up ps d l h.2.2⟩
  | .either ps, 0, l, h => by unfold okP at h; exact h.elim
  | .either ps, d + 1, l, h => by unfold okP at h ⊢; exact ⟨h.1, h.2.1, okPs_up ps d l h.2.2⟩
  | .loop a b p, 0, l, h => by unfold okP at h; exact h.elim
  | .loop a b p, d + 1, 0, h => by unfold okP at h; exact h.elim
  | .loop a b p, d + 1, l + 1, h => by unfold okP at h ⊢; exact ⟨h.1, h.2.1, h.2.2.1, okP_up p d l h.2.2.2⟩
theorem okPs_up : ∀ (ps : List Pl) (d l : Nat), okPs d l ps → okPs (d + 1) l ps
  | [], d, l, h => by unfold okPs; trivial
  | p :: ps, d, l, h => by unfold okPs at h ⊢; exact ⟨okP_up p d l h.1, okPs_up ps d l h.2⟩
end
abbrev s_law_plan : Stmt := top 41
theorem sc_law_plan : FnScope ["_law_state", "_law_deep", "_law_loops", "_law_way", "_law_least", "_law_k", "_law_many"] ["_law_state", "_law_deep", "_law_loops"] (C8.fnScope s_law_plan) := C8.fnScope_by (by decide +kernel)
def sp_plan (K : PySem.W.Frag) : Nat → Sp
  | 0 => fun _ _ _ _ => False
  | d + 1 => fun vs H Q _ => ∃ (B : Hp) (S : Addr) (deep : Int) (l : Nat), vs = [.ref S, .int deep, .int l] ∧ Dst K B H S ∧ deep ≤ d + 1 ∧ ∀ H' v p, Frm S H H' → Dst K B H' S → PlA H' v p → okP d l p → okS (deep - 1).toNat p → Q v H'
theorem use_plan {d : Nat} {B H : Hp} {S : Addr} {deep z : Int} {l : Nat} {Q : VK} {E : XK} (hd : Dst K B H S) (hz : z = l) (h : deep ≤ d) (hp : 0 < d) (k : ∀ H' v p, Frm S H H' → Dst K B H' S → PlA H' v p → okP (d - 1) l p → okS (deep - 1).toNat p → Q v H') : sp_plan K d ([.ref S, .int deep, .int z] ++ []) H Q E := by
  subst hz
  match d, hp with
  | d + 1, _ => exact ⟨B, S, deep, l, rfl, hd, by omega, k⟩
theorem okS_at {x y : Int} {p : Pl} (h : okS x.toNat p) (e : y = x) : okS y.toNat p := e ▸ h
theorem either_ok {deep c : Int} {ps : List Pl} (h : 2 ≤ deep) (h2 : ps.length ≤ 10) (h3 : (ps.length : Int) = 1 + c) (s : okSs (if 3 < 1 + c then deep - 3 else deep - 2).toNat ps) : okS (deep - 1).toNat (.either ps) := by
  rw [show (deep - 1).toNat = (deep - 2).toNat + 1 by omega]
  unfold okS
  by_cases c3 : 3 < 1 + c
  · rw [if_pos c3] at s
    exact .inr ⟨h2, by rw [show (deep - 2).toNat - 1 = (deep - 3).toNat by omega]; exact s⟩
  · rw [if_neg c3] at s
    exact .inl ⟨by omega, s⟩
theorem plan_step (T : Txt K mg) {d : Nat} {f : Addr} {fd : FuncData} (D : C8.Def K mg "_law_plan" s_law_plan f fd) (b : Binds K fd ["_law_state", "_law_deep", "_law_loops"] []) (g_law_drawn : C8.Cal P w K mg base 1 "_law_drawn" (sp_drawn K) [])
    (g_law_plan : C8.Cal P w K mg base (d + 1) "_law_plan" (sp_plan K d) []) : C8.Cal P w K mg base (d + 2) "_law_plan" (sp_plan K (d + 1)) [] := by
  refine C8.cal0 D b .nil sc_law_plan (fun vs H Q E h => ?_) fun cdv A outer s H vs Q E hr h => ?_
  · obtain ⟨B, S, deep, l, rfl, _⟩ := h; rfl
  · obtain ⟨B, S, deep, l, rfl, hd, hdeep, q⟩ := h
    have nd := sc_law_plan.nd
    have hr : Room (d + 1) _ := hr
    refine ⟨_, (pss_cons (ps_set (i := 3) nd rfl (Or.inl rfl) (C8.pe_c g_law_drawn hr (by first | decide | exact Nat.le_refl _ | omega) (by rfl) (pa_cons (pv 0) (pa_cons pe_int pa_nil))))
      (pss_cons (ps_if (PW.pt (pw_or (pt_cmpR op_lt (pv 1) pe_int (nomark _)) (pw_or1 (pt_cmpR op_lt (pv 3) pe_int (nomark _))))) (pss_cons (ps_set (i := 4) nd rfl (Or.inl rfl) (C8.pe_c g_law_drawn hr (by first | decide | exact Nat.le_refl _ | omega) (by rfl) (pa_cons (pv 0) (pa_cons pe_int pa_nil))))
      (pss_one (ps_ret (pe_ix (r := rIxL K) ix_list (pe_lst (pa_cons (pe_tup (pa_cons pe_str pa_nil)) (pa_cons (pe_tup (pa_cons pe_str (pa_cons (pv 4) (pa_cons (pe_op op_add (pv 4) (C8.pe_c g_law_drawn hr (by first | decide | exact Nat.le_refl _ | omega) (by rfl) (pa_cons (pv 0) (pa_cons pe_int pa_nil)))) pa_nil)))) pa_nil))) (pe_callTy call_intB (by rfl) T.n_int (by decide +kernel) (pa_cons (pe_cmpR op_gt (pe_op op_mod (pv 3) pe_int) pe_int (nomark _)) pa_nil)) (fun _ _ => rfl))))) pss_nil)
      (pss_cons (ps_if (PW.pt (pw_or (pt_cmpR op_lt (pv 3) pe_int (nomark _)) (pw_or1 (PW.pt (pw_and (pt_cmpR op_eq (pv 3) pe_int (nomark _)) (pw_and1 (pt_cmpR op_eq (pv 2) pe_int (nomark _)))))))) (pss_one (ps_ret (pe_tup (pa_cons pe_str (pa_cons (pe_callTy (r := rTupOf K) call_tuple1 (by rfl) T.n_tuple (by decide +kernel) (pa_cons (pe_lc (own := [("_law_k", 5)]) (g := gName 5) (tt := tYes) rfl nd (pi_range1 rfl T.n_range (pa_cons (pe_op op_add pe_int (C8.pe_c g_law_drawn hr (by first | decide | exact Nat.le_refl _ | omega) (by rfl) (pa_cons (pv 0) (pa_cons pe_int pa_nil)))) pa_nil)) (blkOk_by (N := ["_law_state", "_law_deep", "_law_loops", "_law_way", "_law_least", "_law_k", "_law_many"]) (sc := C8.fnScope s_law_plan) (by decide +kernel)) (fun _ _ _ _ _ => pg_name (i := 5) nd rfl (Or.inl rfl)) (fun _ _ _ _ _ => pts_nil) (fun _ _ _ _ _ => (C8.pe_c g_law_plan hr (by first | decide | exact Nat.le_refl _ | omega) (by rfl) (pa_cons (pv 0) (pa_cons (pe_op op_sub (pv 1) pe_int) (pa_cons (pv 2) pa_nil)))))) pa_nil)) pa_nil))))) pss_nil)
      (pss_cons (ps_if (pt_cmpR op_eq (pv 3) pe_int (nomark _)) (pss_cons (ps_set (i := 6) nd rfl (Or.inr rfl) (pe_op op_add pe_int (C8.pe_c g_law_drawn hr (by first | decide | exact Nat.le_refl _ | omega) (by rfl) (pa_cons (pv 0) (pa_cons (pe_ix (r := rIxL K) ix_list (pe_lst (pa_cons pe_int (pa_cons pe_int (pa_cons pe_int (pa_cons pe_int pa_nil))))) (C8.pe_c g_law_drawn hr (by first | decide | exact Nat.le_refl _ | omega) (by rfl) (pa_cons (pv 0) (pa_cons pe_int pa_nil))) (fun _ _ => rfl)) pa_nil)))))
      (pss_one (ps_ret (pe_tup (pa_cons pe_str (pa_cons (pe_callTy (r := rTupOf K) call_tuple1 (by rfl) T.n_tuple (by decide +kernel) (pa_cons (pe_lc (own := [("_law_k", 5)]) (g := gName 5) (tt := tYes) rfl nd (pi_range1 rfl T.n_range (pa_cons (pv 6) pa_nil)) (blkOk_by (N := ["_law_state", "_law_deep", "_law_loops", "_law_way", "_law_least", "_law_k", "_law_many"]) (sc := C8.fnScope s_law_plan) (by decide +kernel)) (fun _ _ _ _ _ => pg_name (i := 5) nd rfl (Or.inl rfl)) (fun _ _ _ _ _ => pts_nil) (fun _ _ _ _ _ => (C8.pe_c g_law_plan hr (by first | decide | exact Nat.le_refl _ | omega) (by rfl) (pa_cons (pv 0) (pa_cons (pe_op op_sub (pe_op op_sub (pv 1) pe_int) (pe_callTy call_intB (by rfl) T.n_int (by decide +kernel) (pa_cons (pe_cmpR op_gt (pv 6) pe_int (nomark _)) pa_nil))) (pa_cons (pv 2) pa_nil)))))) pa_nil)) pa_nil)))))) pss_nil)
      (pss_cons (ps_set (i := 4) nd rfl (Or.inl rfl) (C8.pe_c g_law_drawn hr (by first | decide | exact Nat.le_refl _ | omega) (by rfl) (pa_cons (pv 0) (pa_cons (pe_ix (r := rIxL K) ix_list (pe_lst (pa_cons pe_int (pa_cons pe_int (pa_cons pe_int (pa_cons pe_int pa_nil))))) (C8.pe_c g_law_drawn hr (by first | decide | exact Nat.le_refl _ | omega) (by rfl) (pa_cons (pv 0) (pa_cons pe_int pa_nil))) (fun _ _ => rfl)) pa_nil))))
      (pss_one (ps_ret (pe_tup (pa_cons pe_str (pa_cons (pv 4) (pa_cons (pe_op op_add (pv 4) (C8.pe_c g_law_drawn hr (by first | decide | exact Nat.le_refl _ | omega) (by rfl) (pa_cons (pv 0) (pa_cons pe_int pa_nil)))) (pa_cons (C8.pe_c g_law_plan hr (by first | decide | exact Nat.le_refl _ | omega) (by rfl) (pa_cons (pv 0) (pa_cons (pe_op op_sub (pv 1) pe_int) (pa_cons (pe_op op_sub (pv 2) pe_int) pa_nil)))) pa_nil)))))))))))), ?_⟩
    walk_at "go"
    refine use_drawn (n := 9) hd (by decide) (by decide) fun H1 way f1 d1 w0 w1 => ?_
    walk_at "go"
    refine g_ite (fun hc => ?_) (fun hc => ?_)
    · --
      walk_at "go"
      refine use_drawn (n := 4) d1 (by decide) (by decide) fun H2 a f2 d2 a0 a1 => ?_
      walk_at "go"
      intro q1 hq1
      have d3 := d2.same (same_new (o := .tup [.str "pat"]) hq1)
      have L3 := Live.new (o := .tup [.str "pat"]) (L := []) Live.nil hq1 d2.has
      walk_at "go"
      refine use_drawn (n := 3) d3 (by decide) (by decide) fun H4 c f4 d4 c0 c1 => ?_
      have L4 := L3.frm f4
      walk_at "go"
      intro q2 hq2
      have d5 := d4.same (same_new (o := .tup [.str "work", .int a, .int (a + c)]) hq2)
      have L5 := L4.new (o := .tup [.str "work", .int a, .int (a + c)]) hq2 d4.has
      walk_at "go"
      intro l hl
      have d6 := d5.same (same_new (o := .lst [.ref q1, .ref q2]) hl)
      have L6 := L5.new (o := .lst [.ref q1, .ref q2]) hl d5.has
      walk_at "go"
      refine g_I (show (0 : Int) < 5 by decide) ?_
      walk_at "go"
      have fr : Frm S H _ := ((((f1.trans f2).trans (.new hq1)).trans f4).trans (.new hq2)).trans (.new (o := .lst [.ref q1, .ref q2]) hl)
      by_cases hw : way % 5 > 1
      · refine g_ixL (v := .ref q2) (SqL.of upd_same) (by rw [show decide (1 < way % 5) = true from decide_eq_true hw]; rfl) ?_
        exact q _ _ (.work a (a + c)) fr d6 (.work (L6.get 1 rfl)) (by unfold okP; exact ⟨a0, by omega, by omega⟩) (by unfold okS; omega)
      · refine g_ixL (v := .ref q1) (SqL.of upd_same) (by rw [show decide (1 < way % 5) = false from decide_eq_false hw]; rfl) ?_
        exact q _ _ .pat fr d6 (.pat (L6.get 2 rfl)) (by unfold okP; trivial) (by unfold okS; trivial)
    · walk_at "go"
      refine g_ite (fun hc2 => ?_) (fun hc2 => ?_)
      · --
        walk_at "go"
        refine use_drawn (n := 4) d1 (by decide) (by decide) fun H2 a f2 d2 a0 a1 => ?_
        walk_at "go"
        intro q1 hq1
        have d3 := d2.same (same_new (o := .tup [.str "pat"]) hq1)
        have L3 := Live.new (o := .tup [.str "pat"]) (L := []) Live.nil hq1 d2.has
        walk_at "go"
        refine use_drawn (n := 3) d3 (by decide) (by decide) fun H4 c f4 d4 c0 c1 => ?_
        have L4 := L3.frm f4
        walk_at "go"
        intro q2 hq2
        have d5 := d4.same (same_new (o := .tup [.str "work", .int a, .int (a + c)]) hq2)
        have L5 := L4.new (o := .tup [.str "work", .int a, .int (a + c)]) hq2 d4.has
        walk_at "go"
        intro l hl
        have d6 := d5.same (same_new (o := .lst [.ref q1, .ref q2]) hl)
        have L6 := L5.new (o := .lst [.ref q1, .ref q2]) hl d5.has
        walk_at "go"
        refine g_I (show (0 : Int) < 5 by decide) ?_
        walk_at "go"
        have fr : Frm S H _ := ((((f1.trans f2).trans (.new hq1)).trans f4).trans (.new hq2)).trans (.new (o := .lst [.ref q1, .ref q2]) hl)
        by_cases hw : way % 5 > 1
        · refine g_ixL (v := .ref q2) (SqL.of upd_same) (by rw [show decide (1 < way % 5) = true from decide_eq_true hw]; rfl) ?_
          exact q _ _ (.work a (a + c)) fr d6 (.work (L6.get 1 rfl)) (by unfold okP; exact ⟨a0, by omega, by omega⟩) (by unfold okS; omega)
        · refine g_ixL (v := .ref q1) (SqL.of upd_same) (by rw [show decide (1 < way % 5) = false from decide_eq_false hw]; rfl) ?_
          exact q _ _ .pat fr d6 (.pat (L6.get 2 rfl)) (by unfold okP; trivial) (by unfold okS; trivial)
      · have dpos : 0 < d := by omega
        obtain ⟨d, rfl⟩ : ∃ d', d = d' + 1 := ⟨d - 1, by omega⟩
        walk_at "go"
        refine g_ite (fun h7 => ?_) (fun h7 => ?_)
        · --
          walk_at "go"
          refine use_drawn (n := 3) d1 (by decide) (by decide) fun H2 c f2 d2 c0 c1 => ?_
          have f12 := f1.trans f2
          walk_at "go"
          refine w_lcRange (by omega) (by omega) (fun D i H' => ∃ (vs : List V) (ps : List Pl), Frm S H H' ∧ Dst K B H' S ∧ H' D = some (.lst vs) ∧ PlAs H' vs ps ∧ okPs d l ps ∧ okSs (deep - 1 - 1).toNat ps ∧ ps.length = i) ?_ ?_ ?_
          · intro D hD
            exact ⟨[], [], f12.trans (.new hD), d2.same (same_new hD), upd_same, .nil, by unfold okPs; trivial, by unfold okSs; trivial, rfl⟩
          · rintro D i H5 hD hi ⟨vs, ps, f5, d5, e5, p5, o5, s5, l5⟩
            have nD := d2.ne hD
            have hD0 := f12.back nD hD
            walk_at "go"
            refine ⟨rfl, ?_⟩
            walk_at "go"
            refine use_plan d5 rfl (by omega) (by omega) fun H6 v p f6 d6 pv po so => ?_
            walk_at "go"
            have e6 := f6 _ _ nD e5
            refine ⟨vs, e6, small_lt (by rw [p5.len, l5]; omega), ?_⟩
            exact ⟨vs ++ [v], ps ++ [p], (f5.trans f6).mut hD0, d6.mut nD (d2.fresh hD), upd_same, (PlAs_keep ((keepT_frm d5 f6).trans (keepT_lst e6)) _ _ p5).snoc (PlA_keep (keepT_lst e6) _ _ pv), okPs_snoc o5 po, okSs_snoc s5 so, by rw [List.length_append, l5]; rfl⟩
          · rintro D H5 hD ⟨vs, ps, f5, d5, e5, p5, o5, s5, l5⟩
            walk_at "go"
            refine g_tupOf (SqL.of e5) ?_
            intro t ht
            have d6 := d5.same (same_new (o := .tup vs) ht)
            walk_at "go"
            intro r hr
            exact q _ _ (.row ps) ((f5.trans (.new ht)).trans (.new hr)) (d6.same (same_new hr)) (.row upd_same (same_new hr _ _ upd_same) (PlAs_keep ((keepT_new ht).trans (keepT_new hr)) _ _ p5)) (by unfold okP; exact ⟨by omega, by omega, o5⟩) (by rw [show (deep - 1).toNat = (deep - 1 - 1).toNat + 1 by omega]; unfold okS; exact ⟨by omega, s5⟩)
        · walk_at "go"
          refine g_ite (fun h8 => ?_) (fun h8 => ?_)
          · walk_at "go"
            refine g_ite (fun h0 => ?_) (fun h0 => ?_)
            · --
              walk_at "go"
              refine use_drawn (n := 3) d1 (by decide) (by decide) fun H2 c f2 d2 c0 c1 => ?_
              have f12 := f1.trans f2
              walk_at "go"
              refine w_lcRange (by omega) (by omega) (fun D i H' => ∃ (vs : List V) (ps : List Pl), Frm S H H' ∧ Dst K B H' S ∧ H' D = some (.lst vs) ∧ PlAs H' vs ps ∧ okPs d l ps ∧ okSs (deep - 1 - 1).toNat ps ∧ ps.length = i) ?_ ?_ ?_
              · intro D hD
                exact ⟨[], [], f12.trans (.new hD), d2.same (same_new hD), upd_same, .nil, by unfold okPs; trivial, by unfold okSs; trivial, rfl⟩
              · rintro D i H5 hD hi ⟨vs, ps, f5, d5, e5, p5, o5, s5, l5⟩
                have nD := d2.ne hD
                have hD0 := f12.back nD hD
                walk_at "go"
                refine ⟨rfl, ?_⟩
                walk_at "go"
                refine use_plan d5 rfl (by omega) (by omega) fun H6 v p f6 d6 pv po so => ?_
                walk_at "go"
                have e6 := f6 _ _ nD e5
                refine ⟨vs, e6, small_lt (by rw [p5.len, l5]; omega), ?_⟩
                exact ⟨vs ++ [v], ps ++ [p], (f5.trans f6).mut hD0, d6.mut nD (d2.fresh hD), upd_same, (PlAs_keep ((keepT_frm d5 f6).trans (keepT_lst e6)) _ _ p5).snoc (PlA_keep (keepT_lst e6) _ _ pv), okPs_snoc o5 po, okSs_snoc s5 so, by rw [List.length_append, l5]; rfl⟩
              · rintro D H5 hD ⟨vs, ps, f5, d5, e5, p5, o5, s5, l5⟩
                walk_at "go"
                refine g_tupOf (SqL.of e5) ?_
                intro t ht
                have d6 := d5.same (same_new (o := .tup vs) ht)
                walk_at "go"
                intro r hr
                exact q _ _ (.row ps) ((f5.trans (.new ht)).trans (.new hr)) (d6.same (same_new hr)) (.row upd_same (same_new hr _ _ upd_same) (PlAs_keep ((keepT_new ht).trans (keepT_new hr)) _ _ p5)) (by unfold okP; exact ⟨by omega, by omega, o5⟩) (by rw [show (deep - 1).toNat = (deep - 1 - 1).toNat + 1 by omega]; unfold okS; exact ⟨by omega, s5⟩)
            · --
              walk_at "go"
              refine g_ite (fun h9 => ?_) (fun h9 => ?_)
              · walk_at "go"
                intro l1 hl1
                have d2 := d1.same (same_new (o := .lst [.int 3, .int 3, .int 3, .int 10]) hl1)
                walk_at "go"
                refine use_drawn (n := 4) d2 (by decide) (by decide) fun H3 a f3 d3 a0 a1 => ?_
                have e3 := f3 _ _ (d1.ne hl1) upd_same
                obtain ⟨x, hx, hx2⟩ := atI_mem (xs := [.int 3, .int 3, .int 3, .int 10]) a0 a1
                refine g_ixL (SqL.of e3) hx2 ?_
                obtain ⟨n, rfl, n0, n1⟩ : ∃ z, x = V.int z ∧ 0 < z ∧ z ≤ 10 := by
                  simp only [List.mem_cons, List.not_mem_nil, or_false] at hx
                  rcases hx with rfl | rfl | rfl | rfl <;> exact ⟨_, rfl, by decide, by decide⟩
                walk_at "go"
                refine use_drawn d3 n0 (by omega) fun H4 c f4 d4 c0 c1 => ?_
                have f14 := ((f1.trans (.new hl1)).trans f3).trans f4
                walk_at "go"
                refine w_lcRange (by omega) (by omega) (fun D i H' => ∃ (vs : List V) (ps : List Pl), Frm S H H' ∧ Dst K B H' S ∧ H' D = some (.lst vs) ∧ PlAs H' vs ps ∧ okPs d l ps ∧ okSs (if 3 < 1 + c then deep - 3 else deep - 2).toNat ps ∧ ps.length = i) ?_ ?_ ?_
                · intro D hD
                  exact ⟨[], [], f14.trans (.new hD), d4.same (same_new hD), upd_same, .nil, by unfold okPs; trivial, by unfold okSs; trivial, rfl⟩
                · rintro D i H5 hD hi ⟨vs, ps, f5, d5, e5, p5, o5, s5, l5⟩
                  have nD := d4.ne hD
                  have hD0 := f14.back nD hD
                  walk_at "go"
                  refine ⟨rfl, ?_⟩
                  walk_at "go"
                  refine use_plan d5 rfl (by split <;> omega) (by omega) fun H6 v p f6 d6 pv po so => ?_
                  walk_at "go"
                  have e6 := f6 _ _ nD e5
                  refine ⟨vs, e6, small_lt (by rw [p5.len, l5]; omega), ?_⟩
                  exact ⟨vs ++ [v], ps ++ [p], (f5.trans f6).mut hD0, d6.mut nD (d4.fresh hD), upd_same, (PlAs_keep ((keepT_frm d5 f6).trans (keepT_lst e6)) _ _ p5).snoc (PlA_keep (keepT_lst e6) _ _ pv), okPs_snoc o5 po, okSs_snoc s5 (by by_cases c3 : 3 < 1 + c <;> simp only [c3, if_true, if_false, decide_true, decide_false] at so ⊢ <;> exact okS_at so (by first | omega | (simp only [Bool.false_eq_true, if_false]; omega))), by rw [List.length_append, l5]; rfl⟩
                · rintro D H5 hD ⟨vs, ps, f5, d5, e5, p5, o5, s5, l5⟩
                  walk_at "go"
                  refine g_tupOf (SqL.of e5) ?_
                  intro t ht
                  have d6 := d5.same (same_new (o := .tup vs) ht)
                  walk_at "go"
                  intro r hr
                  exact q _ _ (.either ps) ((f5.trans (.new ht)).trans (.new hr)) (d6.same (same_new hr)) (.either upd_same (same_new hr _ _ upd_same) (PlAs_keep ((keepT_new ht).trans (keepT_new hr)) _ _ p5)) (by unfold okP; exact ⟨by omega, by omega, o5⟩) (either_ok (by omega) (by omega) (by omega) s5)
              · walk_at "go"
                intro l1 hl1
                have d2 := d1.same (same_new (o := .lst [.int 2, .int 2, .int 2, .int 9]) hl1)
                walk_at "go"
                refine use_drawn (n := 4) d2 (by decide) (by decide) fun H3 a f3 d3 a0 a1 => ?_
                have e3 := f3 _ _ (d1.ne hl1) upd_same
                obtain ⟨x, hx, hx2⟩ := atI_mem (xs := [.int 2, .int 2, .int 2, .int 9]) a0 a1
                refine g_ixL (SqL.of e3) hx2 ?_
                obtain ⟨n, rfl, n0, n1⟩ : ∃ z, x = V.int z ∧ 0 < z ∧ z ≤ 9 := by
                  simp only [List.mem_cons, List.not_mem_nil, or_false] at hx
                  rcases hx with rfl | rfl | rfl | rfl <;> exact ⟨_, rfl, by decide, by decide⟩
                walk_at "go"
                refine use_drawn d3 n0 (by omega) fun H4 c f4 d4 c0 c1 => ?_
                walk_at "go"
                refine use_drawn (n := 2) d4 (by decide) (by decide) fun H5 g f5 d5 g0 g1 => ?_
                walk_at "go"
                have lpos : 0 < l := by omega
                obtain ⟨l, rfl⟩ : ∃ l', l = l' + 1 := ⟨l - 1, by omega⟩
                refine use_plan (l := l) d5 (by omega) (by omega) (by omega) fun H6 v p f6 d6 pv po so => ?_
                walk_at "go"
                intro r hr
                exact q _ _ (.loop c (c + g) p) ((((((f1.trans (.new hl1)).trans f3).trans f4).trans f5).trans f6).trans (.new hr)) (d6.same (same_new hr)) (.loop upd_same (PlA_keep (keepT_new hr) _ _ pv)) (by unfold okP; exact ⟨c0, by omega, by omega, po⟩) (by rw [show (deep - 1).toNat = (deep - 1 - 1).toNat + 1 by omega]; unfold okS; exact ⟨by omega, so⟩)
          · --
            walk_at "go"
            refine g_ite (fun h9 => ?_) (fun h9 => ?_)
            · walk_at "go"
              intro l1 hl1
              have d2 := d1.same (same_new (o := .lst [.int 3, .int 3, .int 3, .int 10]) hl1)
              walk_at "go"
              refine use_drawn (n := 4) d2 (by decide) (by decide) fun H3 a f3 d3 a0 a1 => ?_
              have e3 := f3 _ _ (d1.ne hl1) upd_same
              obtain ⟨x, hx, hx2⟩ := atI_mem (xs := [.int 3, .int 3, .int 3, .int 10]) a0 a1
              refine g_ixL (SqL.of e3) hx2 ?_
              obtain ⟨n, rfl, n0, n1⟩ : ∃ z, x = V.int z ∧ 0 < z ∧ z ≤ 10 := by
                simp only [List.mem_cons, List.not_mem_nil, or_false] at hx
                rcases hx with rfl | rfl | rfl | rfl <;> exact ⟨_, rfl, by decide, by decide⟩
              walk_at "go"
              refine use_drawn d3 n0 (by omega) fun H4 c f4 d4 c0 c1 => ?_
              have f14 := ((f1.trans (.new hl1)).trans f3).trans f4
              walk_at "go"
              refine w_lcRange (by omega) (by omega) (fun D i H' => ∃ (vs : List V) (ps : List Pl), Frm S H H' ∧ Dst K B H' S ∧ H' D = some (.lst vs) ∧ PlAs H' vs ps ∧ okPs d l ps ∧ okSs (if 3 < 1 + c then deep - 3 else deep - 2).toNat ps ∧ ps.length = i) ?_ ?_ ?_
              · intro D hD
                exact ⟨[], [], f14.trans (.new hD), d4.same (same_new hD), upd_same, .nil, by unfold okPs; trivial, by unfold okSs; trivial, rfl⟩
              · rintro D i H5 hD hi ⟨vs, ps, f5, d5, e5, p5, o5, s5, l5⟩
                have nD := d4.ne hD
                have hD0 := f14.back nD hD
                walk_at "go"
                refine ⟨rfl, ?_⟩
                walk_at "go"
                refine use_plan d5 rfl (by split <;> omega) (by omega) fun H6 v p f6 d6 pv po so => ?_
                walk_at "go"
                have e6 := f6 _ _ nD e5
                refine ⟨vs, e6, small_lt (by rw [p5.len, l5]; omega), ?_⟩
                exact ⟨vs ++ [v], ps ++ [p], (f5.trans f6).mut hD0, d6.mut nD (d4.fresh hD), upd_same, (PlAs_keep ((keepT_frm d5 f6).trans (keepT_lst e6)) _ _ p5).snoc (PlA_keep (keepT_lst e6) _ _ pv), okPs_snoc o5 po, okSs_snoc s5 (by by_cases c3 : 3 < 1 + c <;> simp only [c3, if_true, if_false, decide_true, decide_false] at so ⊢ <;> exact okS_at so (by first | omega | (simp only [Bool.false_eq_true, if_false]; omega))), by rw [List.length_append, l5]; rfl⟩
              · rintro D H5 hD ⟨vs, ps, f5, d5, e5, p5, o5, s5, l5⟩
                walk_at "go"
                refine g_tupOf (SqL.of e5) ?_
                intro t ht
                have d6 := d5.same (same_new (o := .tup vs) ht)
                walk_at "go"
                intro r hr
                exact q _ _ (.either ps) ((f5.trans (.new ht)).trans (.new hr)) (d6.same (same_new hr)) (.either upd_same (same_new hr _ _ upd_same) (PlAs_keep ((keepT_new ht).trans (keepT_new hr)) _ _ p5)) (by unfold okP; exact ⟨by omega, by omega, o5⟩) (either_ok (by omega) (by omega) (by omega) s5)
            · walk_at "go"
              intro l1 hl1
              have d2 := d1.same (same_new (o := .lst [.int 2, .int 2, .int 2, .int 9]) hl1)
              walk_at "go"
              refine use_drawn (n := 4) d2 (by decide) (by decide) fun H3 a f3 d3 a0 a1 => ?_
              have e3 := f3 _ _ (d1.ne hl1) upd_same
              obtain ⟨x, hx, hx2⟩ := atI_mem (xs := [.int 2, .int 2, .int 2, .int 9]) a0 a1
              refine g_ixL (SqL.of e3) hx2 ?_
              obtain ⟨n, rfl, n0, n1⟩ : ∃ z, x = V.int z ∧ 0 < z ∧ z ≤ 9 := by
                simp only [List.mem_cons, List.not_mem_nil, or_false] at hx
                rcases hx with rfl | rfl | rfl | rfl <;> exact ⟨_, rfl, by decide, by decide⟩
              walk_at "go"
              refine use_drawn d3 n0 (by omega) fun H4 c f4 d4 c0 c1 => ?_
              walk_at "go"
              refine use_drawn (n := 2) d4 (by decide) (by decide) fun H5 g f5 d5 g0 g1 => ?_
              walk_at "go"
              have lpos : 0 < l := by omega
              obtain ⟨l, rfl⟩ : ∃ l', l = l' + 1 := ⟨l - 1, by omega⟩
              refine use_plan (l := l) d5 (by omega) (by omega) (by omega) fun H6 v p f6 d6 pv po so => ?_
              walk_at "go"
              intro r hr
              exact q _ _ (.loop c (c + g) p) ((((((f1.trans (.new hl1)).trans f3).trans f4).trans f5).trans f6).trans (.new hr)) (d6.same (same_new hr)) (.loop upd_same (PlA_keep (keepT_new hr) _ _ pv)) (by unfold okP; exact ⟨c0, by omega, by omega, po⟩) (by rw [show (deep - 1).toNat = (deep - 1 - 1).toNat + 1 by omega]; unfold okS; exact ⟨by omega, so⟩)
end
end K05
namespace K05
open PySem PySem.Spec PyProof.Rows L2 Wd Sn
local macro_rules | `(tactic| walk_at "gs") => `(tactic| repeat (first
  | with_reducible refine Wd.g_seq ?_
  | ((with_reducible show L2.Ends.nx _ _ _); (with_reducible refine Wd.g_nx ?_))
  | with_reducible refine Wd.g_asg ?_
  | ((with_reducible refine' Wd.g_var ?h1 ?_); (case h1 => exact rfl))
  | with_reducible refine Wd.g_c ?_
  | with_reducible refine Wd.g_op ?_
  | with_reducible refine Wd.g_un ?_
  | with_reducible refine Wd.g_I0 ?_
  | with_reducible refine Wd.g_U ?_
  | with_reducible refine Wd.g_eqI ?_
  | with_reducible refine Wd.g_neI ?_
  | with_reducible refine Wd.g_eqS ?_
  | with_reducible refine Wd.g_neS ?_
  | with_reducible refine Wd.g_eqB ?_
  | with_reducible refine Wd.g_neB ?_
  | with_reducible refine Wd.g_isN ?_
  | with_reducible refine Wd.g_notN ?_
  | with_reducible refine Wd.g_lc ?_
  | with_reducible refine Wd.g_yes ?_
  | with_reducible refine Wd.g_test ?_
  | with_reducible refine Wd.g_tB ?_
  | with_reducible refine Wd.g_bl ?_
  | with_reducible refine Wd.g_blI ?_
  | with_reducible refine Wd.g_and ?_
  | with_reducible refine Wd.g_or ?_
  | with_reducible refine Wd.g_not ?_
  | with_reducible refine Wd.g_andV ?_
  | with_reducible refine Wd.g_orV ?_
  | with_reducible refine Wd.g_notV ?_
  | with_reducible refine Wd.g_if ?_
  | with_reducible refine Wd.g_chain ?_
  | with_reducible refine Wd.g_chain3 ?_
  | with_reducible refine Wd.g_nil ?_
  | with_reducible refine Wd.g_cons ?_
  | with_reducible refine Wd.g_tup ?_
  | with_reducible refine Wd.g_lst ?_
  | with_reducible refine Wd.g_CB ?_
  | with_reducible refine Wd.g_call ?_
  | with_reducible refine Wd.g_callS ?_
  | with_reducible refine Wd.g_bm ?_
  | with_reducible refine Wd.g_bm0 ?_
  | with_reducible refine Wd.g_sl ?_
  | with_reducible refine Wd.g_part ?_
  | with_reducible refine Wd.g_part1 ?_
  | with_reducible refine Wd.g_noPart ?_
  | with_reducible refine Wd.g_next ?_
  | with_reducible refine Wd.g_name ?_
  | with_reducible refine Wd.g_sub ?_
  | with_reducible refine Wd.g_gnil ?_
  | with_reducible refine Wd.g_gcons ?_
  | with_reducible refine Wd.g_drop ?_
  | with_reducible refine Wd.g_ret ?_
  | with_reducible refine Wd.g_retN ?_
  | with_reducible refine Wd.g_brk ?_
  | with_reducible refine Wd.g_cont ?_
  | ((with_reducible show L2.Ends.bk _ _ _); (with_reducible refine Wd.g_bk ?_))
  | ((with_reducible show L2.Ends.ct _ _ _); (with_reducible refine Wd.g_ct ?_))
  | ((with_reducible show L2.Ends.rt _ _ _); (with_reducible refine Wd.g_rt ?_))
  | with_reducible refine Wd.g_for ?_
  | with_reducible refine Wd.g_rng1 ?_
  | with_reducible refine Wd.g_rng2 ?_
  | with_reducible refine Wd.g_iList ?_
  | with_reducible refine Wd.g_iTup ?_
  | ((with_reducible refine Wd.g_fit ?h1 ?_); (case h1 => exact rfl))
  | with_reducible refine Wd.g_max2 ?_
  | with_reducible refine Wd.g_min2 ?_
  | with_reducible refine Wd.g_int1B ?_
  | with_reducible refine L2.iteT ?_
  | with_reducible refine L2.iteF ?_
  | ((with_reducible refine Wd.g_itT ?h1 ?_); (case h1 => exact rfl))
  | ((with_reducible refine Wd.g_itF ?h1 ?_); (case h1 => exact rfl))))
section
variable {P : Program} {w : World} {K : PySem.W.Frag} {mg : Str → Option Value} {base : Heap}
theorem ok_plan (T : Txt K mg) {f : Addr} {fd : FuncData} (D : C8.Def K mg "_law_plan" s_law_plan f fd) (b : Binds K fd ["_law_state", "_law_deep", "_law_loops"] []) (g_law_drawn : C8.Cal P w K mg base 1 "_law_drawn" (sp_drawn K) []) : ∀ n : Nat, C8.Cal P w K mg base (n + 1) "_law_plan" (sp_plan K n) []
  | 0 => ⟨f, fd, ["_law_state", "_law_deep", "_law_loops"], [], ⟨fun _ _ _ _ h => h.elim, fun _ _ _ _ _ _ _ _ _ _ _ _ _ h => h.elim⟩, D.mgf, D.kp, b, .nil⟩
  | n + 1 => plan_step T D b g_law_drawn (ok_plan T D b g_law_drawn n)

theorem cnts_sum : ∀ ps : List Pl, (ps.map fun p => (cnt p : Int)).sum = (cnts ps : Int)
  | [] => by unfold cnts; rfl
  | p :: ps => by
    have ih := cnts_sum ps
    rw [List.map_cons, List.sum_cons, ih]
    simp only [Wd.cnts]
    omega
abbrev s_law_count : Stmt := top 42
theorem sc_law_count : FnScope ["_law_plan_here", "_law_part"] ["_law_plan_here"] (C8.fnScope s_law_count) := C8.fnScope_by (by decide +kernel)
def sp_count (K : PySem.W.Frag) : Nat → Sp
  | 0 => fun _ _ _ _ => False
  | d + 1 => fun vs H Q _ => ∃ (v : V) (p : Pl) (l : Nat), vs = [v] ∧ PlA H v p ∧ okP d l p ∧ ∀ H', Same H H' → Q (.int (cnt p)) H'
theorem use_count {d : Nat} {H : Hp} {v : V} {p : Pl} {l : Nat} {Q : VK} {E : XK} (hp : PlA H v p) (ok : okP d l p) (k : ∀ H', Same H H' → Q (.int (cnt p)) H') : sp_count K (d + 1) ([v] ++ []) H Q E := ⟨v, p, l, rfl, hp, ok, k⟩
theorem count_step (T : Txt K mg) {d : Nat} {f : Addr} {fd : FuncData} (D : C8.Def K mg "_law_count" s_law_count f fd) (b : Binds K fd ["_law_plan_here"] [])
    (g_law_count : C8.Cal P w K mg base d "_law_count" (sp_count K d) []) : C8.Cal P w K mg base (d + 1) "_law_count" (sp_count K (d + 1)) [] := by
  refine C8.cal0 D b .nil sc_law_count (fun vs H Q E h => ?_) fun cdv A outer s H vs Q E hr h => ?_
  · obtain ⟨v, p, l, rfl, _⟩ := h; rfl
  · obtain ⟨v, p, l, rfl, hp, ok, q⟩ := h
    have nd := sc_law_count.nd
    have hr : Room d _ := hr
    refine ⟨_, (pss_cons (ps_if (pt_cmpR (r := rIn K false) op_in_seq (pe_ix (r := rIxT K) ix_tup (pv 0) pe_int (fun _ _ => rfl)) (pe_tup (pa_cons pe_str (pa_cons pe_str pa_nil))) (by with_unfolding_all rfl)) (pss_one (ps_ret (pe_op op_add pe_int (pe_callB (r := rSum K) (cr_sum rfl) (by rfl) T.n_sum (by decide +kernel) (pa_cons (pe_lc (own := [("_law_part", 1)]) (g := gName 1) (tt := tYes) rfl nd (pi_tup (pe_ix (r := rIxT K) ix_tup (pv 0) pe_int (fun _ _ => rfl))) (blkOk_by (N := ["_law_plan_here", "_law_part"]) (sc := C8.fnScope s_law_count) (by decide +kernel)) (fun _ _ _ _ _ => pg_name (i := 1) nd rfl (Or.inl rfl)) (fun _ _ _ _ _ => pts_nil) (fun _ _ _ _ _ => (C8.pe_c g_law_count hr (by first | decide | exact Nat.le_refl _ | omega) (by rfl) (pa_cons (pv 1) pa_nil)))) pa_nil))))) pss_nil)
      (pss_one (ps_ret (pe_op op_add pe_int (pe_ifExp (pt_cmpR op_eq (pe_ix (r := rIxT K) ix_tup (pv 0) pe_int (fun _ _ => rfl)) pe_str (nomark _)) (C8.pe_c g_law_count hr (by first | decide | exact Nat.le_refl _ | omega) (by rfl) (pa_cons (pe_ix (r := rIxT K) ix_tup (pv 0) pe_int (fun _ _ => rfl)) pa_nil)) pe_int))))), ?_⟩
    -- the parts of a row or an either, counted
    cases hp with
    | pat ha =>
      walk_at "go"
      refine g_ixT (SqT.of ha) rfl ?_
      walk_at "go"
      intro t ht
      have s1 := same_new (o := .tup [.str "row", .str "either"]) ht
      refine g_inT (SqT.of upd_same) rfl rfl ?_
      walk_at "go"
      refine g_ixT (SqT.of (s1 _ _ ha)) rfl ?_
      walk_at "go"
      exact q _ s1
    | work ha =>
      walk_at "go"
      refine g_ixT (SqT.of ha) rfl ?_
      walk_at "go"
      intro t ht
      have s1 := same_new (o := .tup [.str "row", .str "either"]) ht
      refine g_inT (SqT.of upd_same) rfl rfl ?_
      walk_at "go"
      refine g_ixT (SqT.of (s1 _ _ ha)) rfl ?_
      walk_at "go"
      exact q _ s1
    | @loop a x y u p ha hu =>
      match d, ok with
      | 0, ok => unfold okP at ok; exact ok.elim
      | d + 1, ok =>
      match l, ok with
      | 0, ok => unfold okP at ok; exact ok.elim
      | l + 1, ok =>
      unfold okP at ok
      walk_at "go"
      refine g_ixT (SqT.of ha) rfl ?_
      walk_at "go"
      intro t ht
      have s1 := same_new (o := .tup [.str "row", .str "either"]) ht
      refine g_inT (SqT.of upd_same) rfl rfl ?_
      walk_at "go"
      refine g_ixT (SqT.of (s1 _ _ ha)) rfl ?_
      walk_at "go"
      refine g_ixT (SqT.of (s1 _ _ ha)) rfl ?_
      walk_at "go"
      refine use_count (PlA_keep (keepT_same s1) _ _ hu) ok.2.2.2 fun H2 s2 => ?_
      walk_at "go"
      have e : (cnt (.loop x y p) : Int) = 1 + cnt p := by simp only [Wd.cnt]; omega
      rw [e] at q
      exact q _ (s1.trans s2)
    | @row a c vs ps ha hc hps =>
      match d, ok with
      | 0, ok => unfold okP at ok; exact ok.elim
      | d + 1, ok =>
      unfold okP at ok
      walk_at "go"
      refine g_ixT (SqT.of ha) rfl ?_
      walk_at "go"
      intro t ht
      have s1 := same_new (o := .tup [.str "row", .str "either"]) ht
      refine g_inT (SqT.of upd_same) rfl rfl ?_
      walk_at "go"
      refine g_ixT (SqT.of (s1 _ _ ha)) rfl ?_
      have ln := hps.len
      refine w_lcTup (xs := vs) (SqT.of (s1 _ _ hc)) (fun D i H' => Same (upd H t (.tup [.str "row", .str "either"])) H' ∧ H' D = some (.lst (((ps.take i).map fun p => (cnt p : Int)).map V.int))) ?_ ?_ ?_ ?_
      · intro D hD
        exact ⟨same_new hD, upd_same⟩
      · rintro D i H' hD _ ⟨s2, _⟩
        exact SqT.of (s2 _ _ (s1 _ _ hc))
      · rintro D i v H' hD hv ⟨s2, eD⟩
        obtain ⟨p, hp, pv⟩ := hps.at hv
        walk_at "go"
        refine ⟨rfl, ?_⟩
        walk_at "go"
        refine use_count (PlA_keep (keepT_same (s1.trans s2)) _ _ pv) (okPs_at ok.2.2 hp) fun H3 s3 => ?_
        walk_at "go"
        have hi : i < ps.length := (List.getElem?_eq_some_iff.mp hp).1
        refine ⟨_, s3 _ _ eD, small_lt (by rw [List.length_map, List.length_map, List.length_take]; omega), Same.mut (s2.trans s3) hD, ?_⟩
        rw [upd_same, take_snoc hp, List.map_append, List.map_append]; rfl
      · rintro D H' hD ⟨s2, eD⟩
        rw [ln, List.take_length] at eD
        walk_at "go"
        refine g_sum (SqL.of eD) ?_
        walk_at "go"
        rw [cnts_sum]
        have e : (cnt (.row ps) : Int) = 1 + cnts ps := by simp only [Wd.cnt]; omega
        rw [e] at q
        exact q _ (s1.trans s2)
    | @either a c vs ps ha hc hps =>
      match d, ok with
      | 0, ok => unfold okP at ok; exact ok.elim
      | d + 1, ok =>
      unfold okP at ok
      walk_at "go"
      refine g_ixT (SqT.of ha) rfl ?_
      walk_at "go"
      intro t ht
      have s1 := same_new (o := .tup [.str "row", .str "either"]) ht
      refine g_inT (SqT.of upd_same) rfl rfl ?_
      walk_at "go"
      refine g_ixT (SqT.of (s1 _ _ ha)) rfl ?_
      have ln := hps.len
      refine w_lcTup (xs := vs) (SqT.of (s1 _ _ hc)) (fun D i H' => Same (upd H t (.tup [.str "row", .str "either"])) H' ∧ H' D = some (.lst (((ps.take i).map fun p => (cnt p : Int)).map V.int))) ?_ ?_ ?_ ?_
      · intro D hD
        exact ⟨same_new hD, upd_same⟩
      · rintro D i H' hD _ ⟨s2, _⟩
        exact SqT.of (s2 _ _ (s1 _ _ hc))
      · rintro D i v H' hD hv ⟨s2, eD⟩
        obtain ⟨p, hp, pv⟩ := hps.at hv
        walk_at "go"
        refine ⟨rfl, ?_⟩
        walk_at "go"
        refine use_count (PlA_keep (keepT_same (s1.trans s2)) _ _ pv) (okPs_at ok.2.2 hp) fun H3 s3 => ?_
        walk_at "go"
        have hi : i < ps.length := (List.getElem?_eq_some_iff.mp hp).1
        refine ⟨_, s3 _ _ eD, small_lt (by rw [List.length_map, List.length_map, List.length_take]; omega), Same.mut (s2.trans s3) hD, ?_⟩
        rw [upd_same, take_snoc hp, List.map_append, List.map_append]; rfl
      · rintro D H' hD ⟨s2, eD⟩
        rw [ln, List.take_length] at eD
        walk_at "go"
        refine g_sum (SqL.of eD) ?_
        walk_at "go"
        rw [cnts_sum]
        have e : (cnt (.either ps) : Int) = 1 + cnts ps := by simp only [Wd.cnt]; omega
        rw [e] at q
        exact q _ (s1.trans s2)
end
end K05
namespace K05
open PySem PySem.Spec PyProof.Rows L2 Wd Sn
local macro_rules | `(tactic| walk_at "gs") => `(tactic| repeat (first
  | with_reducible refine Wd.g_seq ?_
  | ((with_reducible show L2.Ends.nx _ _ _); (with_reducible refine Wd.g_nx ?_))
  | with_reducible refine Wd.g_asg ?_
  | ((with_reducible refine' Wd.g_var ?h1 ?_); (case h1 => exact rfl))
  | with_reducible refine Wd.g_c ?_
  | with_reducible refine Wd.g_op ?_
  | with_reducible refine Wd.g_un ?_
  | with_reducible refine Wd.g_I0 ?_
  | with_reducible refine Wd.g_U ?_
  | with_reducible refine Wd.g_eqI ?_
  | with_reducible refine Wd.g_neI ?_
  | with_reducible refine Wd.g_eqS ?_
  | with_reducible refine Wd.g_neS ?_
  | with_reducible refine Wd.g_eqB ?_
  | with_reducible refine Wd.g_neB ?_
  | with_reducible refine Wd.g_isN ?_
  | with_reducible refine Wd.g_notN ?_
  | with_reducible refine Wd.g_lc ?_
  | with_reducible refine Wd.g_yes ?_
  | with_reducible refine Wd.g_test ?_
  | with_reducible refine Wd.g_tB ?_
  | with_reducible refine Wd.g_bl ?_
  | with_reducible refine Wd.g_blI ?_
  | with_reducible refine Wd.g_and ?_
  | with_reducible refine Wd.g_or ?_
  | with_reducible refine Wd.g_not ?_
  | with_reducible refine Wd.g_andV ?_
  | with_reducible refine Wd.g_orV ?_
  | with_reducible refine Wd.g_notV ?_
  | with_reducible refine Wd.g_if ?_
  | with_reducible refine Wd.g_chain ?_
  | with_reducible refine Wd.g_chain3 ?_
  | with_reducible refine Wd.g_nil ?_
  | with_reducible refine Wd.g_cons ?_
  | with_reducible refine Wd.g_tup ?_
  | with_reducible refine Wd.g_lst ?_
  | with_reducible refine Wd.g_CB ?_
  | with_reducible refine Wd.g_call ?_
  | with_reducible refine Wd.g_callS ?_
  | with_reducible refine Wd.g_bm ?_
  | with_reducible refine Wd.g_bm0 ?_
  | with_reducible refine Wd.g_sl ?_
  | with_reducible refine Wd.g_part ?_
  | with_reducible refine Wd.g_part1 ?_
  | with_reducible refine Wd.g_noPart ?_
  | with_reducible refine Wd.g_next ?_
  | with_reducible refine Wd.g_name ?_
  | with_reducible refine Wd.g_sub ?_
  | with_reducible refine Wd.g_gnil ?_
  | with_reducible refine Wd.g_gcons ?_
  | with_reducible refine Wd.g_drop ?_
  | with_reducible refine Wd.g_ret ?_
  | with_reducible refine Wd.g_retN ?_
  | with_reducible refine Wd.g_brk ?_
  | with_reducible refine Wd.g_cont ?_
  | ((with_reducible show L2.Ends.bk _ _ _); (with_reducible refine Wd.g_bk ?_))
  | ((with_reducible show L2.Ends.ct _ _ _); (with_reducible refine Wd.g_ct ?_))
  | ((with_reducible show L2.Ends.rt _ _ _); (with_reducible refine Wd.g_rt ?_))
  | with_reducible refine Wd.g_for ?_
  | with_reducible refine Wd.g_rng1 ?_
  | with_reducible refine Wd.g_rng2 ?_
  | with_reducible refine Wd.g_iList ?_
  | with_reducible refine Wd.g_iTup ?_
  | ((with_reducible refine Wd.g_fit ?h1 ?_); (case h1 => exact rfl))
  | with_reducible refine Wd.g_max2 ?_
  | with_reducible refine Wd.g_min2 ?_
  | with_reducible refine Wd.g_int1B ?_
  | with_reducible refine L2.iteT ?_
  | with_reducible refine L2.iteF ?_
  | ((with_reducible refine Wd.g_itT ?h1 ?_); (case h1 => exact rfl))
  | ((with_reducible refine Wd.g_itF ?h1 ?_); (case h1 => exact rfl))))
section
variable {P : Program} {w : World} {K : PySem.W.Frag} {mg : Str → Option Value} {base : Heap}
theorem ok_count (T : Txt K mg) {f : Addr} {fd : FuncData} (D : C8.Def K mg "_law_count" s_law_count f fd) (b : Binds K fd ["_law_plan_here"] []) : ∀ n : Nat, C8.Cal P w K mg base n "_law_count" (sp_count K n) []
  | 0 => ⟨f, fd, ["_law_plan_here"], [], ⟨fun _ _ _ _ h => h.elim, fun _ _ _ _ _ _ _ _ _ _ _ _ _ h => h.elim⟩, D.mgf, D.kp, b, .nil⟩
  | n + 1 => count_step T D b (ok_count T D b n)

abbrev s_law_good : Stmt := top 43
theorem sc_law_good : FnScope ["_law_state", "_law_deep", "_law_loops", "_law_plan_here"] ["_law_state", "_law_deep", "_law_loops"] (C8.fnScope s_law_good) := C8.fnScope_by (by decide +kernel)
/-- d: one less than how deep it may be, from 1 on -/
def sp_good (K : PySem.W.Frag) (d : Nat) : Sp := fun vs H Q _ => ∃ (B : Hp) (S : Addr) (deep : Int) (l : Nat), vs = [.ref S, .int deep, .int l] ∧ Dst K B H S ∧ 2 ≤ deep ∧ deep ≤ d + 2 ∧ ∀ H' v p, Frm S H H' → Dst K B H' S → PlA H' v p → okP (d + 1) l p → okS (deep - 1).toNat p → cnt p ≤ 30 → Q v H'
theorem ok_good (T : Txt K mg) {d : Nat} {f : Addr} {fd : FuncData} (D : C8.Def K mg "_law_good" s_law_good f fd) (b : Binds K fd ["_law_state", "_law_deep", "_law_loops"] []) (g_law_plan : C8.Cal P w K mg base (d + 3) "_law_plan" (sp_plan K (d + 2)) [])
    (g_law_count : C8.Cal P w K mg base (d + 2) "_law_count" (sp_count K (d + 2)) []) : C8.Cal P w K mg base (d + 4) "_law_good" (sp_good K d) [] := by
  refine C8.cal0 D b .nil sc_law_good (fun vs H Q E h => ?_) fun cdv A outer s H vs Q E hr h => ?_
  · obtain ⟨B, S, deep, l, rfl, _⟩ := h; rfl
  · obtain ⟨B, S, deep, l, rfl, hd, hd2, hdeep, q⟩ := h
    have nd := sc_law_good.nd
    have hr : Room (d + 3) _ := hr
    refine ⟨_, (pss_cons (ps_set (i := 3) nd rfl (Or.inl rfl) (C8.pe_c g_law_plan hr (by first | decide | exact Nat.le_refl _ | omega) (by rfl) (pa_cons (pv 0) (pa_cons (pv 1) (pa_cons (pv 2) pa_nil)))))
      (pss_one (ps_ret (pe_ifExp (pt_cmpR op_le (C8.pe_c g_law_count hr (by first | decide | exact Nat.le_refl _ | omega) (by rfl) (pa_cons (pv 3) pa_nil)) pe_int (nomark _)) (pv 3) (pe_tup (pa_cons pe_str (pa_cons (pe_tup (pa_cons (pe_tup (pa_cons pe_str (pa_cons pe_int (pa_cons pe_int pa_nil)))) (pa_cons (pe_tup (pa_cons pe_str pa_nil)) pa_nil))) pa_nil))))))), ?_⟩
    walk_at "go"
    refine use_plan hd rfl (by omega) (by omega) fun H1 v p f1 d1 pv po so => ?_
    walk_at "go"
    refine use_count (d := d + 1) pv po fun H2 s2 => ?_
    have d2 := d1.same s2
    walk_at "go"
    refine g_ite (fun hc => ?_) (fun hc => ?_)
    · walk_at "go"
      exact q _ _ p (f1.trans (.of s2)) d2 (PlA_keep (keepT_same s2) _ _ pv) po so (by omega)
    · walk_at "go"
      intro a ha
      have d3 := d2.same (same_new (o := .tup [.str "work", .int 1, .int 2]) ha)
      have L3 := Live.new (L := []) (o := .tup [.str "work", .int 1, .int 2]) Live.nil ha d2.has
      walk_at "go"
      intro c hc2
      have d4 := d3.same (same_new (o := .tup [.str "pat"]) hc2)
      have L4 := L3.new (o := .tup [.str "pat"]) hc2 d3.has
      walk_at "go"
      intro e he
      have d5 := d4.same (same_new (o := .tup [.ref a, .ref c]) he)
      have L5 := L4.new (o := .tup [.ref a, .ref c]) he d4.has
      walk_at "go"
      intro g hg
      have d6 := d5.same (same_new (o := .tup [.str "row", .ref e]) hg)
      have L6 := L5.new (o := .tup [.str "row", .ref e]) hg d5.has
      exact q _ _ (.row [.work 1 2, .pat]) (((((f1.trans (.of s2)).trans (.new ha)).trans (.new hc2)).trans (.new he)).trans (.new hg)) d6 (.row (L6.get 0 rfl) (L6.get 1 rfl) (.cons (.work (L6.get 3 rfl)) (.cons (.pat (L6.get 2 rfl)) .nil)))
        (by simp only [okP, okPs]; simp) (by rw [show (deep - 1).toNat = (deep - 2).toNat + 1 by omega]; simp [okS, okSs]) (by decide)

end
end K05
namespace K05
open PySem PySem.Spec PyProof.Rows L2 Wd Sn RT
local macro_rules | `(tactic| walk_at "gs") => `(tactic| repeat (first
  | with_reducible refine Wd.g_seq ?_
  | ((with_reducible show L2.Ends.nx _ _ _); (with_reducible refine Wd.g_nx ?_))
  | with_reducible refine Wd.g_asg ?_
  | ((with_reducible refine' Wd.g_var ?h1 ?_); (case h1 => exact rfl))
  | with_reducible refine Wd.g_c ?_
  | with_reducible refine Wd.g_op ?_
  | with_reducible refine Wd.g_un ?_
  | with_reducible refine Wd.g_I0 ?_
  | with_reducible refine Wd.g_U ?_
  | with_reducible refine Wd.g_eqI ?_
  | with_reducible refine Wd.g_neI ?_
  | with_reducible refine Wd.g_eqS ?_
  | with_reducible refine Wd.g_neS ?_
  | with_reducible refine Wd.g_eqB ?_
  | with_reducible refine Wd.g_neB ?_
  | with_reducible refine Wd.g_isN ?_
  | with_reducible refine Wd.g_notN ?_
  | with_reducible refine Wd.g_lc ?_
  | with_reducible refine Wd.g_yes ?_
  | with_reducible refine Wd.g_test ?_
  | with_reducible refine Wd.g_tB ?_
  | with_reducible refine Wd.g_bl ?_
  | with_reducible refine Wd.g_blI ?_
  | with_reducible refine Wd.g_and ?_
  | with_reducible refine Wd.g_or ?_
  | with_reducible refine Wd.g_not ?_
  | with_reducible refine Wd.g_andV ?_
  | with_reducible refine Wd.g_orV ?_
  | with_reducible refine Wd.g_notV ?_
  | with_reducible refine Wd.g_if ?_
  | with_reducible refine Wd.g_chain ?_
  | with_reducible refine Wd.g_chain3 ?_
  | with_reducible refine Wd.g_nil ?_
  | with_reducible refine Wd.g_cons ?_
  | with_reducible refine Wd.g_tup ?_
  | with_reducible refine Wd.g_lst ?_
  | with_reducible refine Wd.g_CB ?_
  | with_reducible refine Wd.g_call ?_
  | with_reducible refine Wd.g_callS ?_
  | with_reducible refine Wd.g_bm ?_
  | with_reducible refine Wd.g_bm0 ?_
  | with_reducible refine Wd.g_sl ?_
  | with_reducible refine Wd.g_part ?_
  | with_reducible refine Wd.g_part1 ?_
  | with_reducible refine Wd.g_noPart ?_
  | with_reducible refine Wd.g_next ?_
  | with_reducible refine Wd.g_name ?_
  | with_reducible refine Wd.g_sub ?_
  | with_reducible refine Wd.g_gnil ?_
  | with_reducible refine Wd.g_gcons ?_
  | with_reducible refine Wd.g_drop ?_
  | with_reducible refine Wd.g_ret ?_
  | with_reducible refine Wd.g_retN ?_
  | with_reducible refine Wd.g_brk ?_
  | with_reducible refine Wd.g_cont ?_
  | ((with_reducible show L2.Ends.bk _ _ _); (with_reducible refine Wd.g_bk ?_))
  | ((with_reducible show L2.Ends.ct _ _ _); (with_reducible refine Wd.g_ct ?_))
  | ((with_reducible show L2.Ends.rt _ _ _); (with_reducible refine Wd.g_rt ?_))
  | with_reducible refine Wd.g_for ?_
  | with_reducible refine Wd.g_rng1 ?_
  | with_reducible refine Wd.g_rng2 ?_
  | with_reducible refine Wd.g_iList ?_
  | with_reducible refine Wd.g_iTup ?_
  | ((with_reducible refine Wd.g_fit ?h1 ?_); (case h1 => exact rfl))
  | with_reducible refine Wd.g_max2 ?_
  | with_reducible refine Wd.g_min2 ?_
  | with_reducible refine Wd.g_int1B ?_
  | with_reducible refine L2.iteT ?_
  | with_reducible refine L2.iteF ?_
  | ((with_reducible refine Wd.g_itT ?h1 ?_); (case h1 => exact rfl))
  | ((with_reducible refine Wd.g_itF ?h1 ?_); (case h1 => exact rfl))))
section
variable {P : Program} {w : World} {K : PySem.W.Frag} {mg : Str → Option Value} {base : Heap}
abbrev s_law_window : Stmt := top 40
theorem sc_law_window : FnScope ["_law_state", "_law_most", "_law_high"] ["_law_state", "_law_most"] (C8.fnScope s_law_window) := C8.fnScope_by (by decide +kernel)
def sp_window (K : PySem.W.Frag) : Sp := fun vs H Q _ => ∃ (B : Hp) (S : Addr) (n : Int), vs = [.ref S, .int n] ∧ Dst K B H S ∧ 0 ≤ n ∧ n ≤ 1000 ∧
  ∀ H' W lo hi, Frm S H H' → Dst K B H' S → H' W = some (.tup [.int lo, .int hi]) → W ≠ S → 0 ≤ lo → lo ≤ hi → hi ≤ n → Q (.ref W) H'
theorem ok_window (T : Txt K mg) {f : Addr} {fd : FuncData} (D : C8.Def K mg "_law_window" s_law_window f fd) (b : Binds K fd ["_law_state", "_law_most"] []) (g_law_drawn : C8.Cal P w K mg base 1 "_law_drawn" (sp_drawn K) []) : C8.Cal P w K mg base 2 "_law_window" (sp_window K) [] := by
  refine C8.cal0 D b .nil sc_law_window (fun vs H Q E h => ?_) fun cdv A outer s H vs Q E hr h => ?_
  · obtain ⟨B, S, n, rfl, _⟩ := h; rfl
  · obtain ⟨B, S, n, rfl, d, n0, n1, q⟩ := h
    have nd := sc_law_window.nd
    refine ⟨_, (pss_cons (ps_set (i := 2) nd rfl (Or.inl rfl) (C8.pe_c g_law_drawn hr (by first | decide | exact Nat.le_refl _ | omega) (by rfl) (pa_cons (pv 0) (pa_cons (pe_op op_add (pv 1) pe_int) pa_nil))))
      (pss_one (ps_ret (pe_tup (pa_cons (pe_ix (r := rIxL K) ix_list (pe_lst (pa_cons pe_int (pa_cons (C8.pe_c g_law_drawn hr (by first | decide | exact Nat.le_refl _ | omega) (by rfl) (pa_cons (pv 0) (pa_cons (pe_op op_add (pv 2) pe_int) pa_nil))) (pa_cons (C8.pe_c g_law_drawn hr (by first | decide | exact Nat.le_refl _ | omega) (by rfl) (pa_cons (pv 0) (pa_cons (pe_op op_add (pe_op op_fdivW (pv 2) pe_int) pe_int) pa_nil))) pa_nil)))) (C8.pe_c g_law_drawn hr (by first | decide | exact Nat.le_refl _ | omega) (by rfl) (pa_cons (pv 0) (pa_cons pe_int pa_nil))) (fun _ _ => rfl)) (pa_cons (pv 2) pa_nil)))))), ?_⟩
    walk_at "go"
    refine use_drawn d (by omega) (by omega) fun H1 hi f1 d1 hi0 hi1 => ?_
    walk_at "go"
    refine use_drawn d1 (by omega) (by omega) fun H2 a f2 d2 a0 a1 => ?_
    walk_at "go"
    refine g_I (divW_small (by decide) (by decide)) ?_
    walk_at "go"
    refine use_drawn d2 (by omega) (by omega) fun H3 c f3 d3 c0 c1 => ?_
    walk_at "go"
    intro l hl
    have d4 := d3.same (same_new (o := .lst [.int 0, .int a, .int c]) hl)
    walk_at "go"
    refine use_drawn (n := 3) d4 (by decide) (by decide) fun H5 v f5 d5 v0 v1 => ?_
    have h5 := f5 _ _ (d3.ne hl) upd_same
    obtain ⟨x, hx, hx2⟩ := atI_mem (xs := [.int 0, .int a, .int c]) v0 v1
    refine g_ixL (SqL.of h5) hx2 ?_
    obtain ⟨lo, rfl, lo0, lo1⟩ : ∃ z, x = V.int z ∧ 0 ≤ z ∧ z ≤ hi := by
      simp only [List.mem_cons, List.not_mem_nil, or_false] at hx
      rcases hx with rfl | rfl | rfl
      · exact ⟨_, rfl, by omega, by omega⟩
      · exact ⟨_, rfl, by omega, by omega⟩
      · exact ⟨_, rfl, by omega, by omega⟩
    walk_at "go"
    intro t ht
    exact q _ t lo hi (((((f1.trans f2).trans f3).trans (.new hl)).trans f5).trans (.new ht)) (d5.same (same_new ht)) upd_same (d5.ne ht) lo0 lo1 (by omega)
end
end K05
namespace K05
open PySem PySem.Spec PyProof.Rows L2 Wd Sn RT
local macro_rules | `(tactic| walk_at "gs") => `(tactic| repeat (first
  | with_reducible refine Wd.g_seq ?_
  | ((with_reducible show L2.Ends.nx _ _ _); (with_reducible refine Wd.g_nx ?_))
  | with_reducible refine Wd.g_asg ?_
  | ((with_reducible refine' Wd.g_var ?h1 ?_); (case h1 => exact rfl))
  | with_reducible refine Wd.g_c ?_
  | with_reducible refine Wd.g_op ?_
  | with_reducible refine Wd.g_un ?_
  | with_reducible refine Wd.g_I0 ?_
  | with_reducible refine Wd.g_U ?_
  | with_reducible refine Wd.g_eqI ?_
  | with_reducible refine Wd.g_neI ?_
  | with_reducible refine Wd.g_eqS ?_
  | with_reducible refine Wd.g_neS ?_
  | with_reducible refine Wd.g_eqB ?_
  | with_reducible refine Wd.g_neB ?_
  | with_reducible refine Wd.g_isN ?_
  | with_reducible refine Wd.g_notN ?_
  | with_reducible refine Wd.g_lc ?_
  | with_reducible refine Wd.g_yes ?_
  | with_reducible refine Wd.g_test ?_
  | with_reducible refine Wd.g_tB ?_
  | with_reducible refine Wd.g_bl ?_
  | with_reducible refine Wd.g_blI ?_
  | with_reducible refine Wd.g_and ?_
  | with_reducible refine Wd.g_or ?_
  | with_reducible refine Wd.g_not ?_
  | with_reducible refine Wd.g_andV ?_
  | with_reducible refine Wd.g_orV ?_
  | with_reducible refine Wd.g_notV ?_
  | with_reducible refine Wd.g_if ?_
  | with_reducible refine Wd.g_chain ?_
  | with_reducible refine Wd.g_chain3 ?_
  | with_reducible refine Wd.g_nil ?_
  | with_reducible refine Wd.g_cons ?_
  | with_reducible refine Wd.g_tup ?_
  | with_reducible refine Wd.g_lst ?_
  | with_reducible refine Wd.g_CB ?_
  | with_reducible refine Wd.g_call ?_
  | with_reducible refine Wd.g_callS ?_
  | with_reducible refine Wd.g_bm ?_
  | with_reducible refine Wd.g_bm0 ?_
  | with_reducible refine Wd.g_sl ?_
  | with_reducible refine Wd.g_part ?_
  | with_reducible refine Wd.g_part1 ?_
  | with_reducible refine Wd.g_noPart ?_
  | with_reducible refine Wd.g_next ?_
  | with_reducible refine Wd.g_name ?_
  | with_reducible refine Wd.g_sub ?_
  | with_reducible refine Wd.g_gnil ?_
  | with_reducible refine Wd.g_gcons ?_
  | with_reducible refine Wd.g_drop ?_
  | with_reducible refine Wd.g_ret ?_
  | with_reducible refine Wd.g_retN ?_
  | with_reducible refine Wd.g_brk ?_
  | with_reducible refine Wd.g_cont ?_
  | ((with_reducible show L2.Ends.bk _ _ _); (with_reducible refine Wd.g_bk ?_))
  | ((with_reducible show L2.Ends.ct _ _ _); (with_reducible refine Wd.g_ct ?_))
  | ((with_reducible show L2.Ends.rt _ _ _); (with_reducible refine Wd.g_rt ?_))
  | with_reducible refine Wd.g_for ?_
  | with_reducible refine Wd.g_rng1 ?_
  | with_reducible refine Wd.g_rng2 ?_
  | with_reducible refine Wd.g_iList ?_
  | with_reducible refine Wd.g_iTup ?_
  | ((with_reducible refine Wd.g_fit ?h1 ?_); (case h1 => exact rfl))
  | with_reducible refine Wd.g_max2 ?_
  | with_reducible refine Wd.g_min2 ?_
  | with_reducible refine Wd.g_int1B ?_
  | with_reducible refine L2.iteT ?_
  | with_reducible refine L2.iteF ?_
  | ((with_reducible refine Wd.g_itT ?h1 ?_); (case h1 => exact rfl))
  | ((with_reducible refine Wd.g_itF ?h1 ?_); (case h1 => exact rfl))))
/-- at a stands the run r -/
def RunH (H : Hp) (a : Addr) (r : Sn.Run) : Prop := ∃ t, H a = some (.tup [.ref t, .int r.2]) ∧ H t = some (.tup (r.1.map V.int))
theorem RunH.keep {H H' : Hp} {a : Addr} {r : Sn.Run} (h : RunH H a r) (k : KeepT H H') : RunH H' a r := by
  obtain ⟨t, h1, h2⟩ := h
  exact ⟨t, k _ _ h1, k _ _ h2⟩
theorem RunH.at_ {K : PySem.W.Frag} {H : Hp} {a : Addr} {r : Sn.Run} (h : RunH H a r) : RunAt K H a r := by
  obtain ⟨t, h1, h2⟩ := h
  exact ⟨t, SqT.of h1, SqT.of h2⟩
def RunsH (H : Hp) (ps : RL) : Prop := ∀ p ∈ ps, RunH H p.1 p.2
theorem RunsH.keep {H H' : Hp} {ps : RL} (h : RunsH H ps) (k : KeepT H H') : RunsH H' ps := fun p hp => (h p hp).keep k
theorem RunsH.at_ {K : PySem.W.Frag} {H : Hp} {ps : RL} (h : RunsH H ps) : RunsAt K H ps := fun p hp => (h p hp).at_
/-- a number, or none -/
def oV : Option Int → V
  | none => .non
  | some x => .int x
section
variable {P : Program} {w : World} {K : PySem.W.Frag} {mg : Str → Option Value} {base : Heap}
abbrev s_law_behind : Stmt := top 46
theorem sc_law_behind : FnScope ["_law_window_here", "_law_gap", "_law_run", "_law_pats", "_law_end", "_law_last", "_law_pat"] ["_law_window_here", "_law_gap", "_law_run"] (C8.fnScope s_law_behind) := C8.fnScope_by (by decide +kernel)
def sp_bh (K : PySem.W.Frag) : Sp := fun vs H Q _ => ∃ (W a : Addr) (lo hi g : Int) (r : Sn.Run), vs = [.ref W, .int g, .ref a] ∧ SqT K H W [.int lo, .int hi] ∧ RunH H a r ∧ Q (oV (behind lo hi g r)) H
theorem ok_bh (T : Txt K mg) {f : Addr} {fd : FuncData} (D : C8.Def K mg "_law_behind" s_law_behind f fd) (b : Binds K fd ["_law_window_here", "_law_gap", "_law_run"] []) : C8.Cal P w K mg base 1 "_law_behind" (sp_bh K) [] := by
  refine C8.cal0 D b .nil sc_law_behind (fun vs H Q E h => ?_) fun cdv A outer s H vs Q E hr h => ?_
  · obtain ⟨W, a, lo, hi, g, r, rfl, _⟩ := h; rfl
  · obtain ⟨W, a, lo, hi, g, r, rfl, hW, ⟨t, ha, ht⟩, q⟩ := h
    have nd := sc_law_behind.nd
    refine ⟨_, (pss_cons (ps_asg (pv 2) (pg_tup rfl (pgs_cons (pg_name (i := 3) nd rfl (Or.inl rfl)) (pgs_cons (pg_name (i := 4) nd rfl (Or.inl rfl)) pgs_nil))))
      (pss_cons (ps_set (i := 5) nd rfl (Or.inl rfl) (pe_op op_sub pe_int (pv 1)))
      (pss_cons (ps_for PassesOwn.never rfl (pi_tup (pv 3)) (pg_name (i := 6) nd rfl (Or.inl rfl)) (pss_cons (ps_if (pt_not (pt_chain op_le op_le (pe_ix (r := rIxT K) ix_tup (pv 0) pe_int (fun _ _ => rfl)) (pe_op op_sub (pv 6) (pv 5)) (pe_ix (r := rIxT K) ix_tup (pv 0) pe_int (fun _ _ => rfl)))) (pss_one (ps_ret pe_non)) pss_nil)
      (pss_one (ps_set (i := 5) nd rfl (Or.inl rfl) (pv 6)))))
      (pss_one (ps_ret (pe_ifExp (pt_cmpR op_le (pe_op op_sub (pv 4) (pv 5)) (pe_ix (r := rIxT K) ix_tup (pv 0) pe_int (fun _ _ => rfl)) (nomark _)) (pe_op op_sub (pv 4) (pv 5)) pe_non)))))), ?_⟩
    walk_at "go"
    refine g_gtup (SqT.of ha) rfl ?_
    walk_at "go"
    refine w_tup (xs := r.1.map V.int) (fun i σ H' => H' = H ∧ ∃ (last : Int) (v : Option V), σ = [some (.ref W), some (.int g), some (.ref a), some (.ref t), some (.int r.2), some (.int last), v] ∧ bh lo hi (0 - g) r.1 = bh lo hi last (r.1.drop i)) ?_ ?_ ?_ ?_
    · exact ⟨rfl, 0 - g, none, rfl, rfl⟩
    · rintro i σ H' _ ⟨rfl, _⟩; exact SqT.of ht
    · rintro i x σ H' hx ⟨rfl, last, v, rfl, e⟩
      obtain ⟨p, hp, rfl⟩ : ∃ p, r.1[i]? = some p ∧ x = V.int p := by
        rw [List.getElem?_map] at hx
        cases hq : r.1[i]? with
        | none => rw [hq] at hx; cases hx
        | some z => rw [hq] at hx; exact ⟨z, rfl, (Option.some.inj hx).symm⟩
      have ed : r.1.drop i = p :: r.1.drop (i + 1) := by
        obtain ⟨hl, hh⟩ := List.getElem?_eq_some_iff.mp hp
        rw [List.drop_eq_getElem_cons hl, hh]
      rw [ed] at e
      have e' : bh lo hi (0 - g) r.1 = if lo ≤ p - last ∧ p - last ≤ hi then bh lo hi p (r.1.drop (i + 1)) else none := e
      have bad : ¬ (lo ≤ p - last ∧ p - last ≤ hi) → behind lo hi g r = none := fun c => by
        unfold behind
        rw [e', if_neg c]; rfl
      walk_at "go"
      refine g_ixT hW rfl ?_
      walk_at "go"
      refine g_ite (fun h1 => ?_) (fun h1 => ?_)
      · walk_at "go"
        refine g_ixT hW rfl ?_
        walk_at "go"
        refine g_iteN (fun h2 => ?_) (fun h2 => ?_)
        · rw [bad fun z => h2 z.2] at q
          walk_at "go"
          exact q
        · walk_at "go"
          exact ⟨rfl, p, _, rfl, by rw [e', if_pos ⟨h1, h2⟩]⟩
      · rw [bad fun z => h1 z.1] at q
        walk_at "go"
        exact q
    · rintro σ H' ⟨rfl, last, v, rfl, e⟩
      rw [List.length_map, List.drop_length] at e
      have e' : bh lo hi (0 - g) r.1 = some last := e
      walk_at "go"
      refine g_ixT hW rfl ?_
      walk_at "go"
      refine g_ite (fun h1 => ?_) (fun h1 => ?_)
      · walk_at "go"
        have : behind lo hi g r = some (r.2 - last) := by
          unfold behind
          rw [e']; exact if_pos h1
        rw [this] at q
        exact q
      · walk_at "go"
        have : behind lo hi g r = none := by
          unfold behind
          rw [e']; exact if_neg h1
        rw [this] at q
        exact q
end
end K05
namespace K05
open PySem PySem.Spec PyProof.Rows L2 Wd Sn RT
local macro_rules | `(tactic| walk_at "gs") => `(tactic| repeat (first
  | with_reducible refine Wd.g_seq ?_
  | ((with_reducible show L2.Ends.nx _ _ _); (with_reducible refine Wd.g_nx ?_))
  | with_reducible refine Wd.g_asg ?_
  | ((with_reducible refine' Wd.g_var ?h1 ?_); (case h1 => exact rfl))
  | with_reducible refine Wd.g_c ?_
  | with_reducible refine Wd.g_op ?_
  | with_reducible refine Wd.g_un ?_
  | with_reducible refine Wd.g_I0 ?_
  | with_reducible refine Wd.g_U ?_
  | with_reducible refine Wd.g_eqI ?_
  | with_reducible refine Wd.g_neI ?_
  | with_reducible refine Wd.g_eqS ?_
  | with_reducible refine Wd.g_neS ?_
  | with_reducible refine Wd.g_eqB ?_
  | with_reducible refine Wd.g_neB ?_
  | with_reducible refine Wd.g_isN ?_
  | with_reducible refine Wd.g_notN ?_
  | with_reducible refine Wd.g_lc ?_
  | with_reducible refine Wd.g_yes ?_
  | with_reducible refine Wd.g_test ?_
  | with_reducible refine Wd.g_tB ?_
  | with_reducible refine Wd.g_bl ?_
  | with_reducible refine Wd.g_blI ?_
  | with_reducible refine Wd.g_and ?_
  | with_reducible refine Wd.g_or ?_
  | with_reducible refine Wd.g_not ?_
  | with_reducible refine Wd.g_andV ?_
  | with_reducible refine Wd.g_orV ?_
  | with_reducible refine Wd.g_notV ?_
  | with_reducible refine Wd.g_if ?_
  | with_reducible refine Wd.g_chain ?_
  | with_reducible refine Wd.g_chain3 ?_
  | with_reducible refine Wd.g_nil ?_
  | with_reducible refine Wd.g_cons ?_
  | with_reducible refine Wd.g_tup ?_
  | with_reducible refine Wd.g_lst ?_
  | with_reducible refine Wd.g_CB ?_
  | with_reducible refine Wd.g_call ?_
  | with_reducible refine Wd.g_callS ?_
  | with_reducible refine Wd.g_bm ?_
  | with_reducible refine Wd.g_bm0 ?_
  | with_reducible refine Wd.g_sl ?_
  | with_reducible refine Wd.g_part ?_
  | with_reducible refine Wd.g_part1 ?_
  | with_reducible refine Wd.g_noPart ?_
  | with_reducible refine Wd.g_next ?_
  | with_reducible refine Wd.g_name ?_
  | with_reducible refine Wd.g_sub ?_
  | with_reducible refine Wd.g_gnil ?_
  | with_reducible refine Wd.g_gcons ?_
  | with_reducible refine Wd.g_drop ?_
  | with_reducible refine Wd.g_ret ?_
  | with_reducible refine Wd.g_retN ?_
  | with_reducible refine Wd.g_brk ?_
  | with_reducible refine Wd.g_cont ?_
  | ((with_reducible show L2.Ends.bk _ _ _); (with_reducible refine Wd.g_bk ?_))
  | ((with_reducible show L2.Ends.ct _ _ _); (with_reducible refine Wd.g_ct ?_))
  | ((with_reducible show L2.Ends.rt _ _ _); (with_reducible refine Wd.g_rt ?_))
  | with_reducible refine Wd.g_for ?_
  | with_reducible refine Wd.g_rng1 ?_
  | with_reducible refine Wd.g_rng2 ?_
  | with_reducible refine Wd.g_iList ?_
  | with_reducible refine Wd.g_iTup ?_
  | ((with_reducible refine Wd.g_fit ?h1 ?_); (case h1 => exact rfl))
  | with_reducible refine Wd.g_max2 ?_
  | with_reducible refine Wd.g_min2 ?_
  | with_reducible refine Wd.g_int1B ?_
  | with_reducible refine L2.iteT ?_
  | with_reducible refine L2.iteF ?_
  | ((with_reducible refine Wd.g_itT ?h1 ?_); (case h1 => exact rfl))
  | ((with_reducible refine Wd.g_itF ?h1 ?_); (case h1 => exact rfl))))
theorem same_put {H H' : Hp} {p : Addr} {o : HO} (s : Same H H') (h : H p = none) : Same H (upd H' p o) := fun b u e => by
  rw [upd_ne (ne_of_none e h)]; exact s _ _ e
/-- the known gaps -/
def kn (gs : List Int) : List (L2.Key × V) := gs.map fun g => (Sum.inl g, V.bl true)
theorem kn_val (x : Int) : ∀ gs : List Int, (valV (kn gs) (Sum.inl x : L2.Key)).isSome = decide (x ∈ gs)
  | [] => by
    show (valV ([] : List (L2.Key × V)) _).isSome = _
    rw [valV_nil]; simp
  | g :: gs => by
    have ih := kn_val x gs
    show (valV ((Sum.inl g, V.bl true) :: kn gs) _).isSome = _
    by_cases e : g = x
    · rw [valV_pos (by rw [e])]
      simp [e]
    · rw [valV_neg (fun z => e (Sum.inl.inj z)), ih]
      have e2 : ¬ x = g := fun z => e z.symm
      simp [e2]
theorem kn_put {x : Int} {gs : List Int} (h : x ∉ gs) : putK (kn gs) (Sum.inl x : L2.Key) (V.bl true) = kn (gs ++ [x]) := by
  rw [putK_new]
  · unfold kn
    rw [List.map_append]; rfl
  · have := kn_val x gs
    rw [decide_eq_false h] at this
    exact Option.not_isSome_iff_eq_none.mp (by rw [this]; decide)
theorem g_dnotin {ty td : TE} {σ : L2.St} {H : Hp} {Q : VK} (h : ty σ H fun y H1 => td σ H1 fun x H2 => ∃ a o, x = .ref a ∧ DGet H2 a y o ∧ Q (.bl (!o.isSome)) H2) : tDNotIn ty td σ H Q := h
theorem g_tBD {t : TE} {σ : L2.St} {H : Hp} {Q : Bool → Hp → Prop} (h : t σ H fun x H1 => ∃ c, x = .bl c ∧ Q c H1) : tB t σ H Q := h
theorem g_dput {td ty tv : TE} {D : Ends} {σ : L2.St} {H : Hp} (h : tv σ H fun v H1 => td σ H1 fun x H2 => ty σ H2 fun y H3 => ∃ a H', x = .ref a ∧ DPut H3 a y v H' ∧ D.nx σ H') : sDPut td ty tv D σ H := h
/-- a search under way: the known gaps, those left -/
structure Srch (lo hi : Nat) (F : Sn.Run → Prop) (gs ls : List Int) : Prop where
  nd : gs.Nodup
  z : 0 ∈ gs
  ok : ∀ g ∈ gs, 0 ≤ g ∧ g ≤ hi ∧ Rch lo hi F g.toNat
  left : ∀ g ∈ ls, g ∈ gs
theorem Srch.len {lo hi : Nat} {F : Sn.Run → Prop} {gs ls : List Int} (h : Srch lo hi F gs ls) : gs.length ≤ hi + 1 :=
  few_ints (a := 0) h.nd fun x hx => by have := h.ok x hx; omega
/-- from g all runs lead to known gaps -/
def Cl (lo hi : Nat) (F : Sn.Run → Prop) (gs : List Int) (g : Int) : Prop := ∀ r, F r → ∃ x ∈ gs, behind lo hi g r = some x
theorem Cl.mono {lo hi : Nat} {F : Sn.Run → Prop} {gs gs' : List Int} {g : Int} (h : Cl lo hi F gs g) (m : ∀ x ∈ gs, x ∈ gs') : Cl lo hi F gs' g := fun r hr => by
  obtain ⟨x, h1, h2⟩ := h r hr
  exact ⟨x, m x h1, h2⟩
theorem srch_none {lo hi : Nat} (hl : lo ≤ hi) {p : Pl} {d l : Nat} (ok : okP d l p) {gs : List Int} (S : Srch lo hi (RunOf p) gs []) (c : ∀ g ∈ gs, Cl lo hi (RunOf p) gs g) : ¬ Bites lo hi p := by
  refine no_bites hl ok (Z := fun g => (g : Int) ∈ gs) S.z (fun g hg => by have := (S.ok _ hg).2.1; omega) fun g r hg hr => ?_
  have gl : g ≤ hi := by have := (S.ok _ hg).2.1; omega
  obtain ⟨x, h1, h2⟩ := c _ hg r hr
  have x0 := (S.ok x h1).1
  rw [bG_in gl, h2]
  show ((x.toNat : Nat) : Int) ∈ gs
  rw [show ((x.toNat : Nat) : Int) = x by omega]
  exact h1
section
variable {P : Program} {w : World} {K : PySem.W.Frag} {mg : Str → Option Value} {base : Heap}
abbrev s_law_bites : Stmt := top 47
theorem sc_law_bites : FnScope ["_law_window_here", "_law_runs_here", "_law_known", "_law_left", "_law_gap", "_law_run", "_law_other"] ["_law_window_here", "_law_runs_here"] (C8.fnScope s_law_bites) := C8.fnScope_by (by decide +kernel)
def sp_bites (K : PySem.W.Frag) : Sp := fun vs H Q _ => ∃ (W L : Addr) (lo hi : Nat) (p : Pl) (d l : Nat) (ps : RL), vs = [.ref W, .ref L] ∧ H W = some (.tup [.int lo, .int hi]) ∧ lo ≤ hi ∧ hi ≤ 1000 ∧ H L = some (.lst (ps.map fun p => V.ref p.1)) ∧ RunsH H ps ∧ okP d l p ∧ (∀ r, r ∈ ps.map (·.2) ↔ RunOf p r) ∧
  ∀ H' b, Same H H' → (b = true ↔ Bites lo hi p) → Q (.bl b) H'
theorem ok_bites (T : Txt K mg) {f : Addr} {fd : FuncData} (D : C8.Def K mg "_law_bites" s_law_bites f fd) (b : Binds K fd ["_law_window_here", "_law_runs_here"] []) (g_law_behind : C8.Cal P w K mg base 1 "_law_behind" (sp_bh K) []) : C8.Cal P w K mg base 2 "_law_bites" (sp_bites K) [] := by
  refine C8.cal0 D b .nil sc_law_bites (fun vs H Q E h => ?_) fun cdv A outer s H vs Q E hr h => ?_
  · obtain ⟨W, L, lo, hi, p, d, l, ps, rfl, _⟩ := h; rfl
  · obtain ⟨W, L, lo, hi, p, d, l, ps, rfl, hW, hl, h1000, hL, hps, ok, hv, q⟩ := h
    have nd := sc_law_bites.nd
    refine ⟨_, (pss_cons (ps_set (i := 2) nd rfl (Or.inl rfl) (pe_disp (pps_cons pe_int pe_bl pps_nil) (by rfl) (by rfl) (fun z => nomatch z) (by decide)))
      (pss_cons (ps_set (i := 3) nd rfl (Or.inl rfl) (pe_lst (pa_cons pe_int pa_nil)))
      (pss_cons (ps_while PassesOwn.never (pt_cmpR (r := rNeD K) (op_neD hr.units) (pv 3) (pe_lst pa_nil) (nomark _)) (pss_cons (ps_set (i := 4) nd rfl (Or.inl rfl) (pe_bm0K (K := K) rfl PySem.F.plainAttrs_list PySem.F.slot_list_pop PySem.F.type_list_pop mt_pop (pv 3)))
      (pss_one (ps_for PassesOwn.never rfl (pi_list (pv 1)) (pg_name (i := 5) nd rfl (Or.inl rfl)) (pss_cons (ps_set (i := 6) nd rfl (Or.inl rfl) (C8.pe_c g_law_behind hr (by first | decide | exact Nat.le_refl _ | omega) (by rfl) (pa_cons (pv 0) (pa_cons (pv 4) (pa_cons (pv 5) pa_nil)))))
      (pss_cons (ps_if (pt_cmpR op_isN1 (pv 6) pe_non (nomark _)) (pss_one (ps_ret pe_bl)) pss_nil)
      (pss_one (ps_if (pt_cmp (pc_dnotin (Nat.lt_of_le_of_lt (Nat.add_le_add_left (by decide) _) hr.units) (pv 6) (pv 2))) (pss_cons (ps_dput (Nat.lt_of_le_of_lt (Nat.add_le_add_left (by decide) _) hr.units) (pv 2) (pv 6) pe_bl rfl)
      (pss_one (ps_expr (pe_bmK (K := K) rfl PySem.F.plainAttrs_list PySem.F.slot_list_append PySem.F.type_list_append mt_append (pv 3) (pa_cons (pv 6) pa_nil))))) pss_nil))))))))
      (pss_one (ps_ret pe_bl))))), ?_⟩
    walk_at "go"
    intro DD hD
    show upd H DD (HO.dK []) DD = _ ∧ _
    refine ⟨upd_same, kn [0], rfl, by decide, ?_⟩
    have s1 : Same H (upd (upd H DD (.dK [])) DD (.dK (mergeK [] (kn [0])))) := same_put (same_new hD) hD
    have e1 : upd (upd H DD (.dK [])) DD (.dK (mergeK [] (kn [0]))) DD = some (.dK (kn [0])) := by
      rw [upd_same]; rfl
    generalize upd (upd H DD (.dK [])) DD (.dK (mergeK [] (kn [0]))) = H1 at s1 e1
    walk_at "go"
    intro LL hL1
    have nDL : DD ≠ LL := fun z => by rw [z, hL1] at e1; cases e1
    have hLL : H LL = none := by
      cases hq : H LL with
      | none => rfl
      | some o => rw [s1 _ _ hq] at hL1; cases hL1
    have s2 : Same H (upd H1 LL (.lst [.int 0])) := s1.trans (same_new hL1)
    have e2 : upd H1 LL (.lst [.int 0]) DD = some (.dK (kn [0])) := same_new hL1 _ _ e1
    have f2 : upd H1 LL (.lst [.int 0]) LL = some (.lst ([(0 : Int)].map V.int)) := upd_same
    generalize upd H1 LL (.lst [.int 0]) = H2 at s2 e2 f2
    clear e1 s1 hL1
    walk_at "go"
    refine w_loop (fun m σ H' => ∃ (gs ls : List Int) (v4 v5 v6 : Option V), σ = [some (.ref W), some (.ref L), some (.ref DD), some (.ref LL), v4, v5, v6] ∧ Same H H' ∧ H' DD = some (.dK (kn gs)) ∧ H' LL = some (.lst (ls.map V.int)) ∧
      Srch lo hi (RunOf p) gs ls ∧ (∀ g ∈ gs, g ∉ ls → Cl lo hi (RunOf p) gs g) ∧ 2 * (hi + 1 - gs.length) + ls.length ≤ m ∧ m ≤ 2 * hi + 1) (2 * hi + 1) ?_ ?_
    · refine ⟨[0], [0], none, none, none, rfl, s2, e2, f2, ⟨by simp, by simp, fun g hg => ?_, fun g hg => hg⟩, fun g hg h => absurd hg h, by simp, Nat.le_refl _⟩
      rw [List.mem_singleton.mp hg]
      exact ⟨Int.le_refl 0, Int.natCast_nonneg hi, .zero⟩
    · clear s2 e2 f2 H2
      rintro m σ H2 ⟨gs, ls, v4, v5, v6, rfl, s2, e2, f2, S, cl, hm, mb⟩
      walk_at "go"
      intro qq hqq
      have s3 := same_new (o := .lst []) hqq
      have e3 := s3 _ _ e2
      have f3 := s3 _ _ f2
      have g3 : upd H2 qq (.lst []) qq = some (.lst (([] : List Int).map V.int)) := upd_same
      have s4 := s2.trans s3
      generalize upd H2 qq (.lst []) = H3 at s3 e3 f3 g3 s4
      refine g_neLI (SqL.of f3) (SqL.of g3) ?_
      walk_at "go"
      refine g_iteN (fun hne => ?_) (fun hnil => ?_)
      · --
        obtain ⟨l0, g, rfl⟩ : ∃ (l0 : List Int) (g : Int), ls = l0 ++ [g] := ⟨_, _, (List.dropLast_concat_getLast hne).symm⟩
        have gm : g ∈ gs := S.left g (by simp)
        obtain ⟨g0, g1, gr⟩ := S.ok g gm
        have gl := S.len
        rw [List.length_append, List.length_singleton] at hm
        refine ⟨fun σ H' => ∃ (gs ls : List Int) (v4 v5 v6 : Option V), σ = [some (.ref W), some (.ref L), some (.ref DD), some (.ref LL), v4, v5, v6] ∧ Same H H' ∧ H' DD = some (.dK (kn gs)) ∧ H' LL = some (.lst (ls.map V.int)) ∧
          Srch lo hi (RunOf p) gs ls ∧ (∀ g ∈ gs, g ∉ ls → Cl lo hi (RunOf p) gs g) ∧ 2 * (hi + 1 - gs.length) + ls.length < m, ?_, ?_⟩
        · rintro σ' H' ⟨gs, ls, v4, v5, v6, h1, h2, h3, h4, h5, h6, h7⟩
          exact ⟨_, h7, gs, ls, v4, v5, v6, h1, h2, h3, h4, h5, h6, Nat.le_refl _, by omega⟩
        · walk_at "go"
          refine ⟨.inl ⟨rfl, _, SqL.of f3⟩, ?_⟩
          refine g_pop (y := .int g) f3 (by simp) ?_
          have edl : ((l0 ++ [g]).map V.int).dropLast = l0.map V.int := by rw [List.map_append]; exact List.dropLast_concat
          rw [edl]
          have s5 := same_put (o := .lst (l0.map V.int)) s4 hLL
          have e5 : upd H3 LL (.lst (l0.map V.int)) DD = some (.dK (kn gs)) := by rw [upd_ne nDL]; exact e3
          have f5 : upd H3 LL (.lst (l0.map V.int)) LL = some (.lst (l0.map V.int)) := upd_same
          generalize upd H3 LL (.lst (l0.map V.int)) = H5 at s5 e5 f5
          walk_at "go"
          refine w_list (xs := ps.map fun p => V.ref p.1) (fun i σ H' => ∃ (gs ls : List Int) (v5 v6 : Option V), σ = [some (.ref W), some (.ref L), some (.ref DD), some (.ref LL), some (.int g), v5, v6] ∧ Same H H' ∧ H' DD = some (.dK (kn gs)) ∧ H' LL = some (.lst (ls.map V.int)) ∧
            Srch lo hi (RunOf p) gs ls ∧ g ∈ gs ∧ (∀ g' ∈ gs, g' ∉ ls → g' ≠ g → Cl lo hi (RunOf p) gs g') ∧ (∀ r ∈ (ps.take i).map (·.2), ∃ x ∈ gs, behind lo hi g r = some x) ∧ 2 * (hi + 1 - gs.length) + ls.length < m) ?_ ?_ ?_ ?_
          · refine ⟨gs, l0, _, _, rfl, s5, e5, f5, ⟨S.nd, S.z, S.ok, fun x hx => S.left x (by simp [hx])⟩, gm, fun x hx hn hg => cl x hx (by simp [hn, hg]), fun r hr => by simp at hr, by omega⟩
          · rintro i σ H' _ ⟨gs, ls, v5, v6, rfl, h2, _⟩
            exact SqL.of (h2 _ _ hL)
          · clear S cl hm e5 f5 s5 e3 f3 g3 s4 s3 hqq e2 f2 s2 gl edl hne gm
            rintro i x σ H' hx ⟨gs, ls, v5, v6, rfl, s2, e2, f2, S, gm, cl, dn, hm⟩
            obtain ⟨pr, hp, rfl⟩ : ∃ pr, ps[i]? = some pr ∧ x = V.ref pr.1 := by
              rw [List.getElem?_map] at hx
              cases hq : ps[i]? with
              | none => rw [hq] at hx; cases hx
              | some z => rw [hq] at hx; exact ⟨z, rfl, (Option.some.inj hx).symm⟩
            have pm := List.mem_of_getElem? hp
            have hrun : RunOf p pr.2 := (hv _).mp (List.mem_map.mpr ⟨pr, pm, rfl⟩)
            have tk : (ps.take (i + 1)).map (·.2) = (ps.take i).map (·.2) ++ [pr.2] := by rw [List.take_add_one, hp, List.map_append]; rfl
            have gN : ((g.toNat : Nat) : Int) = g := by omega
            walk_at "go"
            refine ⟨W, pr.1, lo, hi, g, pr.2, rfl, SqT.of (s2 _ _ hW), (hps pr pm).keep (keepT_same s2), ?_⟩
            walk_at "go"
            cases hb : behind lo hi g pr.2 with
            | none =>
              show if decide (V.non = V.non) = true then _ else _
              refine g_ite (fun _ => ?_) (fun z => absurd rfl z)
              walk_at "go"
              refine q _ _ s2 ⟨fun _ => ?_, fun _ => rfl⟩
              refine bites_of hl ok gr (by omega) hrun ?_
              rw [bG_in (by omega), gN, hb]; rfl
            | some x =>
              show if decide (V.int x = V.non) = true then _ else _
              refine g_ite (fun z => nomatch z) (fun _ => ?_)
              walk_at "go"
              have x0 : 0 ≤ x ∧ x ≤ hi := behind_some (lo := lo) (g := g.toNat) (wf_run p d l ok _ hrun) (by rw [gN]; exact hb)
              refine g_dnotin ?_
              walk_at "go"
              refine ⟨DD, _, rfl, DGet.k (k := Sum.inl x) e2, _, rfl, ?_⟩
              rw [kn_val]
              refine g_iteN (fun hnew => ?_) (fun hold => ?_)
              · walk_at "go"
                refine g_dput ?_
                walk_at "go"
                refine ⟨DD, _, rfl, DPut.k (k := Sum.inl x) e2 ?_, ?_⟩
                · unfold kn
                  rw [List.length_map]
                  exact small_lt (by have := S.len; omega)
                rw [kn_put hnew]
                have s3 := same_put (o := .dK (kn (gs ++ [x]))) s2 hD
                have e3 : upd H' DD (.dK (kn (gs ++ [x]))) DD = some (.dK (kn (gs ++ [x]))) := upd_same
                have f3 : upd H' DD (.dK (kn (gs ++ [x]))) LL = some (.lst (ls.map V.int)) := by rw [upd_ne (Ne.symm nDL)]; exact f2
                generalize upd H' DD (.dK (kn (gs ++ [x]))) = H4 at s3 e3 f3
                walk_at "go"
                refine ⟨.inl ⟨rfl, _, SqL.of f3⟩, ?_⟩
                walk_at "go"
                have gl := S.len
                refine g_append f3 (by rw [List.length_map]; omega) ?_
                have s4 := same_put (o := .lst (ls.map V.int ++ [oV (some x)])) s3 hLL
                have e4 : upd H4 LL (.lst (ls.map V.int ++ [oV (some x)])) DD = some (.dK (kn (gs ++ [x]))) := by rw [upd_ne nDL]; exact e3
                have f4 : upd H4 LL (.lst (ls.map V.int ++ [oV (some x)])) LL = some (.lst ((ls ++ [x]).map V.int)) := by rw [upd_same, List.map_append]; rfl
                generalize upd H4 LL (.lst (ls.map V.int ++ [oV (some x)])) = H5 at s4 e4 f4
                walk_at "go"
                have gx : x ∈ gs ++ [x] := by simp
                have up : ∀ y ∈ gs, y ∈ gs ++ [x] := fun y hy => List.mem_append_left _ hy
                have gl2 : (gs ++ [x]).length = gs.length + 1 := by rw [List.length_append]; rfl
                have S2 : Srch lo hi (RunOf p) (gs ++ [x]) (ls ++ [x]) := by
                  refine ⟨List.nodup_append.mpr ⟨S.nd, by simp, fun y hy z hz e => ?_⟩, up _ S.z, fun y hy => ?_, fun y hy => ?_⟩
                  · rw [List.mem_singleton.mp hz] at e
                    exact hnew (e ▸ hy)
                  · rcases List.mem_append.mp hy with hy | hy
                    · exact S.ok y hy
                    · rw [List.mem_singleton.mp hy]
                      refine ⟨x0.1, x0.2, ?_⟩
                      have := Rch.step (r := pr.2) gr (by omega) hrun
                      rw [bG_in (by omega), gN, hb] at this
                      exact this
                  · rcases List.mem_append.mp hy with hy | hy
                    · exact up _ (S.left y hy)
                    · exact List.mem_append_right _ hy
                refine ⟨gs ++ [x], ls ++ [x], _, _, rfl, s4, e4, f4, S2, up _ gm, fun y hy hn hg => ?_, fun r hr => ?_, ?_⟩
                · rcases List.mem_append.mp hy with hy | hy
                  · exact (cl y hy (fun z => hn (List.mem_append_left _ z)) hg).mono up
                  · exact absurd (List.mem_append_right _ hy) hn
                · rw [tk, List.mem_append, List.mem_singleton] at hr
                  rcases hr with hr | rfl
                  · obtain ⟨y, h1, h2⟩ := dn r hr
                    exact ⟨y, up _ h1, h2⟩
                  · exact ⟨x, gx, hb⟩
                · have := S2.len
                  rw [gl2] at this
                  rw [gl2, List.length_append, List.length_singleton]
                  omega
              · walk_at "go"
                refine ⟨gs, ls, _, _, rfl, s2, e2, f2, S, gm, cl, fun r hr => ?_, hm⟩
                rw [tk, List.mem_append, List.mem_singleton] at hr
                rcases hr with hr | rfl
                · exact dn r hr
                · exact ⟨x, hold, hb⟩
          · clear S cl hm e5 f5 s5 e3 f3 g3 s4 s3 hqq e2 f2 s2 gl edl hne gm
            rintro σ H' ⟨gs, ls, v5, v6, rfl, s2, e2, f2, S, gm, cl, dn, hm⟩
            rw [List.length_map, List.take_length] at dn
            refine ⟨gs, ls, _, _, _, rfl, s2, e2, f2, S, fun x hx hn => ?_, hm⟩
            by_cases e : x = g
            · subst e
              exact fun r hr => dn r ((hv r).mpr hr)
            · exact cl x hx hn e
      · subst hnil
        walk_at "go"
        refine q _ _ s4 ⟨(fun z => nomatch z), fun z => absurd z (srch_none hl ok S fun g hg => cl g hg (by simp))⟩
end
end K05
namespace K05
open PySem PySem.Spec PyProof.Rows L2 Wd Sn RT
local macro_rules | `(tactic| walk_at "gs") => `(tactic| repeat (first
  | with_reducible refine Wd.g_seq ?_
  | ((with_reducible show L2.Ends.nx _ _ _); (with_reducible refine Wd.g_nx ?_))
  | with_reducible refine Wd.g_asg ?_
  | ((with_reducible refine' Wd.g_var ?h1 ?_); (case h1 => exact rfl))
  | with_reducible refine Wd.g_c ?_
  | with_reducible refine Wd.g_op ?_
  | with_reducible refine Wd.g_un ?_
  | with_reducible refine Wd.g_I0 ?_
  | with_reducible refine Wd.g_U ?_
  | with_reducible refine Wd.g_eqI ?_
  | with_reducible refine Wd.g_neI ?_
  | with_reducible refine Wd.g_eqS ?_
  | with_reducible refine Wd.g_neS ?_
  | with_reducible refine Wd.g_eqB ?_
  | with_reducible refine Wd.g_neB ?_
  | with_reducible refine Wd.g_isN ?_
  | with_reducible refine Wd.g_notN ?_
  | with_reducible refine Wd.g_lc ?_
  | with_reducible refine Wd.g_yes ?_
  | with_reducible refine Wd.g_test ?_
  | with_reducible refine Wd.g_tB ?_
  | with_reducible refine Wd.g_bl ?_
  | with_reducible refine Wd.g_blI ?_
  | with_reducible refine Wd.g_and ?_
  | with_reducible refine Wd.g_or ?_
  | with_reducible refine Wd.g_not ?_
  | with_reducible refine Wd.g_andV ?_
  | with_reducible refine Wd.g_orV ?_
  | with_reducible refine Wd.g_notV ?_
  | with_reducible refine Wd.g_if ?_
  | with_reducible refine Wd.g_chain ?_
  | with_reducible refine Wd.g_chain3 ?_
  | with_reducible refine Wd.g_nil ?_
  | with_reducible refine Wd.g_cons ?_
  | with_reducible refine Wd.g_tup ?_
  | with_reducible refine Wd.g_lst ?_
  | with_reducible refine Wd.g_CB ?_
  | with_reducible refine Wd.g_call ?_
  | with_reducible refine Wd.g_callS ?_
  | with_reducible refine Wd.g_bm ?_
  | with_reducible refine Wd.g_bm0 ?_
  | with_reducible refine Wd.g_sl ?_
  | with_reducible refine Wd.g_part ?_
  | with_reducible refine Wd.g_part1 ?_
  | with_reducible refine Wd.g_noPart ?_
  | with_reducible refine Wd.g_next ?_
  | with_reducible refine Wd.g_name ?_
  | with_reducible refine Wd.g_sub ?_
  | with_reducible refine Wd.g_gnil ?_
  | with_reducible refine Wd.g_gcons ?_
  | with_reducible refine Wd.g_drop ?_
  | with_reducible refine Wd.g_ret ?_
  | with_reducible refine Wd.g_retN ?_
  | with_reducible refine Wd.g_brk ?_
  | with_reducible refine Wd.g_cont ?_
  | ((with_reducible show L2.Ends.bk _ _ _); (with_reducible refine Wd.g_bk ?_))
  | ((with_reducible show L2.Ends.ct _ _ _); (with_reducible refine Wd.g_ct ?_))
  | ((with_reducible show L2.Ends.rt _ _ _); (with_reducible refine Wd.g_rt ?_))
  | with_reducible refine Wd.g_for ?_
  | with_reducible refine Wd.g_rng1 ?_
  | with_reducible refine Wd.g_rng2 ?_
  | with_reducible refine Wd.g_iList ?_
  | with_reducible refine Wd.g_iTup ?_
  | ((with_reducible refine Wd.g_fit ?h1 ?_); (case h1 => exact rfl))
  | with_reducible refine Wd.g_max2 ?_
  | with_reducible refine Wd.g_min2 ?_
  | with_reducible refine Wd.g_int1B ?_
  | with_reducible refine L2.iteT ?_
  | with_reducible refine L2.iteF ?_
  | ((with_reducible refine Wd.g_itT ?h1 ?_); (case h1 => exact rfl))
  | ((with_reducible refine Wd.g_itF ?h1 ?_); (case h1 => exact rfl))))
/-- a list of all runs of F, or none -/
def PartV (H : Hp) (F : Sn.Run → Prop) (n : Nat) (u : V) : Prop := u = .non ∨ ∃ (L : Addr) (ps : RL), u = .ref L ∧ H L = some (.lst (ps.map fun p => V.ref p.1)) ∧ RunsH H ps ∧ (∀ r, r ∈ ps.map (·.2) ↔ F r) ∧ ps.length ≤ n
theorem PartV.keep {H H' : Hp} {F : Sn.Run → Prop} {n : Nat} {u : V} (h : PartV H F n u) (e : Same H H') : PartV H' F n u := by
  rcases h with h | ⟨L, ps, h1, h2, h3, h4⟩
  · exact .inl h
  · exact .inr ⟨L, ps, h1, e _ _ h2, h3.keep (keepT_same e), h4⟩
def PartsV (H : Hp) (Fs : List (Sn.Run → Prop)) (n : Nat) (us : List V) : Prop := us.length = Fs.length ∧ ∀ (i : Nat) (u : V) (F : Sn.Run → Prop), us[i]? = some u → Fs[i]? = some F → PartV H F n u
/-- made by the call -/
def New (H : Hp) (u : V) : Prop := ∀ L, u = .ref L → H L = none
theorem New.non {H : Hp} : New H .non := fun _ z => nomatch z
theorem none_back {H H' : Hp} {p : Addr} (s : Same H H') (h : H' p = none) : H p = none := by
  cases hq : H p with
  | none => rfl
  | some o => rw [s _ _ hq] at h; cases h
theorem New.back {H H' : Hp} {u : V} (h : New H' u) (s : Same H H') : New H u := fun L e => none_back s (h L e)
/-- all runs of a row of them, each once, or none -/
def RowV (H : Hp) (Fs : List (Sn.Run → Prop)) (n : Nat) (u : V) : Prop := u = .non ∨ ∃ (L : Addr) (ps : RL), u = .ref L ∧ H L = some (.lst (ps.map fun p => V.ref p.1)) ∧ RunsH H ps ∧ (∀ r, r ∈ ps.map (·.2) ↔ RowP Fs r) ∧ (ps.map (·.2)).Nodup ∧ ps.length ≤ 1500 ∧ ps.length ≤ n ^ Fs.length
theorem use_catA {K : PySem.W.Frag} {H : Hp} {a b : Addr} {xs ys : List V} {Q : VK} (ha : H a = some (.tup xs)) (hb : H b = some (.tup ys)) (hl : xs.length + ys.length ≤ 16000000) (k : ∀ H' p, Same H H' → H' p = some (.tup (xs ++ ys)) → Q (.ref p) H') : rCatA K (.ref a) (.ref b) H Q := by
  refine ⟨a, b, xs, ys, rfl, rfl, SqT.of ha, SqT.of hb, Nat.le_trans hl (by decide), fun e => k H b (fun _ _ h => h) (by rw [e]; exact hb), fun _ e => k H a (fun _ _ h => h) (by rw [e, List.append_nil]; exact ha), fun _ _ p hp => k _ p (same_new hp) upd_same⟩
structure TxtS (K : PySem.W.Frag) (mg : Str → Option Value) : Prop extends Txt K mg where
  n_sorted : mg "sorted" = none
  n_set : mg "set" = none
theorem g_rnew {P : Program} {w : World} {σ : L2.St} {H : Hp} {Q : VK} (h : ∀ d, H d = none → Q (.ref d) (upd H d (RDO P w d []))) : tRNew P w σ H Q := h
theorem g_rput {P : Program} {w : World} {K : PySem.W.Frag} {td ty tv : TE} {D : Ends} {σ : L2.St} {H : Hp} (h : tv σ H fun v H1 => td σ H1 fun x H2 => ty σ H2 fun y H3 => ∃ (r : Sn.Run) (a d : Addr) (ps : RL), v = .bl true ∧ y = .ref a ∧ x = .ref d ∧ H3 d = some (RDO P w d ps) ∧ RunsAt K H3 ps ∧ RunAt K H3 a r ∧ ps.length < sizeLine ∧
  D.nx σ (upd H3 d (RDO P w d (addR ps a r)))) : sRPut P w K td ty tv D σ H := h
/-- the runs made of the first j of these with all of those -/
def prodR (ps qs : RL) (j : Nat) : List Sn.Run := ((ps.take j).map fun p => qs.map fun q => cat p.2 q.2).flatten
theorem prodR_zero (ps qs : RL) : prodR ps qs 0 = [] := rfl
theorem prodR_succ {ps qs : RL} {j : Nat} {p : Addr × Sn.Run} (h : ps[j]? = some p) : prodR ps qs (j + 1) = prodR ps qs j ++ qs.map fun q => cat p.2 q.2 := by
  unfold prodR
  rw [List.take_add_one, h, List.map_append, List.flatten_append]
  simp
theorem prodR_len (ps qs : RL) : ∀ j, j ≤ ps.length → (prodR ps qs j).length = j * qs.length
  | 0, _ => by rw [prodR_zero, Nat.zero_mul]; rfl
  | j + 1, h => by
    rw [prodR_succ (List.getElem?_eq_getElem (show j < ps.length by omega)), List.length_append, prodR_len ps qs j (by omega), List.length_map, Nat.succ_mul]
theorem prodR_mem {ps qs : RL} {r : Sn.Run} : r ∈ prodR ps qs ps.length ↔ ∃ r1 ∈ ps.map (·.2), ∃ r2 ∈ qs.map (·.2), r = cat r1 r2 := by
  unfold prodR
  rw [List.take_length, List.mem_flatten]
  constructor
  · rintro ⟨l, hl, hr⟩
    obtain ⟨p, hp, rfl⟩ := List.mem_map.mp hl
    obtain ⟨q, hq, rfl⟩ := List.mem_map.mp hr
    exact ⟨p.2, List.mem_map.mpr ⟨p, hp, rfl⟩, q.2, List.mem_map.mpr ⟨q, hq, rfl⟩, rfl⟩
  · rintro ⟨r1, h1, r2, h2, rfl⟩
    obtain ⟨p, hp, rfl⟩ := List.mem_map.mp h1
    obtain ⟨q, hq, rfl⟩ := List.mem_map.mp h2
    exact ⟨_, List.mem_map.mpr ⟨p, hp, rfl⟩, List.mem_map.mpr ⟨q, hq, rfl⟩⟩
/-- the dict at D under way: these runs are in it -/
structure Dic (P : Program) (w : World) (H0 : Hp) (D : Addr) (vs : List Sn.Run) (ds : RL) (H : Hp) : Prop where
  s : Same H0 H
  at_ : H D = some (RDO P w D ds)
  own : RunsH H ds
  val : ∀ r, r ∈ ds.map (·.2) ↔ r ∈ vs
  nd : (ds.map (·.2)).Nodup
  len : ds.length ≤ vs.length
theorem Dic.same {P : Program} {w : World} {H0 H H' : Hp} {D : Addr} {vs : List Sn.Run} {ds : RL} (d : Dic P w H0 D vs ds H) (e : Same H H') : Dic P w H0 D vs ds H' := ⟨d.s.trans e, e _ _ d.at_, d.own.keep (keepT_same e), d.val, d.nd, d.len⟩
theorem Dic.add {P : Program} {w : World} {H0 H : Hp} {D a : Addr} {r : Sn.Run} {vs : List Sn.Run} {ds : RL} (d : Dic P w H0 D vs ds H) (hD : H0 D = none) (ha : RunH H a r) : Dic P w H0 D (vs ++ [r]) (addR ds a r) (upd H D (RDO P w D (addR ds a r))) := by
  have k : KeepT H (upd H D (RDO P w D (addR ds a r))) := fun b ys e => by rw [upd_ne (ne_of e d.at_ (fun z => nomatch z))]; exact e
  refine ⟨same_put d.s hD, upd_same, ?_, fun x => ?_, addR_nodup d.nd, ?_⟩
  · intro p hp
    unfold addR at hp
    split at hp
    · exact (d.own p hp).keep k
    · rcases List.mem_append.mp hp with hp | hp
      · exact (d.own p hp).keep k
      · rw [List.mem_singleton.mp hp]; exact ha.keep k
  · rw [addR_mem, d.val, List.mem_append, List.mem_singleton, Or.comm]
  · have h1 := @addR_len ds a r
    have h2 := d.len
    rw [List.length_append, List.length_singleton]
    omega
section
variable {P : Program} {w : World} {K : PySem.W.Frag} {mg : Str → Option Value} {base : Heap}
abbrev s_law_rows : Stmt := top 45
theorem sc_law_rows : FnScope ["_law_parts", "_law_found", "_law_some", "_law_longer", "_law_pats", "_law_end", "_law_more", "_law_far", "_law_pat"] ["_law_parts"] (C8.fnScope s_law_rows) := C8.fnScope_by (by decide +kernel)
def sp_rows : Sp := fun vs H Q _ => ∃ (LP : Addr) (us : List V) (Fs : List (Sn.Run → Prop)) (n m : Nat), vs = [.ref LP] ∧ H LP = some (.lst us) ∧ PartsV H Fs n us ∧ n ≤ 9000 ∧ (∀ F ∈ Fs, LenR m F) ∧ Fs.length * m ≤ 3200000 ∧
  ∀ H' u, Same H H' → New H u → RowV H' Fs n u → Q u H'
theorem ok_rows (T : TxtS K mg) {f : Addr} {fd : FuncData} (D : C8.Def K mg "_law_rows" s_law_rows f fd) (b : Binds K fd ["_law_parts"] []) : C8.Cal P w K mg base 1 "_law_rows" sp_rows [] := by
  refine C8.cal0 D b .nil sc_law_rows (fun vs H Q E h => ?_) fun cdv A outer s H vs Q E hr h => ?_
  · obtain ⟨LP, us, Fs, n, m, rfl, _⟩ := h; rfl
  · obtain ⟨LP, us, Fs, n, m, rfl, hLP, hus, hn, hlen, hm, q⟩ := h
    have nd := sc_law_rows.nd
    refine ⟨_, (pss_cons (ps_set (i := 1) nd rfl (Or.inl rfl) (pe_lst (pa_cons (pe_tup (pa_cons (pe_tup pa_nil) (pa_cons pe_int pa_nil))) pa_nil)))
      (pss_cons (ps_for PassesOwn.never rfl (pi_list (pv 0)) (pg_name (i := 2) nd rfl (Or.inl rfl)) (pss_cons (ps_if (PW.pt (pw_or (pt_cmpR op_isN1 (pv 2) pe_non (nomark _)) (pw_or1 (pt_cmpR op_gt (pe_op op_mulW (pe_callB (r := Wd.rLen K) call_len1 (by rfl) T.n_len PySem.boot_len (pa_cons (pv 1) pa_nil)) (pe_callB (r := Wd.rLen K) call_len1 (by rfl) T.n_len PySem.boot_len (pa_cons (pv 2) pa_nil))) pe_int (nomark _))))) (pss_one (ps_ret pe_non)) pss_nil)
      (pss_cons (ps_set (i := 3) nd rfl (Or.inl rfl) pe_rnew)
      (pss_cons (ps_for PassesOwn.never rfl (pi_list (pv 1)) (pg_tup rfl (pgs_cons (pg_name (i := 4) nd rfl (Or.inl rfl)) (pgs_cons (pg_name (i := 5) nd rfl (Or.inr rfl)) pgs_nil))) (pss_one (ps_for PassesOwn.never rfl (pi_list (pv 2)) (pg_tup rfl (pgs_cons (pg_name (i := 6) nd rfl (Or.inl rfl)) (pgs_cons (pg_name (i := 7) nd rfl (Or.inl rfl)) pgs_nil))) (pss_one (ps_rput hr.units (pv 3) (pe_tup (pa_cons (pe_op (r := rCatA K) op_catA (pv 4) (pe_callTy (r := rTupOf K) call_tuple1 (by rfl) T.n_tuple (by decide +kernel) (pa_cons (pe_lc (own := [("_law_pat", 8)]) (g := gName 8) (tt := tYes) rfl nd (pi_tup (pv 6)) (blkOk_by (N := ["_law_parts", "_law_found", "_law_some", "_law_longer", "_law_pats", "_law_end", "_law_more", "_law_far", "_law_pat"]) (sc := C8.fnScope s_law_rows) (by decide +kernel)) (fun _ _ _ _ _ => pg_name (i := 8) nd rfl (Or.inl rfl)) (fun _ _ _ _ _ => pts_nil) (fun _ _ _ _ _ => (pe_op op_add (pv 5) (pv 8)))) pa_nil))) (pa_cons (pe_op op_add (pv 5) (pv 7)) pa_nil))) pe_bl rfl)))))
      (pss_one (ps_set (i := 1) nd rfl (Or.inl rfl) (pe_callB (r := rSortDict K P w) (cr_sortDict rfl hr.units) (by rfl) T.n_sorted (by decide +kernel) (pa_cons (pv 3) pa_nil))))))))
      (pss_one (ps_ret (pv 1))))), ?_⟩
    walk_at "go"
    intro t0 ht0
    have s1 := same_new (o := .tup []) ht0
    have e1 := upd_same (H := H) (a := t0) (o := .tup [])
    generalize upd H t0 (.tup []) = H1 at s1 e1
    walk_at "go"
    intro t1 ht1
    have s2 := s1.trans (same_new (o := .tup [.ref t0, .int 0]) ht1)
    have e2 := same_new (o := .tup [.ref t0, .int 0]) ht1 _ _ e1
    have f2 := upd_same (H := H1) (a := t1) (o := .tup [.ref t0, .int 0])
    generalize upd H1 t1 (.tup [.ref t0, .int 0]) = H2 at s2 e2 f2
    walk_at "go"
    intro l0 hl0
    have s3 := s2.trans (same_new (o := .lst [.ref t1]) hl0)
    have k3 := keepT_new (o := .lst [.ref t1]) hl0
    have f3 := upd_same (H := H2) (a := l0) (o := .lst [.ref t1])
    generalize upd H2 l0 (.lst [.ref t1]) = H3 at s3 k3 f3
    walk_at "go"
    refine w_list (xs := us) (fun i σ H' => ∃ (Lf : Addr) (ps : RL) (v2 v3 v4 v5 v6 v7 v8 : Option V), σ = [some (.ref LP), some (.ref Lf), v2, v3, v4, v5, v6, v7, v8] ∧ Same H H' ∧ H' Lf = some (.lst (ps.map fun p => V.ref p.1)) ∧ RunsH H' ps ∧
      (∀ r, r ∈ ps.map (·.2) ↔ RowP (Fs.take i) r) ∧ (ps.map (·.2)).Nodup ∧ ps.length ≤ 1500 ∧ ps.length ≤ n ^ i ∧ H Lf = none) ?_ ?_ ?_ ?_
    · refine ⟨l0, [(t1, nilR)], _, _, _, _, _, _, _, rfl, s3, f3, fun p hp => ?_, fun r => ?_, by simp, by show 1 ≤ 1500; decide, by simp, none_back s2 hl0⟩
      · rw [List.mem_singleton.mp hp]
        exact ⟨t0, k3 _ _ f2, k3 _ _ e2⟩
      · rw [List.take_zero]
        show r ∈ [nilR] ↔ r = nilR
        rw [List.mem_singleton]
    · rintro i σ H' _ ⟨Lf, ps, v2, v3, v4, v5, v6, v7, v8, rfl, s', _⟩
      exact SqL.of (s' _ _ hLP)
    · clear s1 e1 s2 e2 f2 s3 k3 f3
      rintro i x σ H3 hx ⟨Lf, ps, v2, v3, v4, v5, v6, v7, v8, rfl, s3, eL, hps, val, ndp, c1500, cn, nLf⟩
      obtain ⟨F, hF⟩ : ∃ F, Fs[i]? = some F := by
        have il := (List.getElem?_eq_some_iff.mp hx).1
        rw [hus.1] at il
        exact ⟨_, List.getElem?_eq_getElem il⟩
      have tkF : Fs.take (i + 1) = Fs.take i ++ [F] := by rw [List.take_add_one, hF]; rfl
      walk_at "go"
      refine g_ite (fun _ => ?_) (fun hne => ?_)
      · walk_at "go"
        exact q _ _ s3 .non (.inl rfl)
      · walk_at "go"
        rcases (hus.2 i x F hx hF).keep s3 with rfl | ⟨Ls, qs, rfl, eS, hqs, vals, lq⟩
        · exact absurd rfl hne
        refine g_len (.inl (SqL.of eL)) ?_
        walk_at "go"
        refine g_len (.inl (SqL.of eS)) ?_
        walk_at "go"
        rw [List.length_map, List.length_map]
        refine g_I (mulW_small (by omega) (by omega) (by omega) (by omega)) ?_
        walk_at "go"
        refine g_ite (fun _ => ?_) (fun hle => ?_)
        · walk_at "go"
          exact q _ _ s3 .non (.inl rfl)
        · walk_at "go"
          have hle2 : ps.length * qs.length ≤ 1500 := by
            have : ¬ (1500 : Int) < (ps.length : Int) * (qs.length : Int) := hle
            rw [← Int.natCast_mul] at this
            omega
          clear hle hne
          have lF : LenR m F := hlen F (List.mem_of_getElem? hF)
          have Fpos : 1 ≤ Fs.length := by have := (List.getElem?_eq_some_iff.mp hF).1; omega
          have m1 : m ≤ 3200000 := by have := Nat.mul_le_mul_right m Fpos; omega
          have lps : ∀ r ∈ ps.map (·.2), r.1.length ≤ 3200000 := fun r hr => by
            have h1 := len_row (Fs.take i) (fun G hG => hlen G (List.mem_of_mem_take hG)) r ((val r).mp hr)
            have h2 := Nat.mul_le_mul_right m (show (Fs.take i).length ≤ Fs.length by rw [List.length_take]; omega)
            omega
          have lqs : ∀ r ∈ qs.map (·.2), r.1.length ≤ 3200000 := fun r hr => by
            have := lF r ((vals r).mp hr)
            omega
          refine g_rnew (P := P) (w := w) ?_
          intro DD hD
          have d0 : Dic P w H3 DD [] [] (upd H3 DD (RDO P w DD [])) := ⟨same_new hD, upd_same, (fun p hp => nomatch hp), fun r => Iff.rfl, List.nodup_nil, Nat.le_refl _⟩
          generalize upd H3 DD (RDO P w DD []) = H4 at d0
          walk_at "go"
          refine w_list (xs := ps.map fun p => V.ref p.1) (fun j σ H' => ∃ (ds : RL) (v4 v5 v6 v7 v8 : Option V), σ = [some (.ref LP), some (.ref Lf), some (.ref Ls), some (.ref DD), v4, v5, v6, v7, v8] ∧ Dic P w H3 DD (prodR ps qs j) ds H') ?_ ?_ ?_ ?_
          · exact ⟨[], _, _, _, _, _, rfl, d0⟩
          · rintro j σ H' _ ⟨ds, v4, v5, v6, v7, v8, rfl, dd⟩
            exact SqL.of (dd.s _ _ eL)
          · clear d0
            rintro j x σ H4 hx2 ⟨ds, v4, v5, v6, v7, v8, rfl, dd⟩
            obtain ⟨pr, hp, rfl⟩ : ∃ pr, ps[j]? = some pr ∧ x = V.ref pr.1 := by
              rw [List.getElem?_map] at hx2
              cases hq : ps[j]? with
              | none => rw [hq] at hx2; cases hx2
              | some z => rw [hq] at hx2; exact ⟨z, rfl, (Option.some.inj hx2).symm⟩
            have pm := List.mem_of_getElem? hp
            have lp := lps pr.2 (List.mem_map.mpr ⟨pr, pm, rfl⟩)
            have jl := (List.getElem?_eq_some_iff.mp hp).1
            obtain ⟨tp, hpa, hpt⟩ := hps pr pm
            refine g_gtup (SqT.of (dd.s _ _ hpa)) rfl ?_
            walk_at "go"
            refine w_list (xs := qs.map fun p => V.ref p.1) (fun k σ H' => ∃ (ds : RL) (v6 v7 v8 : Option V), σ = [some (.ref LP), some (.ref Lf), some (.ref Ls), some (.ref DD), some (.ref tp), some (.int pr.2.2), v6, v7, v8] ∧ Dic P w H3 DD (prodR ps qs j ++ (qs.take k).map fun q => cat pr.2 q.2) ds H') ?_ ?_ ?_ ?_
            · exact ⟨ds, _, _, _, rfl, by rw [List.take_zero, List.map_nil, List.append_nil]; exact dd⟩
            · rintro k σ H' _ ⟨ds, v6, v7, v8, rfl, dd⟩
              exact SqL.of (dd.s _ _ eS)
            · clear dd ds v6 v7 v8
              rintro k x σ H5 hx3 ⟨ds, v6, v7, v8, rfl, dd⟩
              obtain ⟨qr, hq2, rfl⟩ : ∃ qr, qs[k]? = some qr ∧ x = V.ref qr.1 := by
                rw [List.getElem?_map] at hx3
                cases hq : qs[k]? with
                | none => rw [hq] at hx3; cases hx3
                | some z => rw [hq] at hx3; exact ⟨z, rfl, (Option.some.inj hx3).symm⟩
              have qm := List.mem_of_getElem? hq2
              have lq2 := lqs qr.2 (List.mem_map.mpr ⟨qr, qm, rfl⟩)
              have kl := (List.getElem?_eq_some_iff.mp hq2).1
              obtain ⟨tq, hqa, hqt⟩ := hqs qr qm
              refine g_gtup (SqT.of (dd.s _ _ hqa)) rfl ?_
              walk_at "go"
              refine g_rput (P := P) (w := w) ?_
              walk_at "go"
              refine w_lcTup (xs := qr.2.1.map V.int) (SqT.of (dd.s _ _ hqt)) (fun D i H' => Same H5 H' ∧ H' D = some (.lst (((qr.2.1.take i).map fun x => pr.2.2 + x).map V.int))) ?_ ?_ ?_ ?_
              · intro D hD0
                exact ⟨same_new hD0, upd_same⟩
              · rintro D i H' hD0 _ ⟨s', _⟩
                exact SqT.of (s' _ _ (dd.s _ _ hqt))
              · rintro D i y H' hD0 hy ⟨s', e'⟩
                obtain ⟨z, hz, rfl⟩ : ∃ z, qr.2.1[i]? = some z ∧ y = V.int z := by
                  rw [List.getElem?_map] at hy
                  cases hq : qr.2.1[i]? with
                  | none => rw [hq] at hy; cases hy
                  | some z => rw [hq] at hy; exact ⟨z, rfl, (Option.some.inj hy).symm⟩
                walk_at "go"
                refine ⟨rfl, ?_⟩
                walk_at "go"
                refine ⟨_, e', ?_, same_put s' hD0, ?_⟩
                · rw [List.length_map, List.length_map, List.length_take, sizeLine_eq]
                  omega
                · rw [upd_same, List.take_add_one, hz, List.map_append, List.map_append]; rfl
              · rintro D H6 hD0 ⟨s6, e6⟩
                rw [List.length_map, List.take_length] at e6
                walk_at "go"
                refine g_tupOf (SqL.of e6) ?_
                intro tt htt
                have s7 := s6.trans (same_new (o := .tup ((qr.2.1.map fun x => pr.2.2 + x).map V.int)) htt)
                have e7 := upd_same (H := H6) (a := tt) (o := .tup ((qr.2.1.map fun x => pr.2.2 + x).map V.int))
                generalize upd H6 tt (.tup ((qr.2.1.map fun x => pr.2.2 + x).map V.int)) = H7 at s7 e7
                refine use_catA ((dd.s.trans s7) _ _ hpt) e7 (by simp only [List.length_map]; omega) fun H8 tc s78 e8 => ?_
                have s8 := s7.trans s78
                walk_at "go"
                intro a ha
                have d9 := dd.same (s8.trans (same_new (o := .tup [.ref tc, .int (pr.2.2 + qr.2.2)]) ha))
                have run : RunH (upd H8 a (.tup [.ref tc, .int (pr.2.2 + qr.2.2)])) a (cat pr.2 qr.2) := ⟨tc, upd_same, by
                  rw [same_new ha _ _ e8]
                  unfold cat
                  rw [List.map_append]⟩
                have dl : ds.length < sizeLine := by
                  have h1 := dd.len
                  rw [List.length_append, prodR_len ps qs j (by omega), List.length_map, List.length_take] at h1
                  have h2 : j * qs.length ≤ ps.length * qs.length := Nat.mul_le_mul_right _ (by omega)
                  have h3 : qs.length ≤ ps.length * qs.length := Nat.le_mul_of_pos_left _ (by omega)
                  rw [sizeLine_eq]
                  omega
                refine ⟨cat pr.2 qr.2, a, DD, ds, rfl, rfl, rfl, d9.at_, d9.own.at_, run.at_, dl, ?_⟩
                walk_at "go"
                have d10 := d9.add hD run
                rw [show prodR ps qs j ++ (qs.take k).map (fun q => cat pr.2 q.2) ++ [cat pr.2 qr.2] = prodR ps qs j ++ (qs.take (k + 1)).map (fun q => cat pr.2 q.2) by
                  rw [List.take_add_one, hq2, List.map_append, List.append_assoc]; rfl] at d10
                exact ⟨_, _, _, _, rfl, d10⟩
            · rintro σ H' ⟨ds, v6, v7, v8, rfl, dd⟩
              rw [List.length_map, List.take_length, ← prodR_succ hp] at dd
              exact ⟨ds, _, _, _, _, _, rfl, dd⟩
          · clear d0
            rintro σ H5 ⟨ds, v4, v5, v6, v7, v8, rfl, dd⟩
            rw [List.length_map] at dd
            have dl : ds.length ≤ ps.length * qs.length := by have := dd.len; rw [prodR_len ps qs _ (Nat.le_refl _)] at this; exact this
            walk_at "go"
            refine ⟨DD, ds, rfl, dd.at_, dd.own.at_, fun zs z hz nz => ?_⟩
            walk_at "go"
            refine ⟨z, zs, _, _, _, _, _, _, _, rfl, s3.trans (dd.s.trans (same_new nz)), upd_same, fun p hp => (dd.own p (hz.mem_iff.mp hp)).keep (keepT_new nz), fun r => ?_, ?_, ?_, ?_, none_back (s3.trans dd.s) nz⟩
            · rw [(hz.map (·.2)).mem_iff, dd.val, prodR_mem, tkF, rowP_snoc]
              constructor
              · rintro ⟨r1, h1, r2, h2, rfl⟩
                exact ⟨r1, r2, (val r1).mp h1, (vals r2).mp h2, rfl⟩
              · rintro ⟨r1, r2, h1, h2, rfl⟩
                exact ⟨r1, (val r1).mpr h1, r2, (vals r2).mpr h2, rfl⟩
            · exact (hz.map (·.2)).nodup_iff.mpr dd.nd
            · rw [hz.length_eq]; omega
            · rw [hz.length_eq, Nat.pow_succ]
              exact Nat.le_trans dl (Nat.mul_le_mul cn lq)
    · rintro σ H' ⟨Lf, ps, v2, v3, v4, v5, v6, v7, v8, rfl, s', eL, hps, val, ndp, c1500, cn, nLf⟩
      walk_at "go"
      rw [hus.1, List.take_length] at val
      rw [hus.1] at cn
      exact q _ _ s' (fun L e => by cases e; exact nLf) (.inr ⟨Lf, ps, rfl, eL, hps, val, ndp, c1500, cn⟩)
end
end K05
namespace K05
open PySem PySem.Spec PyProof.Rows L2 Wd Sn RT
local macro_rules | `(tactic| walk_at "gs") => `(tactic| repeat (first
  | with_reducible refine Wd.g_seq ?_
  | ((with_reducible show L2.Ends.nx _ _ _); (with_reducible refine Wd.g_nx ?_))
  | with_reducible refine Wd.g_asg ?_
  | ((with_reducible refine' Wd.g_var ?h1 ?_); (case h1 => exact rfl))
  | with_reducible refine Wd.g_c ?_
  | with_reducible refine Wd.g_op ?_
  | with_reducible refine Wd.g_un ?_
  | with_reducible refine Wd.g_I0 ?_
  | with_reducible refine Wd.g_U ?_
  | with_reducible refine Wd.g_eqI ?_
  | with_reducible refine Wd.g_neI ?_
  | with_reducible refine Wd.g_eqS ?_
  | with_reducible refine Wd.g_neS ?_
  | with_reducible refine Wd.g_eqB ?_
  | with_reducible refine Wd.g_neB ?_
  | with_reducible refine Wd.g_isN ?_
  | with_reducible refine Wd.g_notN ?_
  | with_reducible refine Wd.g_lc ?_
  | with_reducible refine Wd.g_yes ?_
  | with_reducible refine Wd.g_test ?_
  | with_reducible refine Wd.g_tB ?_
  | with_reducible refine Wd.g_bl ?_
  | with_reducible refine Wd.g_blI ?_
  | with_reducible refine Wd.g_and ?_
  | with_reducible refine Wd.g_or ?_
  | with_reducible refine Wd.g_not ?_
  | with_reducible refine Wd.g_andV ?_
  | with_reducible refine Wd.g_orV ?_
  | with_reducible refine Wd.g_notV ?_
  | with_reducible refine Wd.g_if ?_
  | with_reducible refine Wd.g_chain ?_
  | with_reducible refine Wd.g_chain3 ?_
  | with_reducible refine Wd.g_nil ?_
  | with_reducible refine Wd.g_cons ?_
  | with_reducible refine Wd.g_tup ?_
  | with_reducible refine Wd.g_lst ?_
  | with_reducible refine Wd.g_CB ?_
  | with_reducible refine Wd.g_call ?_
  | with_reducible refine Wd.g_callS ?_
  | with_reducible refine Wd.g_bm ?_
  | with_reducible refine Wd.g_bm0 ?_
  | with_reducible refine Wd.g_sl ?_
  | with_reducible refine Wd.g_part ?_
  | with_reducible refine Wd.g_part1 ?_
  | with_reducible refine Wd.g_noPart ?_
  | with_reducible refine Wd.g_next ?_
  | with_reducible refine Wd.g_name ?_
  | with_reducible refine Wd.g_sub ?_
  | with_reducible refine Wd.g_gnil ?_
  | with_reducible refine Wd.g_gcons ?_
  | with_reducible refine Wd.g_drop ?_
  | with_reducible refine Wd.g_ret ?_
  | with_reducible refine Wd.g_retN ?_
  | with_reducible refine Wd.g_brk ?_
  | with_reducible refine Wd.g_cont ?_
  | ((with_reducible show L2.Ends.bk _ _ _); (with_reducible refine Wd.g_bk ?_))
  | ((with_reducible show L2.Ends.ct _ _ _); (with_reducible refine Wd.g_ct ?_))
  | ((with_reducible show L2.Ends.rt _ _ _); (with_reducible refine Wd.g_rt ?_))
  | with_reducible refine Wd.g_for ?_
  | with_reducible refine Wd.g_rng1 ?_
  | with_reducible refine Wd.g_rng2 ?_
  | with_reducible refine Wd.g_iList ?_
  | with_reducible refine Wd.g_iTup ?_
  | ((with_reducible refine Wd.g_fit ?h1 ?_); (case h1 => exact rfl))
  | with_reducible refine Wd.g_max2 ?_
  | with_reducible refine Wd.g_min2 ?_
  | with_reducible refine Wd.g_int1B ?_
  | with_reducible refine L2.iteT ?_
  | with_reducible refine L2.iteF ?_
  | ((with_reducible refine Wd.g_itT ?h1 ?_); (case h1 => exact rfl))
  | ((with_reducible refine Wd.g_itF ?h1 ?_); (case h1 => exact rfl))))
theorem w_rangeR {σ : L2.St} {H : Hp} {a : L2.St → Hp → Prop} {b : VK} {g : TG} {tb : TS} {lo n : Int} (h1 : -(2 ^ 62) ≤ lo ∧ lo < 2 ^ 62 ∧ -(2 ^ 62) ≤ n ∧ n < 2 ^ 62) (Pv : Nat → L2.St → Hp → Prop) (h0 : Pv 0 σ H)
    (hs : ∀ i σ H, i < (n - lo).toNat → Pv i σ H → g (.int (lo + i)) σ H fun σ2 H2 => tb ⟨Pv (i + 1), b, a, Pv (i + 1)⟩ σ2 H2) (hd : ∀ σ H, Pv (n - lo).toNat σ H → a σ H) :
    ∃ i j : Int, [V.int lo, .int n] = [.int i, .int j] ∧ (-(2 ^ 62) ≤ i ∧ i < 2 ^ 62 ∧ -(2 ^ 62) ≤ j ∧ j < 2 ^ 62) ∧ ForEnd g tb a b σ (Itr i (j - i).toNat) H :=
  ⟨lo, n, rfl, h1, for_range (D := ⟨a, b, fun _ _ => False, fun _ _ => False⟩) Pv h0 hs hd⟩
theorem w_lcRangeR {σ : L2.St} {H : Hp} {Q : VK} {g : TG} {tt : TT} {te : TE} {vs : List Nat} {lo n : Int} (h1 : -(2 ^ 62) ≤ lo ∧ lo < 2 ^ 62 ∧ -(2 ^ 62) ≤ n ∧ n < 2 ^ 62) (Pv : Addr → Nat → Hp → Prop) (h0 : ∀ D, H D = none → Pv D 0 (upd H D (.lst [])))
    (hs : ∀ D i H', H D = none → i < (n - lo).toNat → Pv D i H' → g (.int (lo + i)) (wipe σ vs) H' fun σ2 H2 => wipe σ2 vs = wipe σ vs ∧ tt σ2 H2 fun b H3 =>
      if b = true then te σ2 H3 fun y H4 => ∃ acc, H4 D = some (.lst acc) ∧ acc.length < sizeLine ∧ Pv D (i + 1) (upd H4 D (.lst (acc ++ [y]))) else Pv D (i + 1) H3) (hd : ∀ D H', H D = none → Pv D (n - lo).toNat H' → Q (.ref D) H') :
    ∃ i j : Int, [V.int lo, .int n] = [.int i, .int j] ∧ (-(2 ^ 62) ≤ i ∧ i < 2 ^ 62 ∧ -(2 ^ 62) ≤ j ∧ j < 2 ^ 62) ∧ LcEnd g tt te vs σ Q (Itr i (j - i).toNat) H :=
  ⟨lo, n, rfl, h1, fun D hD => lc_range (Pv D) (h0 D hD) (fun i H' hi p => hs D i H' hD hi p) (fun H' p => hd D H' hD p)⟩
theorem PartsV.nil {H : Hp} {n : Nat} : PartsV H [] n [] := ⟨rfl, fun i u F h _ => by simp at h⟩
theorem PartsV.keep {H H' : Hp} {Fs : List (Sn.Run → Prop)} {n : Nat} {us : List V} (h : PartsV H Fs n us) (e : Same H H') : PartsV H' Fs n us := ⟨h.1, fun i u F h1 h2 => (h.2 i u F h1 h2).keep e⟩
theorem PartV.frm {H H' : Hp} {F : Sn.Run → Prop} {n : Nat} {D : Addr} {u : V} (h : PartV H F n u) (f : Frm D H H') (k : KeepT H H') (ne : u ≠ .ref D) : PartV H' F n u := by
  rcases h with h | ⟨L, ps, rfl, h2, h3, h4⟩
  · exact .inl h
  · exact .inr ⟨L, ps, rfl, f _ _ (fun z => ne (by rw [z])) h2, h3.keep k, h4⟩
theorem PartsV.frm {H H' : Hp} {Fs : List (Sn.Run → Prop)} {n : Nat} {D : Addr} {us : List V} (h : PartsV H Fs n us) (f : Frm D H H') (k : KeepT H H') (ne : ∀ u ∈ us, u ≠ .ref D) : PartsV H' Fs n us := ⟨h.1, fun i u F h1 h2 => (h.2 i u F h1 h2).frm f k (ne u (List.mem_of_getElem? h1))⟩
theorem PartsV.snoc {H : Hp} {Fs : List (Sn.Run → Prop)} {F : Sn.Run → Prop} {n : Nat} {us : List V} {u : V} (h : PartsV H Fs n us) (hu : PartV H F n u) : PartsV H (Fs ++ [F]) n (us ++ [u]) := by
  refine ⟨by rw [List.length_append, List.length_append, h.1]; rfl, fun i v G h1 h2 => ?_⟩
  by_cases c : i < us.length
  · rw [List.getElem?_append_left c] at h1
    rw [List.getElem?_append_left (by rw [← h.1]; exact c)] at h2
    exact h.2 i v G h1 h2
  · rw [List.getElem?_append_right (by omega)] at h1
    rw [List.getElem?_append_right (by rw [← h.1]; omega), ← h.1] at h2
    have i0 : i - us.length = 0 := by
      have := (List.getElem?_eq_some_iff.mp h1).1
      rw [List.length_singleton] at this
      omega
    rw [i0] at h1 h2
    cases h1; cases h2
    exact hu
theorem PartsV.rep {H : Hp} {F : Sn.Run → Prop} {n : Nat} {u : V} (hu : PartV H F n u) : ∀ k, PartsV H (List.replicate k F) n (List.replicate k [u]).flatten := fun k => by
  have e : (List.replicate k [u]).flatten = List.replicate k u := by
    induction k with
    | zero => rfl
    | succ k ih => rw [List.replicate_succ, List.flatten_cons, ih, List.replicate_succ]; rfl
  rw [e]
  refine ⟨by rw [List.length_replicate, List.length_replicate], fun i v G h1 h2 => ?_⟩
  obtain ⟨_, h1⟩ := List.getElem?_eq_some_iff.mp h1
  obtain ⟨_, h2⟩ := List.getElem?_eq_some_iff.mp h2
  rw [List.getElem_replicate] at h1 h2
  subst h1; subst h2
  exact hu
theorem row_mr {k c n : Nat} (h : c ≤ 1500) (h2 : c ≤ MR k ^ n) (hn : n ≤ 3) : c ≤ MR (k + 1) := by
  match k with
  | 0 =>
    have : MR 0 ^ n ≤ 3 ^ 3 := Nat.pow_le_pow_right (by decide) hn
    show c ≤ 100
    omega
  | k + 1 => exact mr_row h (by omega)
/-- how many runs so many turns of a loop have at the most -/
def LB : Nat → Nat
  | 0 => 19
  | _ + 1 => 1500
theorem lb_le (k : Nat) : LB k ≤ 1500 := by
  match k with
  | 0 => decide
  | k + 1 => exact Nat.le_refl _
theorem lb_mr (k : Nat) : 2 * LB k ≤ MR (k + 1) := by
  match k with
  | 0 => decide
  | 1 => decide
  | k + 2 => show 2 * 1500 ≤ 9000; decide
theorem lb_row {p : Pl} {k n : Nat} {l : List Sn.Run} (hp : okS k p) (hn : n ≤ 9) (nd : l.Nodup) (h : ∀ r ∈ l, RunN (RunOf p) n r) (h2 : l.length ≤ 1500) : l.length ≤ LB k := by
  match k, hp with
  | 0, hp => exact few_leaf hp hn nd h
  | k + 1, _ => exact h2
/-- a list of runs at a -/
structure LstR (H : Hp) (a : Addr) (ps : RL) : Prop where
  at_ : H a = some (.lst (ps.map fun p => V.ref p.1))
  own : RunsH H ps
theorem LstR.keep {H H' : Hp} {a : Addr} {ps : RL} (h : LstR H a ps) (e : Same H H') : LstR H' a ps := ⟨e _ _ h.at_, h.own.keep (keepT_same e)⟩
section
variable {w : World} {K : PySem.W.Frag} {H : Hp} {Q : VK}
theorem g_catR {a b : Addr} {ps qs : RL} (h1 : LstR H a ps) (h2 : LstR H b qs) (hl : ps.length + qs.length ≤ 16000000) (k : ∀ H' p, Same H H' → LstR H' p (ps ++ qs) → Q (.ref p) H') : rCat (.ref a) (.ref b) H Q := by
  refine ⟨a, b, _, _, rfl, rfl, h1.at_, h2.at_, by rw [sizeLine_eq, List.length_map, List.length_map]; omega, fun p hp => ?_⟩
  rw [← List.map_append]
  have s := same_new (o := .lst ((ps ++ qs).map fun p => V.ref p.1)) hp
  refine k _ p s ⟨upd_same, fun x hx => ?_⟩
  rcases List.mem_append.mp hx with hx | hx
  · exact (h1.own x hx).keep (keepT_same s)
  · exact (h2.own x hx).keep (keepT_same s)
theorem g_setRun {l : Addr} {ps : RL} (h : LstR H l ps) (hf : ps.length ≤ 9900) (q : ∀ a L, H a = none → (∀ p ∈ L, p ∈ ps) → (∀ p ∈ ps, p.2 ∈ L.map (·.2)) → L.length ≤ ps.length → Q (.ref a) (upd H a (SetRO w a L))) : rSetRun K w [.ref l] H Q := ⟨l, ps, rfl, SqL.of h.at_, h.own.at_, hf, q⟩
/-- sorted(set(xs)) -/
theorem g_sortSet {l : Addr} {ps : RL} (h : LstR H l ps) (hf : ps.length ≤ 9000) (q : ∀ H' p qs, Same H H' → H p = none → LstR H' p qs → (∀ r, r ∈ qs.map (·.2) ↔ r ∈ ps.map (·.2)) → qs.length ≤ ps.length → Q (.ref p) H') : rSetRun K w [.ref l] H (fun x H1 => rSortRun K w [x] H1 Q) := by
  refine g_setRun h (by omega) fun a L ha sub all len => ?_
  have s1 := same_new (o := SetRO w a L) ha
  have own1 : RunsH (upd H a (SetRO w a L)) L := fun p hp => (h.own p (sub p hp)).keep (keepT_same s1)
  refine ⟨a, L, rfl, upd_same, own1.at_, by omega, fun qs p pm hp => ?_⟩
  have s2 := same_new (o := .lst (qs.map fun q => V.ref q.1)) hp
  refine q _ p qs (s1.trans s2) (none_back s1 hp) ⟨upd_same, fun x hx => (own1 x (pm.mem_iff.mp hx)).keep (keepT_same s2)⟩ (fun r => ?_) (by rw [pm.length_eq]; exact len)
  rw [(pm.map (·.2)).mem_iff]
  constructor
  · intro hr
    obtain ⟨x, hx, rfl⟩ := List.mem_map.mp hr
    exact List.mem_map.mpr ⟨x, sub x hx, rfl⟩
  · intro hr
    obtain ⟨x, hx, rfl⟩ := List.mem_map.mp hr
    exact all x hx
end
section
variable {P : Program} {w : World} {K : PySem.W.Frag} {mg : Str → Option Value} {base : Heap}
abbrev s_law_runs : Stmt := top 44
theorem sc_law_runs : FnScope ["_law_plan_here", "_law_many", "_law_found", "_law_part", "_law_some", "_law_times"] ["_law_plan_here"] (C8.fnScope s_law_runs) := C8.fnScope_by (by decide +kernel)
def sp_runs : Nat → Sp
  | 0 => fun _ _ _ _ => False
  | d + 1 => fun vs H Q _ => ∃ (v : V) (p : Pl) (l k : Nat), vs = [v] ∧ PlA H v p ∧ okP d l p ∧ d ≤ 4 ∧ okS k p ∧ k ≤ 3 ∧ ∀ H' u, Same H H' → New H u → PartV H' (RunOf p) (MR k) u → Q u H'
theorem use_runs {d : Nat} {H : Hp} {v : V} {p : Pl} {l k : Nat} {Q : VK} {E : XK} (hp : PlA H v p) (ok : okP d l p) (hd : d ≤ 4) (so : okS k p) (hk : k ≤ 3) (q : ∀ H' u, Same H H' → New H u → PartV H' (RunOf p) (MR k) u → Q u H') : sp_runs (d + 1) ([v] ++ []) H Q E := ⟨v, p, l, k, rfl, hp, ok, hd, so, hk, q⟩
theorem runs_step (T : TxtS K mg) {d : Nat} {f : Addr} {fd : FuncData} (D : C8.Def K mg "_law_runs" s_law_runs f fd) (b : Binds K fd ["_law_plan_here"] []) (g_law_rows : C8.Cal P w K mg base 1 "_law_rows" sp_rows [])
    (g_law_runs : C8.Cal P w K mg base (d + 1) "_law_runs" (sp_runs d) []) : C8.Cal P w K mg base (d + 2) "_law_runs" (sp_runs (d + 1)) [] := by
  refine C8.cal0 D b .nil sc_law_runs (fun vs H Q E h => ?_) fun cdv A outer s H vs Q E hr h => ?_
  · obtain ⟨v, p, l, k, rfl, _⟩ := h; rfl
  · obtain ⟨v, p, l, k, rfl, hp, ok, hd, so, hk, q⟩ := h
    have nd := sc_law_runs.nd
    have hr : Room (d + 1) _ := hr
    refine ⟨_, (pss_cons (ps_if (pt_cmpR op_eq (pe_ix (r := rIxT K) ix_tup (pv 0) pe_int (fun _ _ => rfl)) pe_str (nomark _)) (pss_one (ps_ret (pe_lst (pa_cons (pe_tup (pa_cons (pe_tup (pa_cons pe_int pa_nil)) (pa_cons pe_int pa_nil))) pa_nil)))) pss_nil)
      (pss_cons (ps_if (pt_cmpR op_eq (pe_ix (r := rIxT K) ix_tup (pv 0) pe_int (fun _ _ => rfl)) pe_str (nomark _)) (pss_one (ps_ret (pe_lc (own := [("_law_many", 1)]) (g := gName 1) (tt := tYes) rfl nd (pi_range2 rfl T.n_range (pa_cons (pe_ix (r := rIxT K) ix_tup (pv 0) pe_int (fun _ _ => rfl)) (pa_cons (pe_op op_add (pe_ix (r := rIxT K) ix_tup (pv 0) pe_int (fun _ _ => rfl)) pe_int) pa_nil))) (blkOk_by (N := ["_law_plan_here", "_law_many", "_law_found", "_law_part", "_law_some", "_law_times"]) (sc := C8.fnScope s_law_runs) (by decide +kernel)) (fun _ _ _ _ _ => pg_name (i := 1) nd rfl (Or.inl rfl)) (fun _ _ _ _ _ => pts_nil) (fun _ _ _ _ _ => (pe_tup (pa_cons (pe_tup pa_nil) (pa_cons (pv 1) pa_nil))))))) pss_nil)
      (pss_cons (ps_if (pt_cmpR op_eq (pe_ix (r := rIxT K) ix_tup (pv 0) pe_int (fun _ _ => rfl)) pe_str (nomark _)) (pss_cons (ps_set (i := 2) nd rfl (Or.inl rfl) (pe_lst pa_nil))
      (pss_cons (ps_for PassesOwn.never rfl (pi_tup (pe_ix (r := rIxT K) ix_tup (pv 0) pe_int (fun _ _ => rfl))) (pg_name (i := 3) nd rfl (Or.inl rfl)) (pss_cons (ps_set (i := 4) nd rfl (Or.inl rfl) (C8.pe_c g_law_runs hr (by first | decide | exact Nat.le_refl _ | omega) (by rfl) (pa_cons (pv 3) pa_nil)))
      (pss_cons (ps_if (pt_cmpR op_isN1 (pv 4) pe_non (nomark _)) (pss_one (ps_ret pe_non)) pss_nil)
      (pss_one (ps_set (i := 2) nd rfl (Or.inl rfl) (pe_op op_cat (pv 2) (pv 4)))))))
      (pss_one (ps_ret (pe_callB (r := rSortRun K w) (cr_sortRun rfl hr.units) (by rfl) T.n_sorted (by decide +kernel) (pa_cons (pe_callTy (r := rSetRun K w) (cr_setRun rfl hr.units) (by rfl) T.n_set (by decide +kernel) (pa_cons (pv 2) pa_nil)) pa_nil)))))) pss_nil)
      (pss_cons (ps_if (pt_cmpR op_eq (pe_ix (r := rIxT K) ix_tup (pv 0) pe_int (fun _ _ => rfl)) pe_str (nomark _)) (pss_one (ps_ret (C8.pe_c g_law_rows hr (by first | decide | exact Nat.le_refl _ | omega) (by rfl) (pa_cons (pe_lc (own := [("_law_part", 3)]) (g := gName 3) (tt := tYes) rfl nd (pi_tup (pe_ix (r := rIxT K) ix_tup (pv 0) pe_int (fun _ _ => rfl))) (blkOk_by (N := ["_law_plan_here", "_law_many", "_law_found", "_law_part", "_law_some", "_law_times"]) (sc := C8.fnScope s_law_runs) (by decide +kernel)) (fun _ _ _ _ _ => pg_name (i := 3) nd rfl (Or.inl rfl)) (fun _ _ _ _ _ => pts_nil) (fun _ _ _ _ _ => (C8.pe_c g_law_runs hr (by first | decide | exact Nat.le_refl _ | omega) (by rfl) (pa_cons (pv 3) pa_nil)))) pa_nil)))) pss_nil)
      (pss_cons (ps_set (i := 2) nd rfl (Or.inl rfl) (pe_lst pa_nil))
      (pss_cons (ps_for PassesOwn.never rfl (pi_range2 rfl T.n_range (pa_cons (pe_ix (r := rIxT K) ix_tup (pv 0) pe_int (fun _ _ => rfl)) (pa_cons (pe_op op_add (pe_ix (r := rIxT K) ix_tup (pv 0) pe_int (fun _ _ => rfl)) pe_int) pa_nil))) (pg_name (i := 5) nd rfl (Or.inl rfl)) (pss_cons (ps_set (i := 4) nd rfl (Or.inl rfl) (C8.pe_c g_law_rows hr (by first | decide | exact Nat.le_refl _ | omega) (by rfl) (pa_cons (pe_op op_rep (pe_lst (pa_cons (C8.pe_c g_law_runs hr (by first | decide | exact Nat.le_refl _ | omega) (by rfl) (pa_cons (pe_ix (r := rIxT K) ix_tup (pv 0) pe_int (fun _ _ => rfl)) pa_nil)) pa_nil)) (pv 5)) pa_nil)))
      (pss_cons (ps_if (pt_cmpR op_isN1 (pv 4) pe_non (nomark _)) (pss_one (ps_ret pe_non)) pss_nil)
      (pss_one (ps_set (i := 2) nd rfl (Or.inl rfl) (pe_op op_cat (pv 2) (pv 4)))))))
      (pss_one (ps_ret (pe_callB (r := rSortRun K w) (cr_sortRun rfl hr.units) (by rfl) T.n_sorted (by decide +kernel) (pa_cons (pe_callTy (r := rSetRun K w) (cr_setRun rfl hr.units) (by rfl) T.n_set (by decide +kernel) (pa_cons (pv 2) pa_nil)) pa_nil)))))))))), ?_⟩
    cases hp with
    | pat ha =>
      walk_at "go"
      refine g_ixT (SqT.of ha) rfl ?_
      walk_at "go"
      intro t0 h0
      have s1 := same_new (o := .tup [.int 0]) h0
      have e1 := upd_same (H := H) (a := t0) (o := .tup [.int 0])
      generalize upd H t0 (.tup [.int 0]) = H1 at s1 e1
      walk_at "go"
      intro t1 h1
      have s2 := s1.trans (same_new (o := .tup [.ref t0, .int 0]) h1)
      have e2 := same_new (o := .tup [.ref t0, .int 0]) h1 _ _ e1
      have f2 := upd_same (H := H1) (a := t1) (o := .tup [.ref t0, .int 0])
      generalize upd H1 t1 (.tup [.ref t0, .int 0]) = H2 at s2 e2 f2
      walk_at "go"
      intro t2 h2
      have s3 := same_new (o := .lst [.ref t1]) h2
      refine q _ _ (s2.trans s3) (fun L e => by cases e; exact none_back s2 h2) (.inr ⟨t2, [(t1, ([0], 0))], rfl, upd_same, fun p hp => ?_, fun r => ?_, ?_⟩)
      · rw [List.mem_singleton.mp hp]
        exact ⟨t0, s3 _ _ f2, s3 _ _ e2⟩
      · rw [RunOf]
        show r ∈ [([0], 0)] ↔ _
        rw [List.mem_singleton]
      · have : 1 ≤ MR k := by
          match k with
          | 0 => decide
          | 1 => decide
          | 2 => decide
          | k + 3 => show 1 ≤ 9000; decide
        exact this
    | @work a x y ha =>
      unfold okP at ok
      unfold okS at so
      walk_at "go"
      refine g_ixT (SqT.of ha) rfl ?_
      walk_at "go"
      refine g_ixT (SqT.of ha) rfl ?_
      walk_at "go"
      refine g_ixT (SqT.of ha) rfl ?_
      walk_at "go"
      refine g_ixT (SqT.of ha) rfl ?_
      walk_at "go"
      refine w_lcRangeR (by omega) (fun D i H' => Same H H' ∧ ∃ ps : RL, LstR H' D ps ∧ ps.map (·.2) = (List.range i).map fun j : Nat => (([], x + (j : Int)) : Sn.Run)) ?_ ?_ ?_
      · intro D hD
        exact ⟨same_new hD, [], ⟨upd_same, fun p hp => nomatch hp⟩, rfl⟩
      · rintro D i H2 hD hi ⟨s2, ps, hL, hv⟩
        walk_at "go"
        refine ⟨rfl, ?_⟩
        walk_at "go"
        intro t0 h0
        have s3 := same_new (o := .tup []) h0
        have e3 := upd_same (H := H2) (a := t0) (o := .tup [])
        generalize upd H2 t0 (.tup []) = H3 at s3 e3
        walk_at "go"
        intro t1 h1
        have s4 := s3.trans (same_new (o := .tup [.ref t0, .int (x + i)]) h1)
        have e4 := same_new (o := .tup [.ref t0, .int (x + i)]) h1 _ _ e3
        have f4 := upd_same (H := H3) (a := t1) (o := .tup [.ref t0, .int (x + i)])
        generalize upd H3 t1 (.tup [.ref t0, .int (x + i)]) = H4 at s4 e4 f4
        have hL4 := hL.keep s4
        have k5 : KeepT H4 (upd H4 D (.lst (ps.map (fun p => V.ref p.1) ++ [.ref t1]))) := keepT_lst hL4.at_
        have pl : ps.length = i := by
          have := congrArg List.length hv
          rw [List.length_map, List.length_map, List.length_range] at this
          exact this
        refine ⟨_, hL4.at_, small_lt (by rw [List.length_map, pl]; omega), same_put (s2.trans s4) hD, ps ++ [(t1, ([], x + i))], ⟨by rw [upd_same, List.map_append]; rfl, fun p hp => ?_⟩, ?_⟩
        · rcases List.mem_append.mp hp with hp | hp
          · exact (hL4.own p hp).keep k5
          · rw [List.mem_singleton.mp hp]
            exact ⟨t0, k5 _ _ f4, k5 _ _ e4⟩
        · rw [List.map_append, hv, List.range_succ, List.map_append]; rfl
      · rintro D H2 hD ⟨s2, ps, hL, hv⟩
        walk_at "go"
        refine q _ _ s2 (fun L e => by cases e; exact hD) (.inr ⟨D, ps, rfl, hL.at_, hL.own, fun r => ?_, ?_⟩)
        · rw [hv, RunOf, List.mem_map]
          constructor
          · rintro ⟨j, hj, rfl⟩
            have := List.mem_range.mp hj
            exact ⟨rfl, by show x ≤ x + (j : Int); omega, by show x + (j : Int) ≤ y; omega⟩
          · rintro ⟨h0, h1, h2⟩
            exact ⟨(r.2 - x).toNat, List.mem_range.mpr (by omega), Prod.ext h0.symm (by show x + ((r.2 - x).toNat : Int) = r.2; omega)⟩
        · have pl : ps.length = (y + 1 - x).toNat := by
            have := congrArg List.length hv
            rw [List.length_map, List.length_map, List.length_range] at this
            exact this
          have : 3 ≤ MR k := by
            match k with
            | 0 => decide
            | 1 => decide
            | 2 => decide
            | k + 3 => show 3 ≤ 9000; decide
          omega
    | @row a c vs ps ha hc hps =>
      match d, ok with
      | 0, ok => unfold okP at ok; exact ok.elim
      | d + 1, ok =>
      match k, so with
      | 0, so => unfold okS at so; exact so.elim
      | k + 1, so =>
      unfold okP at ok
      unfold okS at so
      have ln := hps.len
      have p20 : 20 ^ d ≤ 20 ^ 3 := Nat.pow_le_pow_right (by decide) (by omega)
      walk_at "go"
      refine g_ixT (SqT.of ha) rfl ?_
      walk_at "go"
      refine g_ixT (SqT.of ha) rfl ?_
      walk_at "go"
      refine g_ixT (SqT.of ha) rfl ?_
      walk_at "go"
      refine g_ixT (SqT.of ha) rfl ?_
      walk_at "go"
      refine g_ixT (SqT.of ha) rfl ?_
      walk_at "go"
      refine w_lcTup (xs := vs) (SqT.of hc) (fun D i H' => Same H H' ∧ ∃ us, H' D = some (.lst us) ∧ (∀ u ∈ us, u ≠ .ref D) ∧ PartsV H' ((ps.take i).map RunOf) (MR k) us) ?_ ?_ ?_ ?_
      · intro D hD
        exact ⟨same_new hD, [], upd_same, (fun u hu => nomatch hu), .nil⟩
      · rintro D i H' hD _ ⟨s2, _⟩
        exact SqT.of (s2 _ _ hc)
      · rintro D i v H' hD hv ⟨s2, us, eD, ne, pv⟩
        obtain ⟨p, hp, pA⟩ := hps.at hv
        have hi := (List.getElem?_eq_some_iff.mp hp).1
        walk_at "go"
        refine ⟨rfl, ?_⟩
        walk_at "go"
        refine use_runs (PlA_keep (keepT_same s2) _ _ pA) (okPs_at ok.2.2 hp) (by omega) (okSs_at so.2 (List.mem_of_getElem? hp)) (by omega) fun H3 u s3 nu pu => ?_
        walk_at "go"
        have eD3 := s3 _ _ eD
        have neu : u ≠ .ref D := fun z => by rw [nu D z] at eD; cases eD
        have f4 : Frm D H3 (upd H3 D (.lst (us ++ [u]))) := .set
        have k4 : KeepT H3 (upd H3 D (.lst (us ++ [u]))) := keepT_lst eD3
        refine ⟨us, eD3, small_lt (by rw [pv.1, List.length_map, List.length_take]; omega), same_put (s2.trans s3) hD, us ++ [u], upd_same, fun y hy => ?_, ?_⟩
        · rcases List.mem_append.mp hy with hy | hy
          · exact ne y hy
          · rw [List.mem_singleton.mp hy]; exact neu
        · rw [take_snoc hp, List.map_append]
          exact ((pv.keep s3).frm f4 k4 ne).snoc (pu.frm f4 k4 neu)
      · rintro D H' hD ⟨s2, us, eD, _, pv⟩
        rw [ln, List.take_length] at pv
        walk_at "go"
        refine ⟨D, us, _, MR k, 20 ^ d, rfl, eD, pv, mr_le k, len_runs ps d l ok.2.2, ?_, fun H3 u s3 nu ru => ?_⟩
        · rw [List.length_map]
          have := Nat.mul_le_mul ok.2.1 p20
          omega
        · walk_at "go"
          refine q _ _ (s2.trans s3) (nu.back s2) ?_
          rcases ru with rfl | ⟨L, rs, rfl, eL, ow, va, _, l1, l2⟩
          · exact .inl rfl
          · rw [List.length_map] at l2
            exact .inr ⟨L, rs, rfl, eL, ow, fun r => by rw [va, RunOf, runRow_eq], row_mr l1 l2 so.1⟩
    | @either a c vs ps ha hc hps =>
      match d, ok with
      | 0, ok => unfold okP at ok; exact ok.elim
      | d + 1, ok =>
      match k, so with
      | 0, so => unfold okS at so; exact so.elim
      | k + 1, so =>
      unfold okP at ok
      unfold okS at so
      have ln := hps.len
      obtain ⟨k2, so2, k3, mr⟩ : ∃ k2, okSs k2 ps ∧ k2 ≤ 3 ∧ ps.length * MR k2 ≤ MR (k + 1) := by
        rcases so with ⟨h1, h2⟩ | ⟨h1, h2⟩
        · exact ⟨k, h2, by omega, Nat.le_trans (Nat.mul_le_mul_right _ h1) (mr_three k (by omega))⟩
        · exact ⟨k - 1, h2, by omega, Nat.le_trans (Nat.mul_le_mul_right _ h1) (mr_ten k (by omega))⟩
      have mr9 := mr_le (k + 1)
      have mr2 := mr_le k2
      walk_at "go"
      refine g_ixT (SqT.of ha) rfl ?_
      walk_at "go"
      refine g_ixT (SqT.of ha) rfl ?_
      walk_at "go"
      refine g_ixT (SqT.of ha) rfl ?_
      walk_at "go"
      intro l0 hl0
      have s1 := same_new (o := .lst []) hl0
      have e1 := upd_same (H := H) (a := l0) (o := .lst [])
      generalize upd H l0 (.lst []) = H1 at s1 e1
      walk_at "go"
      refine g_ixT (SqT.of (s1 _ _ ha)) rfl ?_
      refine w_tup (xs := vs) (fun i σ H' => ∃ (Lf : Addr) (fs : RL) (v1 v3 v4 v5 : Option V), σ = [some (.ref a), v1, some (.ref Lf), v3, v4, v5] ∧ Same H H' ∧ LstR H' Lf fs ∧ (∀ r, r ∈ fs.map (·.2) ↔ ∃ p ∈ ps.take i, RunOf p r) ∧ fs.length ≤ i * MR k2) ?_ ?_ ?_ ?_
      · exact ⟨l0, [], _, _, _, _, rfl, s1, ⟨e1, fun p hp => nomatch hp⟩, fun r => by simp, by simp⟩
      · rintro i σ H' _ ⟨Lf, fs, v1, v3, v4, v5, rfl, s2, _⟩
        exact SqT.of (s2 _ _ hc)
      · rintro i v σ H2 hv ⟨Lf, fs, v1, v3, v4, v5, rfl, s2, lf, va, fl⟩
        obtain ⟨p, hp, pA⟩ := hps.at hv
        have hi := (List.getElem?_eq_some_iff.mp hp).1
        walk_at "go"
        refine use_runs (PlA_keep (keepT_same s2) _ _ pA) (okPs_at ok.2.2 hp) (by omega) (okSs_at so2 (List.mem_of_getElem? hp)) k3 fun H3 u s3 nu pu => ?_
        have s23 := s2.trans s3
        walk_at "go"
        rcases pu with rfl | ⟨L, qs, rfl, eL, ow, vq, lq⟩
        · refine g_ite (fun _ => ?_) (fun z => absurd rfl z)
          walk_at "go"
          exact q _ _ s23 .non (.inl rfl)
        · refine g_ite (fun z => nomatch z) (fun _ => ?_)
          walk_at "go"
          have il : i * MR k2 ≤ ps.length * MR k2 := Nat.mul_le_mul_right _ (Nat.le_of_lt hi)
          refine g_catR (lf.keep s3) ⟨eL, ow⟩ (by omega) fun H4 z s4 lz => ?_
          walk_at "go"
          refine ⟨z, fs ++ qs, _, _, _, _, rfl, s23.trans s4, lz, fun r => ?_, ?_⟩
          · rw [List.map_append, List.mem_append, va, vq, take_snoc hp]
            constructor
            · rintro (⟨p', h1, h2⟩ | h)
              · exact ⟨p', List.mem_append_left _ h1, h2⟩
              · exact ⟨p, by simp, h⟩
            · rintro ⟨p', h1, h2⟩
              rcases List.mem_append.mp h1 with h1 | h1
              · exact .inl ⟨p', h1, h2⟩
              · rw [List.mem_singleton.mp h1] at h2
                exact .inr h2
          · rw [List.length_append, Nat.succ_mul]
            omega
      · rintro σ H2 ⟨Lf, fs, v1, v3, v4, v5, rfl, s2, lf, va, fl⟩
        rw [ln, List.take_length] at va
        rw [ln] at fl
        walk_at "go"
        refine g_sortSet lf (by omega) fun H3 z zs s3 fz lz vz nz => ?_
        walk_at "go"
        exact q _ _ (s2.trans s3) (fun L e => by cases e; exact none_back s2 fz) (.inr ⟨z, zs, rfl, lz.at_, lz.own, fun r => by rw [vz, va, RunOf, runE_eq], by omega⟩)
    | @loop a x y u p ha hu =>
      match d, ok with
      | 0, ok => unfold okP at ok; exact ok.elim
      | d + 1, ok =>
      match l, ok with
      | 0, ok => unfold okP at ok; exact ok.elim
      | l + 1, ok =>
      match k, so with
      | 0, so => unfold okS at so; exact so.elim
      | k + 1, so =>
      unfold okP at ok
      unfold okS at so
      obtain ⟨x0, xy, y9, okp⟩ := ok
      have mr9 := mr_le (k + 1)
      have lb := lb_le k
      have lbm := lb_mr k
      have p20 : 20 ^ d ≤ 20 ^ 3 := Nat.pow_le_pow_right (by decide) (by omega)
      walk_at "go"
      refine g_ixT (SqT.of ha) rfl ?_
      walk_at "go"
      refine g_ixT (SqT.of ha) rfl ?_
      walk_at "go"
      refine g_ixT (SqT.of ha) rfl ?_
      walk_at "go"
      refine g_ixT (SqT.of ha) rfl ?_
      walk_at "go"
      intro l0 hl0
      have s1 := same_new (o := .lst []) hl0
      have e1 := upd_same (H := H) (a := l0) (o := .lst [])
      generalize upd H l0 (.lst []) = H1 at s1 e1
      walk_at "go"
      refine g_ixT (SqT.of (s1 _ _ ha)) rfl ?_
      walk_at "go"
      refine g_ixT (SqT.of (s1 _ _ ha)) rfl ?_
      walk_at "go"
      refine w_rangeR (by omega) (fun i σ H' => ∃ (Lf : Addr) (fs : RL) (v1 v3 v4 v5 : Option V), σ = [some (.ref a), v1, some (.ref Lf), v3, v4, v5] ∧ Same H H' ∧ LstR H' Lf fs ∧ (∀ r, r ∈ fs.map (·.2) ↔ ∃ j < i, RunN (RunOf p) (x + (j : Nat)).toNat r) ∧ fs.length ≤ i * LB k) ?_ ?_ ?_
      · exact ⟨l0, [], _, _, _, _, rfl, s1, ⟨e1, fun p hp => nomatch hp⟩, fun r => by simp, by simp⟩
      · rintro i σ H2 hi ⟨Lf, fs, v1, v3, v4, v5, rfl, s2, lf, va, fl⟩
        have i2 : i ≤ 1 := by omega
        walk_at "go"
        refine g_ixT (SqT.of (s2 _ _ ha)) rfl ?_
        walk_at "go"
        refine use_runs (PlA_keep (keepT_same s2) _ _ hu) okp (by omega) so.2 (by omega) fun H3 u s3 nu pu => ?_
        walk_at "go"
        intro l3 hl3
        have s4 := s3.trans (same_new (o := .lst [u]) hl3)
        have pu4 := pu.keep (same_new (o := .lst [u]) hl3)
        have e4 := upd_same (H := H3) (a := l3) (o := .lst [u])
        generalize upd H3 l3 (.lst [u]) = H4 at s4 pu4 e4
        walk_at "go"
        refine ⟨l3, x + i, [u], rfl, rfl, e4, by omega, by omega, by rw [sizeLine_eq]; show 1 * (x + (i : Int)).toNat ≤ _; omega, fun l5 hl5 => ?_⟩
        have s5 := s4.trans (same_new (o := .lst (List.replicate (x + (i : Int)).toNat [u]).flatten) hl5)
        have pu5 := pu4.keep (same_new (o := .lst (List.replicate (x + (i : Int)).toNat [u]).flatten) hl5)
        have e5 := upd_same (H := H4) (a := l5) (o := .lst (List.replicate (x + (i : Int)).toNat [u]).flatten)
        generalize upd H4 l5 (.lst (List.replicate (x + (i : Int)).toNat [u]).flatten) = H5 at s5 pu5 e5
        walk_at "go"
        refine ⟨l5, _, List.replicate (x + (i : Int)).toNat (RunOf p), MR k, 20 ^ d, rfl, e5, PartsV.rep pu5 _, mr_le k, (fun F hF => by rw [List.eq_of_mem_replicate hF]; exact len_run p d l okp), ?_, fun H6 z s6 nz rz => ?_⟩
        · rw [List.length_replicate]
          have := Nat.mul_le_mul (show (x + (i : Int)).toNat ≤ 9 by omega) p20
          omega
        · have s26 := s5.trans s6
          walk_at "go"
          rcases rz with rfl | ⟨L, qs, rfl, eL, ow, vq, ndq, q15, _⟩
          · refine g_ite (fun _ => ?_) (fun z => absurd rfl z)
            walk_at "go"
            exact q _ _ (s2.trans s26) .non (.inl rfl)
          · refine g_ite (fun z => nomatch z) (fun _ => ?_)
            walk_at "go"
            have ql : qs.length ≤ LB k := by
              have := lb_row so.2 (show (x + (i : Int)).toNat ≤ 9 by omega) ndq (fun r hr => (vq r).mp hr) (by rw [List.length_map]; exact q15)
              rw [List.length_map] at this
              exact this
            have il : i * LB k ≤ 1 * LB k := Nat.mul_le_mul_right _ i2
            refine g_catR (lf.keep s26) ⟨eL, ow⟩ (by omega) fun H7 z s7 lz => ?_
            walk_at "go"
            refine ⟨z, fs ++ qs, _, _, _, _, rfl, (s2.trans s26).trans s7, lz, fun r => ?_, ?_⟩
            · rw [List.map_append, List.mem_append, va, vq]
              constructor
              · rintro (⟨j, h1, h2⟩ | h)
                · exact ⟨j, by omega, h2⟩
                · exact ⟨i, by omega, h⟩
              · rintro ⟨j, h1, h2⟩
                by_cases c : j = i
                · subst c; exact .inr h2
                · exact .inl ⟨j, by omega, h2⟩
            · rw [List.length_append, Nat.succ_mul]
              omega
      · rintro σ H2 ⟨Lf, fs, v1, v3, v4, v5, rfl, s2, lf, va, fl⟩
        have f2 : (y + 1 - x).toNat * LB k ≤ 2 * LB k := Nat.mul_le_mul_right _ (by omega)
        walk_at "go"
        refine g_sortSet lf (by omega) fun H3 z zs s3 fz lz vz nz => ?_
        walk_at "go"
        refine q _ _ (s2.trans s3) (fun L e => by cases e; exact none_back s2 fz) (.inr ⟨z, zs, rfl, lz.at_, lz.own, fun r => ?_, by omega⟩)
        rw [vz, va, RunOf]
        constructor
        · rintro ⟨j, h1, h2⟩
          exact ⟨_, by omega, by omega, h2⟩
        · rintro ⟨n, h1, h2, h3⟩
          exact ⟨((n : Int) - x).toNat, by omega, by rw [show (x + ((((n : Int) - x).toNat : Nat) : Int)).toNat = n by omega]; exact h3⟩
theorem ok_runs (T : TxtS K mg) {f : Addr} {fd : FuncData} (D : C8.Def K mg "_law_runs" s_law_runs f fd) (b : Binds K fd ["_law_plan_here"] []) (g_law_rows : C8.Cal P w K mg base 1 "_law_rows" sp_rows []) : ∀ n : Nat, C8.Cal P w K mg base (n + 1) "_law_runs" (sp_runs n) []
  | 0 => ⟨f, fd, ["_law_plan_here"], [], ⟨fun _ _ _ _ h => h.elim, fun _ _ _ _ _ _ _ _ _ _ _ _ _ h => h.elim⟩, D.mgf, D.kp, b, .nil⟩
  | n + 1 => runs_step T D b g_law_rows (ok_runs T D b g_law_rows n)
end
end K05
namespace K05
open PySem PySem.Spec PyProof.Rows L2 Wd Sn RT
local macro_rules | `(tactic| walk_at "gs") => `(tactic| repeat (first
  | with_reducible refine Wd.g_seq ?_
  | ((with_reducible show L2.Ends.nx _ _ _); (with_reducible refine Wd.g_nx ?_))
  | with_reducible refine Wd.g_asg ?_
  | ((with_reducible refine' Wd.g_var ?h1 ?_); (case h1 => exact rfl))
  | with_reducible refine Wd.g_c ?_
  | with_reducible refine Wd.g_op ?_
  | with_reducible refine Wd.g_un ?_
  | with_reducible refine Wd.g_I0 ?_
  | with_reducible refine Wd.g_U ?_
  | with_reducible refine Wd.g_eqI ?_
  | with_reducible refine Wd.g_neI ?_
  | with_reducible refine Wd.g_eqS ?_
  | with_reducible refine Wd.g_neS ?_
  | with_reducible refine Wd.g_eqB ?_
  | with_reducible refine Wd.g_neB ?_
  | with_reducible refine Wd.g_isN ?_
  | with_reducible refine Wd.g_notN ?_
  | with_reducible refine Wd.g_lc ?_
  | with_reducible refine Wd.g_yes ?_
  | with_reducible refine Wd.g_test ?_
  | with_reducible refine Wd.g_tB ?_
  | with_reducible refine Wd.g_bl ?_
  | with_reducible refine Wd.g_blI ?_
  | with_reducible refine Wd.g_and ?_
  | with_reducible refine Wd.g_or ?_
  | with_reducible refine Wd.g_not ?_
  | with_reducible refine Wd.g_andV ?_
  | with_reducible refine Wd.g_orV ?_
  | with_reducible refine Wd.g_notV ?_
  | with_reducible refine Wd.g_if ?_
  | with_reducible refine Wd.g_chain ?_
  | with_reducible refine Wd.g_chain3 ?_
  | with_reducible refine Wd.g_nil ?_
  | with_reducible refine Wd.g_cons ?_
  | with_reducible refine Wd.g_tup ?_
  | with_reducible refine Wd.g_lst ?_
  | with_reducible refine Wd.g_CB ?_
  | with_reducible refine Wd.g_call ?_
  | with_reducible refine Wd.g_callS ?_
  | with_reducible refine Wd.g_bm ?_
  | with_reducible refine Wd.g_bm0 ?_
  | with_reducible refine Wd.g_sl ?_
  | with_reducible refine Wd.g_part ?_
  | with_reducible refine Wd.g_part1 ?_
  | with_reducible refine Wd.g_noPart ?_
  | with_reducible refine Wd.g_next ?_
  | with_reducible refine Wd.g_name ?_
  | with_reducible refine Wd.g_sub ?_
  | with_reducible refine Wd.g_gnil ?_
  | with_reducible refine Wd.g_gcons ?_
  | with_reducible refine Wd.g_drop ?_
  | with_reducible refine Wd.g_ret ?_
  | with_reducible refine Wd.g_retN ?_
  | with_reducible refine Wd.g_brk ?_
  | with_reducible refine Wd.g_cont ?_
  | ((with_reducible show L2.Ends.bk _ _ _); (with_reducible refine Wd.g_bk ?_))
  | ((with_reducible show L2.Ends.ct _ _ _); (with_reducible refine Wd.g_ct ?_))
  | ((with_reducible show L2.Ends.rt _ _ _); (with_reducible refine Wd.g_rt ?_))
  | with_reducible refine Wd.g_for ?_
  | with_reducible refine Wd.g_rng1 ?_
  | with_reducible refine Wd.g_rng2 ?_
  | with_reducible refine Wd.g_iList ?_
  | with_reducible refine Wd.g_iTup ?_
  | ((with_reducible refine Wd.g_fit ?h1 ?_); (case h1 => exact rfl))
  | with_reducible refine Wd.g_max2 ?_
  | with_reducible refine Wd.g_min2 ?_
  | with_reducible refine Wd.g_int1B ?_
  | with_reducible refine L2.iteT ?_
  | with_reducible refine L2.iteF ?_
  | ((with_reducible refine Wd.g_itT ?h1 ?_); (case h1 => exact rfl))
  | ((with_reducible refine Wd.g_itF ?h1 ?_); (case h1 => exact rfl))))
/-- the plan that stands in for one of too many runs -/
def fbP : Pl := .row [.work 1 2, .pat]
theorem fb_run (r : Sn.Run) : r ∈ [([1], 1), (([2], 2) : Sn.Run)] ↔ RunOf fbP r := by
  unfold fbP
  simp only [RunOf, RunRow]
  constructor
  · intro h
    rcases List.mem_cons.mp h with rfl | h
    · exact ⟨([], 1), _, ⟨rfl, by decide, by decide⟩, ⟨_, _, rfl, rfl, rfl⟩, by decide⟩
    · rw [List.mem_singleton.mp h]
      exact ⟨([], 2), _, ⟨rfl, by decide, by decide⟩, ⟨_, _, rfl, rfl, rfl⟩, by decide⟩
  · rintro ⟨⟨a, n⟩, r2, ⟨h0, h1, h2⟩, ⟨r3, r4, rfl, rfl, rfl⟩, rfl⟩
    simp only at h0 h1 h2
    subst h0
    have : n = 1 ∨ n = 2 := by omega
    rcases this with rfl | rfl <;> decide
def wordB (b : Bool) : Str := if b = true then "bitten" else "safe"
section
variable {P : Program} {w : World} {K : PySem.W.Frag} {mg : Str → Option Value} {base : Heap}
/-- judged, where it is known whether some rounds are bitten -/
theorem use_jd {W : Addr} {lo hi : Nat} {v : V} {p : Pl} {l : Nat} {H : Hp} {Q : VK} {E : XK} {b : Bool} (hb : b = true ↔ Bites lo hi p) (hW : H W = some (.tup [.int lo, .int hi])) (hl : lo ≤ hi) (h1000 : hi ≤ 1000) (pA : PlA H v p) (ok : okP 3 l p) (ll : l ≤ 2) (cn : Wd.cnt p ≤ 30)
    (k : ∀ H' t xs, Same H H' → H' t = some (.tup (.str (wordB b) :: xs)) → xs.length = (if b = true then 3 else 0) → Q (.ref t) H') : sp_jd 3 ([.ref W, v] ++ []) H Q E := by
  refine ⟨W, lo, hi, v, p, l, rfl, hW, hl, h1000, pA, ok, by decide, ll, cn, fun H' t Z s _ ht bz z1 z0 => ?_, fun H' t D q m ds nq t' s _ _ _ ht hD hq _ it gp _ _ => ?_⟩
  · have e : b = false := by
      cases hb2 : b with
      | false => rfl
      | true =>
        obtain ⟨m, hm⟩ := hb.mp hb2
        have h1 := fix_iter bz m 0 (Nat.zero_le _) (iterP_mono (fun hh j y => Led.mono _ hh j y) (fun i hi' => by rw [hi']; exact z1) m 0 hm)
        rw [show inS Z 0 = (Z.testBit 0 = true) from rfl, z0] at h1
        cases h1
    subst e
    exact k H' t [] s ht rfl
  · have e : b = true := by
      refine hb.mpr ?_
      obtain ⟨g', h1, h2, h3⟩ := snd_iter (rn_led hl p 3 l ok) m ds 0 nq [] t' [] 0 (Nat.zero_le _) (by unfold gapOf stL; simp only; omega) it
      rw [List.nil_append, gp] at h2
      have e : hi + 1 = g' := by omega
      exact ⟨m, h3 _ (by rw [← e])⟩
    subst e
    exact k H' t _ s ht rfl
abbrev s_law : Stmt := top 48
theorem sc_law : FnScope ["_law_script", "_law_state", "_law_turn", "_law_plan_here", "_law_runs_here", "_law_again", "_law_window_here", "_law_word", "_law_found"] ["_law_script"] (C8.fnScope s_law) := C8.fnScope_by (by decide +kernel)
def sp_law (K : PySem.W.Frag) : Sp := fun vs H Q _ => ∃ (sc : Addr) (ns : List Int), vs = [.ref sc] ∧ SqL K H sc (ns.map V.int) ∧ ns.length ≤ 63 ∧ ∀ H', Q (.bl true) H'
theorem ok_law (T : Txt K mg) {f : Addr} {fd : FuncData} (D : C8.Def K mg "law" s_law f fd)
    (g_law_start : C8.Cal P w K mg base 1 "_law_start" (sp_start K) []) (g_law_good : C8.Cal P w K mg base 6 "_law_good" (sp_good K 2) []) (g_law_runs : C8.Cal P w K mg base 5 "_law_runs" (sp_runs 4) [])
    (g_law_window : C8.Cal P w K mg base 2 "_law_window" (sp_window K) []) (g_law_bites : C8.Cal P w K mg base 2 "_law_bites" (sp_bites K) []) (g_judged : C8.Cal P w K mg base 16 "judged" (sp_jd 3) []) :
    FnOk P w K mg base C8.CX0 17 f fd ["_law_script"] (sp_law K) := by
  refine C8.fn0 D.fn sc_law (fun vs H Q E h => ?_) fun cdv A outer s H vs Q E hr h => ?_
  · obtain ⟨sc, ns, rfl, _⟩ := h; rfl
  · obtain ⟨sc, ns, rfl, hsc, hl, q⟩ := h
    have nd := sc_law.nd
    refine ⟨_, (pss_cons (ps_set (i := 1) nd rfl (Or.inl rfl) (C8.pe_c g_law_start hr (by first | decide | exact Nat.le_refl _ | omega) (by rfl) (pa_cons (pv 0) pa_nil)))
      (pss_cons (ps_for PassesOwn.never rfl (pi_range1 rfl T.n_range (pa_cons pe_int pa_nil)) (pg_name (i := 2) nd rfl (Or.inl rfl)) (pss_cons (ps_set (i := 3) nd rfl (Or.inl rfl) (C8.pe_c g_law_good hr (by first | decide | exact Nat.le_refl _ | omega) (by rfl) (pa_cons (pv 1) (pa_cons pe_int (pa_cons pe_int pa_nil)))))
      (pss_cons (ps_set (i := 4) nd rfl (Or.inl rfl) (C8.pe_c g_law_runs hr (by first | decide | exact Nat.le_refl _ | omega) (by rfl) (pa_cons (pv 3) pa_nil)))
      (pss_cons (ps_if (pt_cmpR op_isN1 (pv 4) pe_non (nomark _)) (pss_cons (ps_set (i := 4) nd rfl (Or.inl rfl) (pe_lst (pa_cons (pe_tup (pa_cons (pe_tup (pa_cons pe_int pa_nil)) (pa_cons pe_int pa_nil))) (pa_cons (pe_tup (pa_cons (pe_tup (pa_cons pe_int pa_nil)) (pa_cons pe_int pa_nil))) pa_nil))))
      (pss_one (ps_set (i := 3) nd rfl (Or.inl rfl) (pe_tup (pa_cons pe_str (pa_cons (pe_tup (pa_cons (pe_tup (pa_cons pe_str (pa_cons pe_int (pa_cons pe_int pa_nil)))) (pa_cons (pe_tup (pa_cons pe_str pa_nil)) pa_nil))) pa_nil)))))) pss_nil)
      (pss_one (ps_for PassesOwn.never rfl (pi_range1 rfl T.n_range (pa_cons pe_int pa_nil)) (pg_name (i := 5) nd rfl (Or.inl rfl)) (pss_cons (ps_set (i := 6) nd rfl (Or.inl rfl) (C8.pe_c g_law_window hr (by first | decide | exact Nat.le_refl _ | omega) (by rfl) (pa_cons (pv 1) (pa_cons (pe_ix (r := rIxL K) ix_list (pe_lst (pa_cons pe_int (pa_cons pe_int (pa_cons pe_int pa_nil)))) (pv 5) (fun _ _ => rfl)) pa_nil))))
      (pss_cons (ps_set (i := 7) nd rfl (Or.inl rfl) (pe_ix (r := rIxL K) ix_list (pe_lst (pa_cons pe_str (pa_cons pe_str pa_nil))) (pe_callTy call_intB (by rfl) T.n_int (by decide +kernel) (pa_cons (C8.pe_c g_law_bites hr (by first | decide | exact Nat.le_refl _ | omega) (by rfl) (pa_cons (pv 6) (pa_cons (pv 4) pa_nil))) pa_nil)) (fun _ _ => rfl)))
      (pss_cons (ps_set (i := 8) nd rfl (Or.inl rfl) (C8.pe_c g_judged hr (by first | decide | exact Nat.le_refl _ | omega) (by rfl) (pa_cons (pv 6) (pa_cons (pv 3) pa_nil))))
      (pss_cons (ps_if (PW.pt (pw_or (pt_not (pt_val (pe_callB (r := rIsi K) call_isi (by rfl) T.n_isinstance (by decide +kernel) (pa_cons (pv 8) (pa_cons (pe_bltn (v := .ty "tuple") (by rfl) T.n_tuple (by decide +kernel) rfl) pa_nil))))) (pw_or (pt_cmpR op_ne (pe_ix (r := rIxT K) ix_tup (pv 8) pe_int (fun _ _ => rfl)) (pv 7) (nomark _)) (pw_or1 (pt_cmpR op_ne (pe_callB (r := Wd.rLen K) call_len1 (by rfl) T.n_len PySem.boot_len (pa_cons (pv 8) pa_nil)) (pe_ix (r := rIxL K) ix_list (pe_lst (pa_cons pe_int (pa_cons pe_int pa_nil))) (pe_callTy call_intB (by rfl) T.n_int (by decide +kernel) (pa_cons (pe_cmpR op_eq (pv 7) pe_str (nomark _)) pa_nil)) (fun _ _ => rfl)) (nomark _)))))) (pss_one (ps_ret pe_bl)) pss_nil)
      (pss_one (ps_if (pt_cmpR op_ne (pe_ix (r := rIxT K) ix_tup (C8.pe_c g_judged hr (by first | decide | exact Nat.le_refl _ | omega) (by rfl) (pa_cons (pv 6) (pa_cons (pv 3) pa_nil))) pe_int (fun _ _ => rfl)) (pv 7) (nomark _)) (pss_one (ps_ret pe_bl)) pss_nil))))))))))))
      (pss_one (ps_ret pe_bl)))), ?_⟩
    walk_at "gs"
    refine ⟨noT H, sc, ns, rfl, noT_list hsc, noT_same H, hl, fun H1 S nS s1 d1 => ?_⟩
    walk_at "gs"
    refine w_range (by decide) (by decide) (fun i σ H' => ∃ v2 v3 v4 v5 v6 v7 v8 : Option V, σ = [some (.ref sc), some (.ref S), v2, v3, v4, v5, v6, v7, v8] ∧ Dst K (noT H) H' S) ?_ ?_ ?_
    · exact ⟨_, _, _, _, _, _, _, rfl, d1⟩
    · clear d1
      rintro i σ H0 hi ⟨v2, v3, v4, v5, v6, v7, v8, rfl, d⟩
      walk_at "gs"
      refine ⟨_, S, 4, 2, rfl, d, by decide, by decide, fun H2 v0 p0 f2 d2 pv0 po0 so0 pc0 => ?_⟩
      walk_at "gs"
      refine use_runs pv0 po0 (by decide) so0 (by decide) fun H3 u s3 nu pu => ?_
      have d3 := d2.same s3
      have pv3 := PlA_keep (keepT_same s3) _ _ pv0
      walk_at "gs"
      refine g_join (fun σ H' => ∃ (v : V) (p : Pl) (L : Addr) (ps : RL) (v2 v5 v6 v7 v8 : Option V), σ = [some (.ref sc), some (.ref S), v2, some v, some (.ref L), v5, v6, v7, v8] ∧ Dst K (noT H) H' S ∧ PlA H' v p ∧ okP 3 2 p ∧ cnt p ≤ 30 ∧ L ≠ S ∧ LstR H' L ps ∧ ∀ r, r ∈ ps.map (·.2) ↔ RunOf p r) ?_ ?_
      case refine_2 =>
        intro N' hk
        walk_at "go"
        rcases pu with rfl | ⟨L, ps, rfl, eL, ow, va, _⟩
        · refine g_ite (fun _ => ?_) (fun z => absurd rfl z)
          walk_at "go"
          intro t1 h_t1
          have n_t1 : H3 t1 = none := none_back (Same.refl H3) h_t1
          have s_t1 := same_new (o := .tup [.int 1]) h_t1
          have z_0 := s_t1
          have f_t1 := upd_same (H := H3) (a := t1) (o := .tup [.int 1])
          generalize upd H3 t1 (.tup [.int 1]) = J0 at s_t1 z_0 f_t1
          clear s_t1
          walk_at "go"
          intro t2 h_t2
          have n_t2 : H3 t2 = none := none_back z_0 h_t2
          have s_t2 := same_new (o := .tup [.ref t1, .int 1]) h_t2
          have z_1 := z_0.trans s_t2
          have f_t1 := s_t2 _ _ f_t1
          have f_t2 := upd_same (H := J0) (a := t2) (o := .tup [.ref t1, .int 1])
          generalize upd J0 t2 (.tup [.ref t1, .int 1]) = J1 at s_t2 z_1 f_t1 f_t2
          clear s_t2
          walk_at "go"
          intro t3 h_t3
          have n_t3 : H3 t3 = none := none_back z_1 h_t3
          have s_t3 := same_new (o := .tup [.int 2]) h_t3
          have z_2 := z_1.trans s_t3
          have f_t1 := s_t3 _ _ f_t1
          have f_t2 := s_t3 _ _ f_t2
          have f_t3 := upd_same (H := J1) (a := t3) (o := .tup [.int 2])
          generalize upd J1 t3 (.tup [.int 2]) = J2 at s_t3 z_2 f_t1 f_t2 f_t3
          clear s_t3
          walk_at "go"
          intro t4 h_t4
          have n_t4 : H3 t4 = none := none_back z_2 h_t4
          have s_t4 := same_new (o := .tup [.ref t3, .int 2]) h_t4
          have z_3 := z_2.trans s_t4
          have f_t1 := s_t4 _ _ f_t1
          have f_t2 := s_t4 _ _ f_t2
          have f_t3 := s_t4 _ _ f_t3
          have f_t4 := upd_same (H := J2) (a := t4) (o := .tup [.ref t3, .int 2])
          generalize upd J2 t4 (.tup [.ref t3, .int 2]) = J3 at s_t4 z_3 f_t1 f_t2 f_t3 f_t4
          clear s_t4
          walk_at "go"
          intro lL h_lL
          have n_lL : H3 lL = none := none_back z_3 h_lL
          have s_lL := same_new (o := .lst [.ref t2, .ref t4]) h_lL
          have z_4 := z_3.trans s_lL
          have f_t1 := s_lL _ _ f_t1
          have f_t2 := s_lL _ _ f_t2
          have f_t3 := s_lL _ _ f_t3
          have f_t4 := s_lL _ _ f_t4
          have f_lL := upd_same (H := J3) (a := lL) (o := .lst [.ref t2, .ref t4])
          generalize upd J3 lL (.lst [.ref t2, .ref t4]) = J4 at s_lL z_4 f_t1 f_t2 f_t3 f_t4 f_lL
          clear s_lL
          walk_at "go"
          intro w1 h_w1
          have n_w1 : H3 w1 = none := none_back z_4 h_w1
          have s_w1 := same_new (o := .tup [.str "work", .int 1, .int 2]) h_w1
          have z_5 := z_4.trans s_w1
          have f_t1 := s_w1 _ _ f_t1
          have f_t2 := s_w1 _ _ f_t2
          have f_t3 := s_w1 _ _ f_t3
          have f_t4 := s_w1 _ _ f_t4
          have f_lL := s_w1 _ _ f_lL
          have f_w1 := upd_same (H := J4) (a := w1) (o := .tup [.str "work", .int 1, .int 2])
          generalize upd J4 w1 (.tup [.str "work", .int 1, .int 2]) = J5 at s_w1 z_5 f_t1 f_t2 f_t3 f_t4 f_lL f_w1
          clear s_w1
          walk_at "go"
          intro w2 h_w2
          have n_w2 : H3 w2 = none := none_back z_5 h_w2
          have s_w2 := same_new (o := .tup [.str "pat"]) h_w2
          have z_6 := z_5.trans s_w2
          have f_t1 := s_w2 _ _ f_t1
          have f_t2 := s_w2 _ _ f_t2
          have f_t3 := s_w2 _ _ f_t3
          have f_t4 := s_w2 _ _ f_t4
          have f_lL := s_w2 _ _ f_lL
          have f_w1 := s_w2 _ _ f_w1
          have f_w2 := upd_same (H := J5) (a := w2) (o := .tup [.str "pat"])
          generalize upd J5 w2 (.tup [.str "pat"]) = J6 at s_w2 z_6 f_t1 f_t2 f_t3 f_t4 f_lL f_w1 f_w2
          clear s_w2
          walk_at "go"
          intro w3 h_w3
          have n_w3 : H3 w3 = none := none_back z_6 h_w3
          have s_w3 := same_new (o := .tup [.ref w1, .ref w2]) h_w3
          have z_7 := z_6.trans s_w3
          have f_t1 := s_w3 _ _ f_t1
          have f_t2 := s_w3 _ _ f_t2
          have f_t3 := s_w3 _ _ f_t3
          have f_t4 := s_w3 _ _ f_t4
          have f_lL := s_w3 _ _ f_lL
          have f_w1 := s_w3 _ _ f_w1
          have f_w2 := s_w3 _ _ f_w2
          have f_w3 := upd_same (H := J6) (a := w3) (o := .tup [.ref w1, .ref w2])
          generalize upd J6 w3 (.tup [.ref w1, .ref w2]) = J7 at s_w3 z_7 f_t1 f_t2 f_t3 f_t4 f_lL f_w1 f_w2 f_w3
          clear s_w3
          walk_at "go"
          intro w4 h_w4
          have n_w4 : H3 w4 = none := none_back z_7 h_w4
          have s_w4 := same_new (o := .tup [.str "row", .ref w3]) h_w4
          have z_8 := z_7.trans s_w4
          have f_t1 := s_w4 _ _ f_t1
          have f_t2 := s_w4 _ _ f_t2
          have f_t3 := s_w4 _ _ f_t3
          have f_t4 := s_w4 _ _ f_t4
          have f_lL := s_w4 _ _ f_lL
          have f_w1 := s_w4 _ _ f_w1
          have f_w2 := s_w4 _ _ f_w2
          have f_w3 := s_w4 _ _ f_w3
          have f_w4 := upd_same (H := J7) (a := w4) (o := .tup [.str "row", .ref w3])
          generalize upd J7 w4 (.tup [.str "row", .ref w3]) = J8 at s_w4 z_8 f_t1 f_t2 f_t3 f_t4 f_lL f_w1 f_w2 f_w3 f_w4
          clear s_w4
          walk_at "go"
          exact hk _ _ ⟨.ref w4, fbP, lL, [(t2, ([1], 1)), (t4, ([2], 2))], _, _, _, _, _, rfl, d3.same z_8, .row f_w4 f_w3 (.cons (.work f_w1) (.cons (.pat f_w2) .nil)), by simp [fbP, okP, okPs], by decide, fun z => d3.has (by rw [← z]; exact n_lL), ⟨f_lL, fun y hy => by
            rcases List.mem_cons.mp hy with rfl | hy
            · exact ⟨t1, f_t2, f_t1⟩
            · rw [List.mem_singleton.mp hy]
              exact ⟨t3, f_t4, f_t3⟩⟩, fb_run⟩
        · refine g_ite (fun z => nomatch z) (fun _ => ?_)
          walk_at "go"
          exact hk _ _ ⟨v0, p0, L, ps, _, _, _, _, _, rfl, d3, pv3, po0, pc0, fun z => by have := nu L rfl; rw [z] at this; exact d2.has this, ⟨eL, ow⟩, va⟩
      case refine_1 =>
        clear d d2 pv0 po0 pc0
        rintro σ H4 ⟨v, p, L, ps, v2, v5, v6, v7, v8, rfl, d4, pv, ok, cn, nLS, hL, va⟩
        walk_at "go"
        refine w_range (by decide) (by decide) (fun j σ H' => ∃ v2 v5 v6 v7 v8 : Option V, σ = [some (.ref sc), some (.ref S), v2, some v, some (.ref L), v5, v6, v7, v8] ∧ Dst K (noT H) H' S ∧ Frm S H4 H') ?_ ?_ ?_
        · exact ⟨_, _, _, _, _, rfl, d4, .refl _ _⟩
        · clear v2 v5 v6 v7 v8
          rintro j σ H5 hj ⟨v2, v5, v6, v7, v8, rfl, d5, f45⟩
          walk_at "go"
          intro l1 hl1
          have s6 := same_new (o := .lst [.int 24, .int 12, .int 6]) hl1
          have e6 := upd_same (H := H5) (a := l1) (o := .lst [.int 24, .int 12, .int 6])
          have d6 := d5.same s6
          have f46 := f45.trans (.of s6)
          generalize upd H5 l1 (.lst [.int 24, .int 12, .int 6]) = H6 at s6 e6 d6 f46
          walk_at "go"
          obtain ⟨y, hy, hy2⟩ := atI_mem (xs := [.int 24, .int 12, .int 6]) (z := (j : Int)) (by omega) (by show (j : Int) < 3; have : Int.toNat 3 = 3 := rfl; omega)
          refine g_ixL (SqL.of e6) hy2 ?_
          obtain ⟨m, rfl, m0, m1⟩ : ∃ z : Int, y = V.int z ∧ 0 ≤ z ∧ z ≤ 1000 := by
            simp only [List.mem_cons, List.not_mem_nil, or_false] at hy
            rcases hy with rfl | rfl | rfl <;> exact ⟨_, rfl, by omega, by omega⟩
          walk_at "go"
          refine ⟨_, S, m, rfl, d6, m0, m1, fun H7 W lo hi' f7 d7 hW nW lo0 lo1 hi1 => ?_⟩
          obtain ⟨lo, rfl⟩ : ∃ n : Nat, lo = n := ⟨lo.toNat, by omega⟩
          obtain ⟨hi', rfl⟩ : ∃ n : Nat, hi' = n := ⟨hi'.toNat, by omega⟩
          have f47 := f46.trans f7
          have pv7 := PlA_keep (keepT_frm d4 f47) _ _ pv
          have hL7 : LstR H7 L ps := ⟨f47 _ _ nLS hL.at_, hL.own.keep (keepT_frm d4 f47)⟩
          clear s6 e6 d6 f46 f7 hl1 d5 f45
          walk_at "go"
          intro l2 hl2
          have s8 := same_new (o := .lst [.str "safe", .str "bitten"]) hl2
          have e8 := upd_same (H := H7) (a := l2) (o := .lst [.str "safe", .str "bitten"])
          generalize upd H7 l2 (.lst [.str "safe", .str "bitten"]) = H8 at s8 e8
          walk_at "go"
          refine ⟨W, L, lo, hi', p, 3, 2, ps, rfl, s8 _ _ hW, by omega, by omega, (hL7.keep s8).at_, (hL7.keep s8).own, ok, va, fun H9 b s9 hb => ?_⟩
          have s79 := s8.trans s9
          walk_at "go"
          refine g_ixL (v := .str (wordB b)) (SqL.of (s9 _ _ e8)) (by cases b <;> rfl) ?_
          walk_at "go"
          refine use_jd hb (s79 _ _ hW) (by omega) (by omega) (PlA_keep (keepT_same s79) _ _ pv7) ok (by decide) cn fun H10 t xs s10 et xl => ?_
          have s710 := s79.trans s10
          walk_at "go"
          refine g_isiB (.ty "tuple") (ty_tup (SqT.of et)) (b := true) (by decide +kernel) ?_
          walk_at "go"
          refine g_ixT (SqT.of et) (at_of (j := 0) (v := .str (wordB b)) rfl rfl) ?_
          walk_at "go"
          refine g_iteN (fun z => absurd rfl z) (fun _ => ?_)
          walk_at "go"
          refine g_len (.inr (SqT.of et)) ?_
          walk_at "go"
          intro l3 hl3
          have s11 := s710.trans (same_new (o := .lst [.int 1, .int 4]) hl3)
          have e11 := upd_same (H := H10) (a := l3) (o := .lst [.int 1, .int 4])
          generalize upd H10 l3 (.lst [.int 1, .int 4]) = H11 at s11 e11
          walk_at "go"
          refine g_ixL (v := .int (if b = true then 4 else 1)) (SqL.of e11) (by cases b <;> rfl) ?_
          walk_at "go"
          have xe : ((V.str (wordB b) :: xs).length : Int) = if b = true then 4 else 1 := by
            rw [List.length_cons, xl]
            cases b <;> rfl
          refine g_iteN (fun z => absurd xe z) (fun _ => ?_)
          walk_at "go"
          refine use_jd hb (s11 _ _ hW) (by omega) (by omega) (PlA_keep (keepT_same s11) _ _ pv7) ok (by decide) cn fun H12 t2 xs2 s12 et2 xl2 => ?_
          walk_at "go"
          refine g_ixT (SqT.of et2) (at_of (j := 0) (v := .str (wordB b)) rfl rfl) ?_
          walk_at "go"
          refine g_iteN (fun z => absurd rfl z) (fun _ => ?_)
          walk_at "go"
          have s712 := s11.trans s12
          exact ⟨_, _, _, _, _, rfl, d7.same s712, f47.trans (.of s712)⟩
        · rintro σ H5 ⟨v2, v5, v6, v7, v8, rfl, d5, f45⟩
          walk_at "go"
          exact ⟨_, _, _, _, _, _, _, rfl, d5⟩
    · rintro σ H' ⟨v2, v3, v4, v5, v6, v7, v8, rfl, d⟩
      walk_at "go"
      exact q H'
end
end K05
namespace K05
open PySem PySem.Spec PyProof.Rows L2 Wd Sn RT
theorem law_at {l : PySem.W.OpenLaw} {w : World} {K : PySem.W.Frag} {h : Heap} {mg : Str → Option Value} {fa : Addr} (X : K.In h) (G : h.Ns mainGlobals mg) (hfa : mg "law" = some (.ref fa))
    {f_is_number : Addr} {oc_is_number kV_is_number dc_is_number pm_is_number cd_is_number ct_is_number : Value} {od_is_number an_is_number : Option Addr} {sl_is_number : Array (Option Value)}
    {f_is_range : Addr} {oc_is_range kV_is_range dc_is_range pm_is_range cd_is_range ct_is_range : Value} {od_is_range an_is_range : Option Addr} {sl_is_range : Array (Option Value)}
    {f_has_form : Addr} {oc_has_form kV_has_form dc_has_form pm_has_form cd_has_form ct_has_form : Value} {od_has_form an_has_form : Option Addr} {sl_has_form : Array (Option Value)}
    {f_plans_in : Addr} {oc_plans_in kV_plans_in dc_plans_in pm_plans_in cd_plans_in ct_plans_in : Value} {od_plans_in an_plans_in : Option Addr} {sl_plans_in : Array (Option Value)}
    {f_check_plan : Addr} {oc_check_plan kV_check_plan dc_check_plan pm_check_plan cd_check_plan ct_check_plan : Value} {od_check_plan an_check_plan : Option Addr} {sl_check_plan : Array (Option Value)}
    {f_check_window : Addr} {oc_check_window kV_check_window dc_check_window pm_check_window cd_check_window ct_check_window : Value} {od_check_window an_check_window : Option Addr} {sl_check_window : Array (Option Value)}
    {f_first_bite : Addr} {oc_first_bite kV_first_bite dc_first_bite pm_first_bite cd_first_bite ct_first_bite : Value} {od_first_bite an_first_bite : Option Addr} {sl_first_bite : Array (Option Value)}
    {f_holds : Addr} {oc_holds kV_holds dc_holds pm_holds cd_holds ct_holds : Value} {od_holds an_holds : Option Addr} {sl_holds : Array (Option Value)}
    {f_spread : Addr} {oc_spread kV_spread dc_spread pm_spread cd_spread ct_spread : Value} {od_spread an_spread : Option Addr} {sl_spread : Array (Option Value)}
    {f_way_to : Addr} {oc_way_to kV_way_to dc_way_to pm_way_to cd_way_to ct_way_to : Value} {od_way_to an_way_to : Option Addr} {sl_way_to : Array (Option Value)}
    {f_goals_of_rounds : Addr} {oc_goals_of_rounds kV_goals_of_rounds dc_goals_of_rounds pm_goals_of_rounds cd_goals_of_rounds ct_goals_of_rounds : Value} {od_goals_of_rounds an_goals_of_rounds : Option Addr} {sl_goals_of_rounds : Array (Option Value)}
    {f_delays_of_rounds : Addr} {oc_delays_of_rounds kV_delays_of_rounds dc_delays_of_rounds pm_delays_of_rounds cd_delays_of_rounds ct_delays_of_rounds : Value} {od_delays_of_rounds an_delays_of_rounds : Option Addr} {sl_delays_of_rounds : Array (Option Value)}
    {f_bite_of_rounds : Addr} {oc_bite_of_rounds kV_bite_of_rounds dc_bite_of_rounds pm_bite_of_rounds cd_bite_of_rounds ct_bite_of_rounds : Value} {od_bite_of_rounds an_bite_of_rounds : Option Addr} {sl_bite_of_rounds : Array (Option Value)}
    {f_judged : Addr} {oc_judged kV_judged dc_judged pm_judged cd_judged ct_judged : Value} {od_judged an_judged : Option Addr} {sl_judged : Array (Option Value)}
    {f_law_start : Addr} {oc_law_start kV_law_start dc_law_start pm_law_start cd_law_start ct_law_start : Value} {od_law_start an_law_start : Option Addr} {sl_law_start : Array (Option Value)}
    {f_law_drawn : Addr} {oc_law_drawn kV_law_drawn dc_law_drawn pm_law_drawn cd_law_drawn ct_law_drawn : Value} {od_law_drawn an_law_drawn : Option Addr} {sl_law_drawn : Array (Option Value)}
    {f_law_window : Addr} {oc_law_window kV_law_window dc_law_window pm_law_window cd_law_window ct_law_window : Value} {od_law_window an_law_window : Option Addr} {sl_law_window : Array (Option Value)}
    {f_law_plan : Addr} {oc_law_plan kV_law_plan dc_law_plan pm_law_plan cd_law_plan ct_law_plan : Value} {od_law_plan an_law_plan : Option Addr} {sl_law_plan : Array (Option Value)}
    {f_law_count : Addr} {oc_law_count kV_law_count dc_law_count pm_law_count cd_law_count ct_law_count : Value} {od_law_count an_law_count : Option Addr} {sl_law_count : Array (Option Value)}
    {f_law_good : Addr} {oc_law_good kV_law_good dc_law_good pm_law_good cd_law_good ct_law_good : Value} {od_law_good an_law_good : Option Addr} {sl_law_good : Array (Option Value)}
    {f_law_runs : Addr} {oc_law_runs kV_law_runs dc_law_runs pm_law_runs cd_law_runs ct_law_runs : Value} {od_law_runs an_law_runs : Option Addr} {sl_law_runs : Array (Option Value)}
    {f_law_rows : Addr} {oc_law_rows kV_law_rows dc_law_rows pm_law_rows cd_law_rows ct_law_rows : Value} {od_law_rows an_law_rows : Option Addr} {sl_law_rows : Array (Option Value)}
    {f_law_behind : Addr} {oc_law_behind kV_law_behind dc_law_behind pm_law_behind cd_law_behind ct_law_behind : Value} {od_law_behind an_law_behind : Option Addr} {sl_law_behind : Array (Option Value)}
    {f_law_bites : Addr} {oc_law_bites kV_law_bites dc_law_bites pm_law_bites cd_law_bites ct_law_bites : Value} {od_law_bites an_law_bites : Option Addr} {sl_law_bites : Array (Option Value)}
    {fa0 : Addr} {oc_law kV_law dc_law pm_law cd_law ct_law : Value} {od_law an_law : Option Addr} {sl_law : Array (Option Value)}
    {C_Run : Addr}
    {f_Run_init : Addr} {oc_Run_init kV_Run_init dc_Run_init pm_Run_init cd_Run_init ct_Run_init : Value} {od_Run_init an_Run_init : Option Addr} {sl_Run_init : Array (Option Value)}
    {f_Run_take : Addr} {oc_Run_take kV_Run_take dc_Run_take pm_Run_take cd_Run_take ct_Run_take : Value} {od_Run_take an_Run_take : Option Addr} {sl_Run_take : Array (Option Value)}
    {f_Run_follow : Addr} {oc_Run_follow kV_Run_follow dc_Run_follow pm_Run_follow cd_Run_follow ct_Run_follow : Value} {od_Run_follow an_Run_follow : Option Addr} {sl_Run_follow : Array (Option Value)}
    {C_Watcher : Addr}
    {f_Watcher_init : Addr} {oc_Watcher_init kV_Watcher_init dc_Watcher_init pm_Watcher_init cd_Watcher_init ct_Watcher_init : Value} {od_Watcher_init an_Watcher_init : Option Addr} {sl_Watcher_init : Array (Option Value)}
    {f_Watcher_gap_behind_pat : Addr} {oc_Watcher_gap_behind_pat kV_Watcher_gap_behind_pat dc_Watcher_gap_behind_pat pm_Watcher_gap_behind_pat cd_Watcher_gap_behind_pat ct_Watcher_gap_behind_pat : Value} {od_Watcher_gap_behind_pat an_Watcher_gap_behind_pat : Option Addr} {sl_Watcher_gap_behind_pat : Array (Option Value)}
    {f_Watcher_gap_behind_work : Addr} {oc_Watcher_gap_behind_work kV_Watcher_gap_behind_work dc_Watcher_gap_behind_work pm_Watcher_gap_behind_work cd_Watcher_gap_behind_work ct_Watcher_gap_behind_work : Value} {od_Watcher_gap_behind_work an_Watcher_gap_behind_work : Option Addr} {sl_Watcher_gap_behind_work : Array (Option Value)}
    {f_Watcher_gaps_ahead_of_pat : Addr} {oc_Watcher_gaps_ahead_of_pat kV_Watcher_gaps_ahead_of_pat dc_Watcher_gaps_ahead_of_pat pm_Watcher_gaps_ahead_of_pat cd_Watcher_gaps_ahead_of_pat ct_Watcher_gaps_ahead_of_pat : Value} {od_Watcher_gaps_ahead_of_pat an_Watcher_gaps_ahead_of_pat : Option Addr} {sl_Watcher_gaps_ahead_of_pat : Array (Option Value)}
    {f_Watcher_gaps_ahead_of_work : Addr} {oc_Watcher_gaps_ahead_of_work kV_Watcher_gaps_ahead_of_work dc_Watcher_gaps_ahead_of_work pm_Watcher_gaps_ahead_of_work cd_Watcher_gaps_ahead_of_work ct_Watcher_gaps_ahead_of_work : Value} {od_Watcher_gaps_ahead_of_work an_Watcher_gaps_ahead_of_work : Option Addr} {sl_Watcher_gaps_ahead_of_work : Array (Option Value)}
    {C_PatWay : Addr}
    {f_PatWay_init : Addr} {oc_PatWay_init kV_PatWay_init dc_PatWay_init pm_PatWay_init cd_PatWay_init ct_PatWay_init : Value} {od_PatWay_init an_PatWay_init : Option Addr} {sl_PatWay_init : Array (Option Value)}
    {f_PatWay_lead : Addr} {oc_PatWay_lead kV_PatWay_lead dc_PatWay_lead pm_PatWay_lead cd_PatWay_lead ct_PatWay_lead : Value} {od_PatWay_lead an_PatWay_lead : Option Addr} {sl_PatWay_lead : Array (Option Value)}
    {C_WorkWay : Addr}
    {f_WorkWay_init : Addr} {oc_WorkWay_init kV_WorkWay_init dc_WorkWay_init pm_WorkWay_init cd_WorkWay_init ct_WorkWay_init : Value} {od_WorkWay_init an_WorkWay_init : Option Addr} {sl_WorkWay_init : Array (Option Value)}
    {f_WorkWay_lead : Addr} {oc_WorkWay_lead kV_WorkWay_lead dc_WorkWay_lead pm_WorkWay_lead cd_WorkWay_lead ct_WorkWay_lead : Value} {od_WorkWay_lead an_WorkWay_lead : Option Addr} {sl_WorkWay_lead : Array (Option Value)}
    {C_RowWay : Addr}
    {f_RowWay_init : Addr} {oc_RowWay_init kV_RowWay_init dc_RowWay_init pm_RowWay_init cd_RowWay_init ct_RowWay_init : Value} {od_RowWay_init an_RowWay_init : Option Addr} {sl_RowWay_init : Array (Option Value)}
    {f_RowWay_lead : Addr} {oc_RowWay_lead kV_RowWay_lead dc_RowWay_lead pm_RowWay_lead cd_RowWay_lead ct_RowWay_lead : Value} {od_RowWay_lead an_RowWay_lead : Option Addr} {sl_RowWay_lead : Array (Option Value)}
    {C_EitherWay : Addr}
    {f_EitherWay_init : Addr} {oc_EitherWay_init kV_EitherWay_init dc_EitherWay_init pm_EitherWay_init cd_EitherWay_init ct_EitherWay_init : Value} {od_EitherWay_init an_EitherWay_init : Option Addr} {sl_EitherWay_init : Array (Option Value)}
    {f_EitherWay_lead : Addr} {oc_EitherWay_lead kV_EitherWay_lead dc_EitherWay_lead pm_EitherWay_lead cd_EitherWay_lead ct_EitherWay_lead : Value} {od_EitherWay_lead an_EitherWay_lead : Option Addr} {sl_EitherWay_lead : Array (Option Value)}
    {C_LoopWay : Addr}
    {f_LoopWay_init : Addr} {oc_LoopWay_init kV_LoopWay_init dc_LoopWay_init pm_LoopWay_init cd_LoopWay_init ct_LoopWay_init : Value} {od_LoopWay_init an_LoopWay_init : Option Addr} {sl_LoopWay_init : Array (Option Value)}
    {f_LoopWay_lead : Addr} {oc_LoopWay_lead kV_LoopWay_lead dc_LoopWay_lead pm_LoopWay_lead cd_LoopWay_lead ct_LoopWay_lead : Value} {od_LoopWay_lead an_LoopWay_lead : Option Addr} {sl_LoopWay_lead : Array (Option Value)}
    {t_LONGEST_WORK : Tok}
    {t_MOST_TIMES : Tok}
    {t_LONGEST_ROW : Tok}
    {t_MOST_PLANS : Tok}
    {t_MOST_DEEP : Tok}
    {t_MOST_LOOPS : Tok}
    {t_GREATEST_HIGH : Tok}
    (a_is_number : PySem.W.nsIn K mainGlobals "is_number" = some (some (.ref f_is_number)))
    (l_is_number : K.lookup f_is_number = some ⟨oc_is_number, od_is_number, .func (PySem.W.fnOf "is_number" "is_number" (C8.fnArgs s_is_number) (C8.fnBody s_is_number) (C8.fnScope s_is_number) .none kV_is_number dc_is_number pm_is_number an_is_number cd_is_number ct_is_number), sl_is_number⟩)
    (c_is_number : PySem.W.codeIn K cd_is_number "is_number" = true)
    (k_is_number : PySem.W.keepIn K (.ref f_is_number) = true)
    (a_is_range : PySem.W.nsIn K mainGlobals "is_range" = some (some (.ref f_is_range)))
    (l_is_range : K.lookup f_is_range = some ⟨oc_is_range, od_is_range, .func (PySem.W.fnOf "is_range" "is_range" (C8.fnArgs s_is_range) (C8.fnBody s_is_range) (C8.fnScope s_is_range) .none kV_is_range dc_is_range pm_is_range an_is_range cd_is_range ct_is_range), sl_is_range⟩)
    (c_is_range : PySem.W.codeIn K cd_is_range "is_range" = true)
    (k_is_range : PySem.W.keepIn K (.ref f_is_range) = true)
    (a_has_form : PySem.W.nsIn K mainGlobals "has_form" = some (some (.ref f_has_form)))
    (l_has_form : K.lookup f_has_form = some ⟨oc_has_form, od_has_form, .func (PySem.W.fnOf "has_form" "has_form" (C8.fnArgs s_has_form) (C8.fnBody s_has_form) (C8.fnScope s_has_form) .none kV_has_form dc_has_form pm_has_form an_has_form cd_has_form ct_has_form), sl_has_form⟩)
    (c_has_form : PySem.W.codeIn K cd_has_form "has_form" = true)
    (k_has_form : PySem.W.keepIn K (.ref f_has_form) = true)
    (a_plans_in : PySem.W.nsIn K mainGlobals "plans_in" = some (some (.ref f_plans_in)))
    (l_plans_in : K.lookup f_plans_in = some ⟨oc_plans_in, od_plans_in, .func (PySem.W.fnOf "plans_in" "plans_in" (C8.fnArgs s_plans_in) (C8.fnBody s_plans_in) (C8.fnScope s_plans_in) .none kV_plans_in dc_plans_in pm_plans_in an_plans_in cd_plans_in ct_plans_in), sl_plans_in⟩)
    (c_plans_in : PySem.W.codeIn K cd_plans_in "plans_in" = true)
    (k_plans_in : PySem.W.keepIn K (.ref f_plans_in) = true)
    (a_check_plan : PySem.W.nsIn K mainGlobals "check_plan" = some (some (.ref f_check_plan)))
    (l_check_plan : K.lookup f_check_plan = some ⟨oc_check_plan, od_check_plan, .func (PySem.W.fnOf "check_plan" "check_plan" (C8.fnArgs s_check_plan) (C8.fnBody s_check_plan) (C8.fnScope s_check_plan) .none kV_check_plan dc_check_plan pm_check_plan an_check_plan cd_check_plan ct_check_plan), sl_check_plan⟩)
    (c_check_plan : PySem.W.codeIn K cd_check_plan "check_plan" = true)
    (k_check_plan : PySem.W.keepIn K (.ref f_check_plan) = true)
    (a_check_window : PySem.W.nsIn K mainGlobals "check_window" = some (some (.ref f_check_window)))
    (l_check_window : K.lookup f_check_window = some ⟨oc_check_window, od_check_window, .func (PySem.W.fnOf "check_window" "check_window" (C8.fnArgs s_check_window) (C8.fnBody s_check_window) (C8.fnScope s_check_window) .none kV_check_window dc_check_window pm_check_window an_check_window cd_check_window ct_check_window), sl_check_window⟩)
    (c_check_window : PySem.W.codeIn K cd_check_window "check_window" = true)
    (k_check_window : PySem.W.keepIn K (.ref f_check_window) = true)
    (a_first_bite : PySem.W.nsIn K mainGlobals "first_bite" = some (some (.ref f_first_bite)))
    (l_first_bite : K.lookup f_first_bite = some ⟨oc_first_bite, od_first_bite, .func (PySem.W.fnOf "first_bite" "first_bite" (C8.fnArgs s_first_bite) (C8.fnBody s_first_bite) (C8.fnScope s_first_bite) .none kV_first_bite dc_first_bite pm_first_bite an_first_bite cd_first_bite ct_first_bite), sl_first_bite⟩)
    (c_first_bite : PySem.W.codeIn K cd_first_bite "first_bite" = true)
    (k_first_bite : PySem.W.keepIn K (.ref f_first_bite) = true)
    (a_holds : PySem.W.nsIn K mainGlobals "holds" = some (some (.ref f_holds)))
    (l_holds : K.lookup f_holds = some ⟨oc_holds, od_holds, .func (PySem.W.fnOf "holds" "holds" (C8.fnArgs s_holds) (C8.fnBody s_holds) (C8.fnScope s_holds) .none kV_holds dc_holds pm_holds an_holds cd_holds ct_holds), sl_holds⟩)
    (c_holds : PySem.W.codeIn K cd_holds "holds" = true)
    (k_holds : PySem.W.keepIn K (.ref f_holds) = true)
    (a_spread : PySem.W.nsIn K mainGlobals "spread" = some (some (.ref f_spread)))
    (l_spread : K.lookup f_spread = some ⟨oc_spread, od_spread, .func (PySem.W.fnOf "spread" "spread" (C8.fnArgs s_spread) (C8.fnBody s_spread) (C8.fnScope s_spread) .none kV_spread dc_spread pm_spread an_spread cd_spread ct_spread), sl_spread⟩)
    (c_spread : PySem.W.codeIn K cd_spread "spread" = true)
    (k_spread : PySem.W.keepIn K (.ref f_spread) = true)
    (a_way_to : PySem.W.nsIn K mainGlobals "way_to" = some (some (.ref f_way_to)))
    (l_way_to : K.lookup f_way_to = some ⟨oc_way_to, od_way_to, .func (PySem.W.fnOf "way_to" "way_to" (C8.fnArgs s_way_to) (C8.fnBody s_way_to) (C8.fnScope s_way_to) .none kV_way_to dc_way_to pm_way_to an_way_to cd_way_to ct_way_to), sl_way_to⟩)
    (c_way_to : PySem.W.codeIn K cd_way_to "way_to" = true)
    (k_way_to : PySem.W.keepIn K (.ref f_way_to) = true)
    (a_goals_of_rounds : PySem.W.nsIn K mainGlobals "goals_of_rounds" = some (some (.ref f_goals_of_rounds)))
    (l_goals_of_rounds : K.lookup f_goals_of_rounds = some ⟨oc_goals_of_rounds, od_goals_of_rounds, .func (PySem.W.fnOf "goals_of_rounds" "goals_of_rounds" (C8.fnArgs s_goals_of_rounds) (C8.fnBody s_goals_of_rounds) (C8.fnScope s_goals_of_rounds) .none kV_goals_of_rounds dc_goals_of_rounds pm_goals_of_rounds an_goals_of_rounds cd_goals_of_rounds ct_goals_of_rounds), sl_goals_of_rounds⟩)
    (c_goals_of_rounds : PySem.W.codeIn K cd_goals_of_rounds "goals_of_rounds" = true)
    (k_goals_of_rounds : PySem.W.keepIn K (.ref f_goals_of_rounds) = true)
    (a_delays_of_rounds : PySem.W.nsIn K mainGlobals "delays_of_rounds" = some (some (.ref f_delays_of_rounds)))
    (l_delays_of_rounds : K.lookup f_delays_of_rounds = some ⟨oc_delays_of_rounds, od_delays_of_rounds, .func (PySem.W.fnOf "delays_of_rounds" "delays_of_rounds" (C8.fnArgs s_delays_of_rounds) (C8.fnBody s_delays_of_rounds) (C8.fnScope s_delays_of_rounds) .none kV_delays_of_rounds dc_delays_of_rounds pm_delays_of_rounds an_delays_of_rounds cd_delays_of_rounds ct_delays_of_rounds), sl_delays_of_rounds⟩)
    (c_delays_of_rounds : PySem.W.codeIn K cd_delays_of_rounds "delays_of_rounds" = true)
    (k_delays_of_rounds : PySem.W.keepIn K (.ref f_delays_of_rounds) = true)
    (a_bite_of_rounds : PySem.W.nsIn K mainGlobals "bite_of_rounds" = some (some (.ref f_bite_of_rounds)))
    (l_bite_of_rounds : K.lookup f_bite_of_rounds = some ⟨oc_bite_of_rounds, od_bite_of_rounds, .func (PySem.W.fnOf "bite_of_rounds" "bite_of_rounds" (C8.fnArgs s_bite_of_rounds) (C8.fnBody s_bite_of_rounds) (C8.fnScope s_bite_of_rounds) .none kV_bite_of_rounds dc_bite_of_rounds pm_bite_of_rounds an_bite_of_rounds cd_bite_of_rounds ct_bite_of_rounds), sl_bite_of_rounds⟩)
    (c_bite_of_rounds : PySem.W.codeIn K cd_bite_of_rounds "bite_of_rounds" = true)
    (k_bite_of_rounds : PySem.W.keepIn K (.ref f_bite_of_rounds) = true)
    (a_judged : PySem.W.nsIn K mainGlobals "judged" = some (some (.ref f_judged)))
    (l_judged : K.lookup f_judged = some ⟨oc_judged, od_judged, .func (PySem.W.fnOf "judged" "judged" (C8.fnArgs s_judged) (C8.fnBody s_judged) (C8.fnScope s_judged) .none kV_judged dc_judged pm_judged an_judged cd_judged ct_judged), sl_judged⟩)
    (c_judged : PySem.W.codeIn K cd_judged "judged" = true)
    (k_judged : PySem.W.keepIn K (.ref f_judged) = true)
    (a_law_start : PySem.W.nsIn K mainGlobals "_law_start" = some (some (.ref f_law_start)))
    (l_law_start : K.lookup f_law_start = some ⟨oc_law_start, od_law_start, .func (PySem.W.fnOf "_law_start" "_law_start" (C8.fnArgs s_law_start) (C8.fnBody s_law_start) (C8.fnScope s_law_start) .none kV_law_start dc_law_start pm_law_start an_law_start cd_law_start ct_law_start), sl_law_start⟩)
    (c_law_start : PySem.W.codeIn K cd_law_start "_law_start" = true)
    (k_law_start : PySem.W.keepIn K (.ref f_law_start) = true)
    (a_law_drawn : PySem.W.nsIn K mainGlobals "_law_drawn" = some (some (.ref f_law_drawn)))
    (l_law_drawn : K.lookup f_law_drawn = some ⟨oc_law_drawn, od_law_drawn, .func (PySem.W.fnOf "_law_drawn" "_law_drawn" (C8.fnArgs s_law_drawn) (C8.fnBody s_law_drawn) (C8.fnScope s_law_drawn) .none kV_law_drawn dc_law_drawn pm_law_drawn an_law_drawn cd_law_drawn ct_law_drawn), sl_law_drawn⟩)
    (c_law_drawn : PySem.W.codeIn K cd_law_drawn "_law_drawn" = true)
    (k_law_drawn : PySem.W.keepIn K (.ref f_law_drawn) = true)
    (a_law_window : PySem.W.nsIn K mainGlobals "_law_window" = some (some (.ref f_law_window)))
    (l_law_window : K.lookup f_law_window = some ⟨oc_law_window, od_law_window, .func (PySem.W.fnOf "_law_window" "_law_window" (C8.fnArgs s_law_window) (C8.fnBody s_law_window) (C8.fnScope s_law_window) .none kV_law_window dc_law_window pm_law_window an_law_window cd_law_window ct_law_window), sl_law_window⟩)
    (c_law_window : PySem.W.codeIn K cd_law_window "_law_window" = true)
    (k_law_window : PySem.W.keepIn K (.ref f_law_window) = true)
    (a_law_plan : PySem.W.nsIn K mainGlobals "_law_plan" = some (some (.ref f_law_plan)))
    (l_law_plan : K.lookup f_law_plan = some ⟨oc_law_plan, od_law_plan, .func (PySem.W.fnOf "_law_plan" "_law_plan" (C8.fnArgs s_law_plan) (C8.fnBody s_law_plan) (C8.fnScope s_law_plan) .none kV_law_plan dc_law_plan pm_law_plan an_law_plan cd_law_plan ct_law_plan), sl_law_plan⟩)
    (c_law_plan : PySem.W.codeIn K cd_law_plan "_law_plan" = true)
    (k_law_plan : PySem.W.keepIn K (.ref f_law_plan) = true)
    (a_law_count : PySem.W.nsIn K mainGlobals "_law_count" = some (some (.ref f_law_count)))
    (l_law_count : K.lookup f_law_count = some ⟨oc_law_count, od_law_count, .func (PySem.W.fnOf "_law_count" "_law_count" (C8.fnArgs s_law_count) (C8.fnBody s_law_count) (C8.fnScope s_law_count) .none kV_law_count dc_law_count pm_law_count an_law_count cd_law_count ct_law_count), sl_law_count⟩)
    (c_law_count : PySem.W.codeIn K cd_law_count "_law_count" = true)
    (k_law_count : PySem.W.keepIn K (.ref f_law_count) = true)
    (a_law_good : PySem.W.nsIn K mainGlobals "_law_good" = some (some (.ref f_law_good)))
    (l_law_good : K.lookup f_law_good = some ⟨oc_law_good, od_law_good, .func (PySem.W.fnOf "_law_good" "_law_good" (C8.fnArgs s_law_good) (C8.fnBody s_law_good) (C8.fnScope s_law_good) .none kV_law_good dc_law_good pm_law_good an_law_good cd_law_good ct_law_good), sl_law_good⟩)
    (c_law_good : PySem.W.codeIn K cd_law_good "_law_good" = true)
    (k_law_good : PySem.W.keepIn K (.ref f_law_good) = true)
    (a_law_runs : PySem.W.nsIn K mainGlobals "_law_runs" = some (some (.ref f_law_runs)))
    (l_law_runs : K.lookup f_law_runs = some ⟨oc_law_runs, od_law_runs, .func (PySem.W.fnOf "_law_runs" "_law_runs" (C8.fnArgs s_law_runs) (C8.fnBody s_law_runs) (C8.fnScope s_law_runs) .none kV_law_runs dc_law_runs pm_law_runs an_law_runs cd_law_runs ct_law_runs), sl_law_runs⟩)
    (c_law_runs : PySem.W.codeIn K cd_law_runs "_law_runs" = true)
    (k_law_runs : PySem.W.keepIn K (.ref f_law_runs) = true)
    (a_law_rows : PySem.W.nsIn K mainGlobals "_law_rows" = some (some (.ref f_law_rows)))
    (l_law_rows : K.lookup f_law_rows = some ⟨oc_law_rows, od_law_rows, .func (PySem.W.fnOf "_law_rows" "_law_rows" (C8.fnArgs s_law_rows) (C8.fnBody s_law_rows) (C8.fnScope s_law_rows) .none kV_law_rows dc_law_rows pm_law_rows an_law_rows cd_law_rows ct_law_rows), sl_law_rows⟩)
    (c_law_rows : PySem.W.codeIn K cd_law_rows "_law_rows" = true)
    (k_law_rows : PySem.W.keepIn K (.ref f_law_rows) = true)
    (a_law_behind : PySem.W.nsIn K mainGlobals "_law_behind" = some (some (.ref f_law_behind)))
    (l_law_behind : K.lookup f_law_behind = some ⟨oc_law_behind, od_law_behind, .func (PySem.W.fnOf "_law_behind" "_law_behind" (C8.fnArgs s_law_behind) (C8.fnBody s_law_behind) (C8.fnScope s_law_behind) .none kV_law_behind dc_law_behind pm_law_behind an_law_behind cd_law_behind ct_law_behind), sl_law_behind⟩)
    (c_law_behind : PySem.W.codeIn K cd_law_behind "_law_behind" = true)
    (k_law_behind : PySem.W.keepIn K (.ref f_law_behind) = true)
    (a_law_bites : PySem.W.nsIn K mainGlobals "_law_bites" = some (some (.ref f_law_bites)))
    (l_law_bites : K.lookup f_law_bites = some ⟨oc_law_bites, od_law_bites, .func (PySem.W.fnOf "_law_bites" "_law_bites" (C8.fnArgs s_law_bites) (C8.fnBody s_law_bites) (C8.fnScope s_law_bites) .none kV_law_bites dc_law_bites pm_law_bites an_law_bites cd_law_bites ct_law_bites), sl_law_bites⟩)
    (c_law_bites : PySem.W.codeIn K cd_law_bites "_law_bites" = true)
    (k_law_bites : PySem.W.keepIn K (.ref f_law_bites) = true)
    (a_law : PySem.W.nsIn K mainGlobals "law" = some (some (.ref fa0)))
    (l_law : K.lookup fa0 = some ⟨oc_law, od_law, .func (PySem.W.fnOf "law" "law" (C8.fnArgs s_law) (C8.fnBody s_law) (C8.fnScope s_law) .none kV_law dc_law pm_law an_law cd_law ct_law), sl_law⟩)
    (c_law : PySem.W.codeIn K cd_law "law" = true)
    (k_law : PySem.W.keepIn K (.ref fa0) = true)
    (aC_Run : PySem.W.nsIn K mainGlobals "Run" = some (some (.ref C_Run)))
    (a_Run_init : PySem.W.findIn K (.ref C_Run) "__init__" = some (some (.ref f_Run_init)))
    (i_Run_init : PySem.W.isFn K (.ref f_Run_init) = true)
    (l_Run_init : K.lookup f_Run_init = some ⟨oc_Run_init, od_Run_init, .func (PySem.W.fnOf "__init__" "Run.__init__" (C8.fnArgs s_Run_init) (C8.fnBody s_Run_init) (C8.fnScope s_Run_init) .none kV_Run_init dc_Run_init pm_Run_init an_Run_init cd_Run_init ct_Run_init), sl_Run_init⟩)
    (c_Run_init : PySem.W.codeIn K cd_Run_init "Run.__init__" = true)
    (k_Run_init : PySem.W.keepIn K (.ref f_Run_init) = true)
    (a_Run_take : PySem.W.findIn K (.ref C_Run) "take" = some (some (.ref f_Run_take)))
    (i_Run_take : PySem.W.isFn K (.ref f_Run_take) = true)
    (l_Run_take : K.lookup f_Run_take = some ⟨oc_Run_take, od_Run_take, .func (PySem.W.fnOf "take" "Run.take" (C8.fnArgs s_Run_take) (C8.fnBody s_Run_take) (C8.fnScope s_Run_take) .none kV_Run_take dc_Run_take pm_Run_take an_Run_take cd_Run_take ct_Run_take), sl_Run_take⟩)
    (c_Run_take : PySem.W.codeIn K cd_Run_take "Run.take" = true)
    (k_Run_take : PySem.W.keepIn K (.ref f_Run_take) = true)
    (a_Run_follow : PySem.W.findIn K (.ref C_Run) "follow" = some (some (.ref f_Run_follow)))
    (i_Run_follow : PySem.W.isFn K (.ref f_Run_follow) = true)
    (l_Run_follow : K.lookup f_Run_follow = some ⟨oc_Run_follow, od_Run_follow, .func (PySem.W.fnOf "follow" "Run.follow" (C8.fnArgs s_Run_follow) (C8.fnBody s_Run_follow) (C8.fnScope s_Run_follow) .none kV_Run_follow dc_Run_follow pm_Run_follow an_Run_follow cd_Run_follow ct_Run_follow), sl_Run_follow⟩)
    (c_Run_follow : PySem.W.codeIn K cd_Run_follow "Run.follow" = true)
    (k_Run_follow : PySem.W.keepIn K (.ref f_Run_follow) = true)
    (pg_Run : PySem.W.plainGet K C_Run Str.empty = true)
    (hdd_Run : PySem.W.hasDictIn K C_Run = true)
    (po_Run : PySem.W.plainOver K C_Run = true)
    (sa_Run : PySem.W.findIn K (.ref C_Run) "__setattr__" = some (some (.builtin "object.__setattr__")))
    (mk_Run : PySem.W.makesIn K C_Run = true)
    (kc_Run : PySem.W.keepIn K (.ref C_Run) = true)
    (n_Run_delays : PySem.W.findIn K (.ref C_Run) "delays" = some none)
    (n_Run_used : PySem.W.findIn K (.ref C_Run) "used" = some none)
    (n_Run_now : PySem.W.findIn K (.ref C_Run) "now" = some none)
    (n_Run_pats : PySem.W.findIn K (.ref C_Run) "pats" = some none)
    (aC_Watcher : PySem.W.nsIn K mainGlobals "Watcher" = some (some (.ref C_Watcher)))
    (a_Watcher_init : PySem.W.findIn K (.ref C_Watcher) "__init__" = some (some (.ref f_Watcher_init)))
    (i_Watcher_init : PySem.W.isFn K (.ref f_Watcher_init) = true)
    (l_Watcher_init : K.lookup f_Watcher_init = some ⟨oc_Watcher_init, od_Watcher_init, .func (PySem.W.fnOf "__init__" "Watcher.__init__" (C8.fnArgs s_Watcher_init) (C8.fnBody s_Watcher_init) (C8.fnScope s_Watcher_init) .none kV_Watcher_init dc_Watcher_init pm_Watcher_init an_Watcher_init cd_Watcher_init ct_Watcher_init), sl_Watcher_init⟩)
    (c_Watcher_init : PySem.W.codeIn K cd_Watcher_init "Watcher.__init__" = true)
    (k_Watcher_init : PySem.W.keepIn K (.ref f_Watcher_init) = true)
    (a_Watcher_gap_behind_pat : PySem.W.findIn K (.ref C_Watcher) "gap_behind_pat" = some (some (.ref f_Watcher_gap_behind_pat)))
    (i_Watcher_gap_behind_pat : PySem.W.isFn K (.ref f_Watcher_gap_behind_pat) = true)
    (l_Watcher_gap_behind_pat : K.lookup f_Watcher_gap_behind_pat = some ⟨oc_Watcher_gap_behind_pat, od_Watcher_gap_behind_pat, .func (PySem.W.fnOf "gap_behind_pat" "Watcher.gap_behind_pat" (C8.fnArgs s_Watcher_gap_behind_pat) (C8.fnBody s_Watcher_gap_behind_pat) (C8.fnScope s_Watcher_gap_behind_pat) .none kV_Watcher_gap_behind_pat dc_Watcher_gap_behind_pat pm_Watcher_gap_behind_pat an_Watcher_gap_behind_pat cd_Watcher_gap_behind_pat ct_Watcher_gap_behind_pat), sl_Watcher_gap_behind_pat⟩)
    (c_Watcher_gap_behind_pat : PySem.W.codeIn K cd_Watcher_gap_behind_pat "Watcher.gap_behind_pat" = true)
    (k_Watcher_gap_behind_pat : PySem.W.keepIn K (.ref f_Watcher_gap_behind_pat) = true)
    (a_Watcher_gap_behind_work : PySem.W.findIn K (.ref C_Watcher) "gap_behind_work" = some (some (.ref f_Watcher_gap_behind_work)))
    (i_Watcher_gap_behind_work : PySem.W.isFn K (.ref f_Watcher_gap_behind_work) = true)
    (l_Watcher_gap_behind_work : K.lookup f_Watcher_gap_behind_work = some ⟨oc_Watcher_gap_behind_work, od_Watcher_gap_behind_work, .func (PySem.W.fnOf "gap_behind_work" "Watcher.gap_behind_work" (C8.fnArgs s_Watcher_gap_behind_work) (C8.fnBody s_Watcher_gap_behind_work) (C8.fnScope s_Watcher_gap_behind_work) .none kV_Watcher_gap_behind_work dc_Watcher_gap_behind_work pm_Watcher_gap_behind_work an_Watcher_gap_behind_work cd_Watcher_gap_behind_work ct_Watcher_gap_behind_work), sl_Watcher_gap_behind_work⟩)
    (c_Watcher_gap_behind_work : PySem.W.codeIn K cd_Watcher_gap_behind_work "Watcher.gap_behind_work" = true)
    (k_Watcher_gap_behind_work : PySem.W.keepIn K (.ref f_Watcher_gap_behind_work) = true)
    (a_Watcher_gaps_ahead_of_pat : PySem.W.findIn K (.ref C_Watcher) "gaps_ahead_of_pat" = some (some (.ref f_Watcher_gaps_ahead_of_pat)))
    (i_Watcher_gaps_ahead_of_pat : PySem.W.isFn K (.ref f_Watcher_gaps_ahead_of_pat) = true)
    (l_Watcher_gaps_ahead_of_pat : K.lookup f_Watcher_gaps_ahead_of_pat = some ⟨oc_Watcher_gaps_ahead_of_pat, od_Watcher_gaps_ahead_of_pat, .func (PySem.W.fnOf "gaps_ahead_of_pat" "Watcher.gaps_ahead_of_pat" (C8.fnArgs s_Watcher_gaps_ahead_of_pat) (C8.fnBody s_Watcher_gaps_ahead_of_pat) (C8.fnScope s_Watcher_gaps_ahead_of_pat) .none kV_Watcher_gaps_ahead_of_pat dc_Watcher_gaps_ahead_of_pat pm_Watcher_gaps_ahead_of_pat an_Watcher_gaps_ahead_of_pat cd_Watcher_gaps_ahead_of_pat ct_Watcher_gaps_ahead_of_pat), sl_Watcher_gaps_ahead_of_pat⟩)
    (c_Watcher_gaps_ahead_of_pat : PySem.W.codeIn K cd_Watcher_gaps_ahead_of_pat "Watcher.gaps_ahead_of_pat" = true)
    (k_Watcher_gaps_ahead_of_pat : PySem.W.keepIn K (.ref f_Watcher_gaps_ahead_of_pat) = true)
    (a_Watcher_gaps_ahead_of_work : PySem.W.findIn K (.ref C_Watcher) "gaps_ahead_of_work" = some (some (.ref f_Watcher_gaps_ahead_of_work)))
    (i_Watcher_gaps_ahead_of_work : PySem.W.isFn K (.ref f_Watcher_gaps_ahead_of_work) = true)
    (l_Watcher_gaps_ahead_of_work : K.lookup f_Watcher_gaps_ahead_of_work = some ⟨oc_Watcher_gaps_ahead_of_work, od_Watcher_gaps_ahead_of_work, .func (PySem.W.fnOf "gaps_ahead_of_work" "Watcher.gaps_ahead_of_work" (C8.fnArgs s_Watcher_gaps_ahead_of_work) (C8.fnBody s_Watcher_gaps_ahead_of_work) (C8.fnScope s_Watcher_gaps_ahead_of_work) .none kV_Watcher_gaps_ahead_of_work dc_Watcher_gaps_ahead_of_work pm_Watcher_gaps_ahead_of_work an_Watcher_gaps_ahead_of_work cd_Watcher_gaps_ahead_of_work ct_Watcher_gaps_ahead_of_work), sl_Watcher_gaps_ahead_of_work⟩)
    (c_Watcher_gaps_ahead_of_work : PySem.W.codeIn K cd_Watcher_gaps_ahead_of_work "Watcher.gaps_ahead_of_work" = true)
    (k_Watcher_gaps_ahead_of_work : PySem.W.keepIn K (.ref f_Watcher_gaps_ahead_of_work) = true)
    (pg_Watcher : PySem.W.plainGet K C_Watcher Str.empty = true)
    (hdd_Watcher : PySem.W.hasDictIn K C_Watcher = true)
    (po_Watcher : PySem.W.plainOver K C_Watcher = true)
    (sa_Watcher : PySem.W.findIn K (.ref C_Watcher) "__setattr__" = some (some (.builtin "object.__setattr__")))
    (mk_Watcher : PySem.W.makesIn K C_Watcher = true)
    (kc_Watcher : PySem.W.keepIn K (.ref C_Watcher) = true)
    (n_Watcher_low : PySem.W.findIn K (.ref C_Watcher) "low" = some none)
    (n_Watcher_high : PySem.W.findIn K (.ref C_Watcher) "high" = some none)
    (n_Watcher_bitten : PySem.W.findIn K (.ref C_Watcher) "bitten" = some none)
    (n_Watcher_bite : PySem.W.findIn K (.ref C_Watcher) "bite" = some none)
    (n_Watcher_too_soon : PySem.W.findIn K (.ref C_Watcher) "too_soon" = some none)
    (n_Watcher_timely : PySem.W.findIn K (.ref C_Watcher) "timely" = some none)
    (aC_PatWay : PySem.W.nsIn K mainGlobals "PatWay" = some (some (.ref C_PatWay)))
    (a_PatWay_init : PySem.W.findIn K (.ref C_PatWay) "__init__" = some (some (.ref f_PatWay_init)))
    (i_PatWay_init : PySem.W.isFn K (.ref f_PatWay_init) = true)
    (l_PatWay_init : K.lookup f_PatWay_init = some ⟨oc_PatWay_init, od_PatWay_init, .func (PySem.W.fnOf "__init__" "PatWay.__init__" (C8.fnArgs s_PatWay_init) (C8.fnBody s_PatWay_init) (C8.fnScope s_PatWay_init) .none kV_PatWay_init dc_PatWay_init pm_PatWay_init an_PatWay_init cd_PatWay_init ct_PatWay_init), sl_PatWay_init⟩)
    (c_PatWay_init : PySem.W.codeIn K cd_PatWay_init "PatWay.__init__" = true)
    (k_PatWay_init : PySem.W.keepIn K (.ref f_PatWay_init) = true)
    (a_PatWay_lead : PySem.W.findIn K (.ref C_PatWay) "lead" = some (some (.ref f_PatWay_lead)))
    (i_PatWay_lead : PySem.W.isFn K (.ref f_PatWay_lead) = true)
    (l_PatWay_lead : K.lookup f_PatWay_lead = some ⟨oc_PatWay_lead, od_PatWay_lead, .func (PySem.W.fnOf "lead" "PatWay.lead" (C8.fnArgs s_PatWay_lead) (C8.fnBody s_PatWay_lead) (C8.fnScope s_PatWay_lead) .none kV_PatWay_lead dc_PatWay_lead pm_PatWay_lead an_PatWay_lead cd_PatWay_lead ct_PatWay_lead), sl_PatWay_lead⟩)
    (c_PatWay_lead : PySem.W.codeIn K cd_PatWay_lead "PatWay.lead" = true)
    (k_PatWay_lead : PySem.W.keepIn K (.ref f_PatWay_lead) = true)
    (pg_PatWay : PySem.W.plainGet K C_PatWay Str.empty = true)
    (hdd_PatWay : PySem.W.hasDictIn K C_PatWay = true)
    (po_PatWay : PySem.W.plainOver K C_PatWay = true)
    (sa_PatWay : PySem.W.findIn K (.ref C_PatWay) "__setattr__" = some (some (.builtin "object.__setattr__")))
    (mk_PatWay : PySem.W.makesIn K C_PatWay = true)
    (kc_PatWay : PySem.W.keepIn K (.ref C_PatWay) = true)
    (n_PatWay_watcher : PySem.W.findIn K (.ref C_PatWay) "watcher" = some none)
    (n_PatWay_gaps : PySem.W.findIn K (.ref C_PatWay) "gaps" = some none)
    (aC_WorkWay : PySem.W.nsIn K mainGlobals "WorkWay" = some (some (.ref C_WorkWay)))
    (a_WorkWay_init : PySem.W.findIn K (.ref C_WorkWay) "__init__" = some (some (.ref f_WorkWay_init)))
    (i_WorkWay_init : PySem.W.isFn K (.ref f_WorkWay_init) = true)
    (l_WorkWay_init : K.lookup f_WorkWay_init = some ⟨oc_WorkWay_init, od_WorkWay_init, .func (PySem.W.fnOf "__init__" "WorkWay.__init__" (C8.fnArgs s_WorkWay_init) (C8.fnBody s_WorkWay_init) (C8.fnScope s_WorkWay_init) .none kV_WorkWay_init dc_WorkWay_init pm_WorkWay_init an_WorkWay_init cd_WorkWay_init ct_WorkWay_init), sl_WorkWay_init⟩)
    (c_WorkWay_init : PySem.W.codeIn K cd_WorkWay_init "WorkWay.__init__" = true)
    (k_WorkWay_init : PySem.W.keepIn K (.ref f_WorkWay_init) = true)
    (a_WorkWay_lead : PySem.W.findIn K (.ref C_WorkWay) "lead" = some (some (.ref f_WorkWay_lead)))
    (i_WorkWay_lead : PySem.W.isFn K (.ref f_WorkWay_lead) = true)
    (l_WorkWay_lead : K.lookup f_WorkWay_lead = some ⟨oc_WorkWay_lead, od_WorkWay_lead, .func (PySem.W.fnOf "lead" "WorkWay.lead" (C8.fnArgs s_WorkWay_lead) (C8.fnBody s_WorkWay_lead) (C8.fnScope s_WorkWay_lead) .none kV_WorkWay_lead dc_WorkWay_lead pm_WorkWay_lead an_WorkWay_lead cd_WorkWay_lead ct_WorkWay_lead), sl_WorkWay_lead⟩)
    (c_WorkWay_lead : PySem.W.codeIn K cd_WorkWay_lead "WorkWay.lead" = true)
    (k_WorkWay_lead : PySem.W.keepIn K (.ref f_WorkWay_lead) = true)
    (pg_WorkWay : PySem.W.plainGet K C_WorkWay Str.empty = true)
    (hdd_WorkWay : PySem.W.hasDictIn K C_WorkWay = true)
    (po_WorkWay : PySem.W.plainOver K C_WorkWay = true)
    (sa_WorkWay : PySem.W.findIn K (.ref C_WorkWay) "__setattr__" = some (some (.builtin "object.__setattr__")))
    (mk_WorkWay : PySem.W.makesIn K C_WorkWay = true)
    (kc_WorkWay : PySem.W.keepIn K (.ref C_WorkWay) = true)
    (n_WorkWay_watcher : PySem.W.findIn K (.ref C_WorkWay) "watcher" = some none)
    (n_WorkWay_goal : PySem.W.findIn K (.ref C_WorkWay) "goal" = some none)
    (n_WorkWay_least : PySem.W.findIn K (.ref C_WorkWay) "least" = some none)
    (n_WorkWay_gaps : PySem.W.findIn K (.ref C_WorkWay) "gaps" = some none)
    (aC_RowWay : PySem.W.nsIn K mainGlobals "RowWay" = some (some (.ref C_RowWay)))
    (a_RowWay_init : PySem.W.findIn K (.ref C_RowWay) "__init__" = some (some (.ref f_RowWay_init)))
    (i_RowWay_init : PySem.W.isFn K (.ref f_RowWay_init) = true)
    (l_RowWay_init : K.lookup f_RowWay_init = some ⟨oc_RowWay_init, od_RowWay_init, .func (PySem.W.fnOf "__init__" "RowWay.__init__" (C8.fnArgs s_RowWay_init) (C8.fnBody s_RowWay_init) (C8.fnScope s_RowWay_init) .none kV_RowWay_init dc_RowWay_init pm_RowWay_init an_RowWay_init cd_RowWay_init ct_RowWay_init), sl_RowWay_init⟩)
    (c_RowWay_init : PySem.W.codeIn K cd_RowWay_init "RowWay.__init__" = true)
    (k_RowWay_init : PySem.W.keepIn K (.ref f_RowWay_init) = true)
    (a_RowWay_lead : PySem.W.findIn K (.ref C_RowWay) "lead" = some (some (.ref f_RowWay_lead)))
    (i_RowWay_lead : PySem.W.isFn K (.ref f_RowWay_lead) = true)
    (l_RowWay_lead : K.lookup f_RowWay_lead = some ⟨oc_RowWay_lead, od_RowWay_lead, .func (PySem.W.fnOf "lead" "RowWay.lead" (C8.fnArgs s_RowWay_lead) (C8.fnBody s_RowWay_lead) (C8.fnScope s_RowWay_lead) .none kV_RowWay_lead dc_RowWay_lead pm_RowWay_lead an_RowWay_lead cd_RowWay_lead ct_RowWay_lead), sl_RowWay_lead⟩)
    (c_RowWay_lead : PySem.W.codeIn K cd_RowWay_lead "RowWay.lead" = true)
    (k_RowWay_lead : PySem.W.keepIn K (.ref f_RowWay_lead) = true)
    (pg_RowWay : PySem.W.plainGet K C_RowWay Str.empty = true)
    (hdd_RowWay : PySem.W.hasDictIn K C_RowWay = true)
    (po_RowWay : PySem.W.plainOver K C_RowWay = true)
    (sa_RowWay : PySem.W.findIn K (.ref C_RowWay) "__setattr__" = some (some (.builtin "object.__setattr__")))
    (mk_RowWay : PySem.W.makesIn K C_RowWay = true)
    (kc_RowWay : PySem.W.keepIn K (.ref C_RowWay) = true)
    (n_RowWay_ways : PySem.W.findIn K (.ref C_RowWay) "ways" = some none)
    (n_RowWay_gaps : PySem.W.findIn K (.ref C_RowWay) "gaps" = some none)
    (aC_EitherWay : PySem.W.nsIn K mainGlobals "EitherWay" = some (some (.ref C_EitherWay)))
    (a_EitherWay_init : PySem.W.findIn K (.ref C_EitherWay) "__init__" = some (some (.ref f_EitherWay_init)))
    (i_EitherWay_init : PySem.W.isFn K (.ref f_EitherWay_init) = true)
    (l_EitherWay_init : K.lookup f_EitherWay_init = some ⟨oc_EitherWay_init, od_EitherWay_init, .func (PySem.W.fnOf "__init__" "EitherWay.__init__" (C8.fnArgs s_EitherWay_init) (C8.fnBody s_EitherWay_init) (C8.fnScope s_EitherWay_init) .none kV_EitherWay_init dc_EitherWay_init pm_EitherWay_init an_EitherWay_init cd_EitherWay_init ct_EitherWay_init), sl_EitherWay_init⟩)
    (c_EitherWay_init : PySem.W.codeIn K cd_EitherWay_init "EitherWay.__init__" = true)
    (k_EitherWay_init : PySem.W.keepIn K (.ref f_EitherWay_init) = true)
    (a_EitherWay_lead : PySem.W.findIn K (.ref C_EitherWay) "lead" = some (some (.ref f_EitherWay_lead)))
    (i_EitherWay_lead : PySem.W.isFn K (.ref f_EitherWay_lead) = true)
    (l_EitherWay_lead : K.lookup f_EitherWay_lead = some ⟨oc_EitherWay_lead, od_EitherWay_lead, .func (PySem.W.fnOf "lead" "EitherWay.lead" (C8.fnArgs s_EitherWay_lead) (C8.fnBody s_EitherWay_lead) (C8.fnScope s_EitherWay_lead) .none kV_EitherWay_lead dc_EitherWay_lead pm_EitherWay_lead an_EitherWay_lead cd_EitherWay_lead ct_EitherWay_lead), sl_EitherWay_lead⟩)
    (c_EitherWay_lead : PySem.W.codeIn K cd_EitherWay_lead "EitherWay.lead" = true)
    (k_EitherWay_lead : PySem.W.keepIn K (.ref f_EitherWay_lead) = true)
    (pg_EitherWay : PySem.W.plainGet K C_EitherWay Str.empty = true)
    (hdd_EitherWay : PySem.W.hasDictIn K C_EitherWay = true)
    (po_EitherWay : PySem.W.plainOver K C_EitherWay = true)
    (sa_EitherWay : PySem.W.findIn K (.ref C_EitherWay) "__setattr__" = some (some (.builtin "object.__setattr__")))
    (mk_EitherWay : PySem.W.makesIn K C_EitherWay = true)
    (kc_EitherWay : PySem.W.keepIn K (.ref C_EitherWay) = true)
    (n_EitherWay_ways : PySem.W.findIn K (.ref C_EitherWay) "ways" = some none)
    (n_EitherWay_gaps : PySem.W.findIn K (.ref C_EitherWay) "gaps" = some none)
    (aC_LoopWay : PySem.W.nsIn K mainGlobals "LoopWay" = some (some (.ref C_LoopWay)))
    (a_LoopWay_init : PySem.W.findIn K (.ref C_LoopWay) "__init__" = some (some (.ref f_LoopWay_init)))
    (i_LoopWay_init : PySem.W.isFn K (.ref f_LoopWay_init) = true)
    (l_LoopWay_init : K.lookup f_LoopWay_init = some ⟨oc_LoopWay_init, od_LoopWay_init, .func (PySem.W.fnOf "__init__" "LoopWay.__init__" (C8.fnArgs s_LoopWay_init) (C8.fnBody s_LoopWay_init) (C8.fnScope s_LoopWay_init) .none kV_LoopWay_init dc_LoopWay_init pm_LoopWay_init an_LoopWay_init cd_LoopWay_init ct_LoopWay_init), sl_LoopWay_init⟩)
    (c_LoopWay_init : PySem.W.codeIn K cd_LoopWay_init "LoopWay.__init__" = true)
    (k_LoopWay_init : PySem.W.keepIn K (.ref f_LoopWay_init) = true)
    (a_LoopWay_lead : PySem.W.findIn K (.ref C_LoopWay) "lead" = some (some (.ref f_LoopWay_lead)))
    (i_LoopWay_lead : PySem.W.isFn K (.ref f_LoopWay_lead) = true)
    (l_LoopWay_lead : K.lookup f_LoopWay_lead = some ⟨oc_LoopWay_lead, od_LoopWay_lead, .func (PySem.W.fnOf "lead" "LoopWay.lead" (C8.fnArgs s_LoopWay_lead) (C8.fnBody s_LoopWay_lead) (C8.fnScope s_LoopWay_lead) .none kV_LoopWay_lead dc_LoopWay_lead pm_LoopWay_lead an_LoopWay_lead cd_LoopWay_lead ct_LoopWay_lead), sl_LoopWay_lead⟩)
    (c_LoopWay_lead : PySem.W.codeIn K cd_LoopWay_lead "LoopWay.lead" = true)
    (k_LoopWay_lead : PySem.W.keepIn K (.ref f_LoopWay_lead) = true)
    (pg_LoopWay : PySem.W.plainGet K C_LoopWay Str.empty = true)
    (hdd_LoopWay : PySem.W.hasDictIn K C_LoopWay = true)
    (po_LoopWay : PySem.W.plainOver K C_LoopWay = true)
    (sa_LoopWay : PySem.W.findIn K (.ref C_LoopWay) "__setattr__" = some (some (.builtin "object.__setattr__")))
    (mk_LoopWay : PySem.W.makesIn K C_LoopWay = true)
    (kc_LoopWay : PySem.W.keepIn K (.ref C_LoopWay) = true)
    (n_LoopWay_least : PySem.W.findIn K (.ref C_LoopWay) "least" = some none)
    (n_LoopWay_turns : PySem.W.findIn K (.ref C_LoopWay) "turns" = some none)
    (n_LoopWay_goals : PySem.W.findIn K (.ref C_LoopWay) "goals" = some none)
    (n_LoopWay_gaps : PySem.W.findIn K (.ref C_LoopWay) "gaps" = some none)
    (z_isinstance : PySem.W.nsIn K mainGlobals "isinstance" = some none)
    (z_len : PySem.W.nsIn K mainGlobals "len" = some none)
    (z_int : PySem.W.nsIn K mainGlobals "int" = some none)
    (z_bool : PySem.W.nsIn K mainGlobals "bool" = some none)
    (z_range : PySem.W.nsIn K mainGlobals "range" = some none)
    (z_list : PySem.W.nsIn K mainGlobals "list" = some none)
    (z_tuple : PySem.W.nsIn K mainGlobals "tuple" = some none)
    (z_str : PySem.W.nsIn K mainGlobals "str" = some none)
    (z_sum : PySem.W.nsIn K mainGlobals "sum" = some none)
    (z_min : PySem.W.nsIn K mainGlobals "min" = some none)
    (z_reversed : PySem.W.nsIn K mainGlobals "reversed" = some none)
    (z_sorted : PySem.W.nsIn K mainGlobals "sorted" = some none)
    (z_set : PySem.W.nsIn K mainGlobals "set" = some none)
    (q_LONGEST_WORK : PySem.W.nsIn K mainGlobals "LONGEST_WORK" = some (some (.int 1000 t_LONGEST_WORK)))
    (q_MOST_TIMES : PySem.W.nsIn K mainGlobals "MOST_TIMES" = some (some (.int 9 t_MOST_TIMES)))
    (q_LONGEST_ROW : PySem.W.nsIn K mainGlobals "LONGEST_ROW" = some (some (.int 20 t_LONGEST_ROW)))
    (q_MOST_PLANS : PySem.W.nsIn K mainGlobals "MOST_PLANS" = some (some (.int 30 t_MOST_PLANS)))
    (q_MOST_DEEP : PySem.W.nsIn K mainGlobals "MOST_DEEP" = some (some (.int 6 t_MOST_DEEP)))
    (q_MOST_LOOPS : PySem.W.nsIn K mainGlobals "MOST_LOOPS" = some (some (.int 2 t_MOST_LOOPS)))
    (q_GREATEST_HIGH : PySem.W.nsIn K mainGlobals "GREATEST_HIGH" = some (some (.int 1000 t_GREATEST_HIGH))) :
    ∃ fd : FuncData, (∀ (s : Shared) (v : Value), BindsTo s fd ⟨[v], []⟩ [("_law_script", v)]) ∧ ∀ base : Heap, K.In base → base.Ns mainGlobals mg → FnOk l.prog w K mg base C8.CX0 17 fa fd ["_law_script"] (sp_law K) := by
  have e := hfa.symm.trans (PySem.W.mg_of X G a_law)
  cases e
  have D_is_number : C8.Def K mg "is_number" s_is_number f_is_number _ := ⟨⟨_, _, _, _, _, _, _, _, _, _, rfl, l_is_number, c_is_number⟩, PySem.W.mg_of X G a_is_number, k_is_number⟩
  have B_is_number := C8.Fun.binds (ps := ["value"]) D_is_number.fn rfl fun _ _ _ _ _ _ us hl => match us, hl with | [_], _ => rfl
  have D_is_range : C8.Def K mg "is_range" s_is_range f_is_range _ := ⟨⟨_, _, _, _, _, _, _, _, _, _, rfl, l_is_range, c_is_range⟩, PySem.W.mg_of X G a_is_range, k_is_range⟩
  have B_is_range := C8.Fun.binds (ps := ["least", "most", "limit"]) D_is_range.fn rfl fun _ _ _ _ _ _ us hl => match us, hl with | [_, _, _], _ => rfl
  have D_has_form : C8.Def K mg "has_form" s_has_form f_has_form _ := ⟨⟨_, _, _, _, _, _, _, _, _, _, rfl, l_has_form, c_has_form⟩, PySem.W.mg_of X G a_has_form, k_has_form⟩
  have B_has_form := C8.Fun.binds (ps := ["plan"]) D_has_form.fn rfl fun _ _ _ _ _ _ us hl => match us, hl with | [_], _ => rfl
  have D_plans_in : C8.Def K mg "plans_in" s_plans_in f_plans_in _ := ⟨⟨_, _, _, _, _, _, _, _, _, _, rfl, l_plans_in, c_plans_in⟩, PySem.W.mg_of X G a_plans_in, k_plans_in⟩
  have B_plans_in := C8.Fun.binds (ps := ["plan"]) D_plans_in.fn rfl fun _ _ _ _ _ _ us hl => match us, hl with | [_], _ => rfl
  have D_check_plan : C8.Def K mg "check_plan" s_check_plan f_check_plan _ := ⟨⟨_, _, _, _, _, _, _, _, _, _, rfl, l_check_plan, c_check_plan⟩, PySem.W.mg_of X G a_check_plan, k_check_plan⟩
  have B_check_plan := C8.Fun.binds (ps := ["plan"]) D_check_plan.fn rfl fun _ _ _ _ _ _ us hl => match us, hl with | [_], _ => rfl
  have D_check_window : C8.Def K mg "check_window" s_check_window f_check_window _ := ⟨⟨_, _, _, _, _, _, _, _, _, _, rfl, l_check_window, c_check_window⟩, PySem.W.mg_of X G a_check_window, k_check_window⟩
  have B_check_window := C8.Fun.binds (ps := ["window"]) D_check_window.fn rfl fun _ _ _ _ _ _ us hl => match us, hl with | [_], _ => rfl
  have D_first_bite : C8.Def K mg "first_bite" s_first_bite f_first_bite _ := ⟨⟨_, _, _, _, _, _, _, _, _, _, rfl, l_first_bite, c_first_bite⟩, PySem.W.mg_of X G a_first_bite, k_first_bite⟩
  have B_first_bite := C8.Fun.binds (ps := ["window", "pats"]) D_first_bite.fn rfl fun _ _ _ _ _ _ us hl => match us, hl with | [_, _], _ => rfl
  have D_holds : C8.Def K mg "holds" s_holds f_holds _ := ⟨⟨_, _, _, _, _, _, _, _, _, _, rfl, l_holds, c_holds⟩, PySem.W.mg_of X G a_holds, k_holds⟩
  have B_holds := C8.Fun.binds (ps := ["gaps", "gap"]) D_holds.fn rfl fun _ _ _ _ _ _ us hl => match us, hl with | [_, _], _ => rfl
  have D_spread : C8.Def K mg "spread" s_spread f_spread _ := ⟨⟨_, _, _, _, _, _, _, _, _, _, rfl, l_spread, c_spread⟩, PySem.W.mg_of X G a_spread, k_spread⟩
  have B_spread := C8.Fun.binds (ps := ["gaps", "most"]) D_spread.fn rfl fun _ _ _ _ _ _ us hl => match us, hl with | [_, _], _ => rfl
  have D_way_to : C8.Def K mg "way_to" s_way_to f_way_to _ := ⟨⟨_, _, _, _, _, _, _, _, _, _, rfl, l_way_to, c_way_to⟩, PySem.W.mg_of X G a_way_to, k_way_to⟩
  have B_way_to := C8.Fun.binds (ps := ["watcher", "plan", "goal"]) D_way_to.fn rfl fun _ _ _ _ _ _ us hl => match us, hl with | [_, _, _], _ => rfl
  have D_goals_of_rounds : C8.Def K mg "goals_of_rounds" s_goals_of_rounds f_goals_of_rounds _ := ⟨⟨_, _, _, _, _, _, _, _, _, _, rfl, l_goals_of_rounds, c_goals_of_rounds⟩, PySem.W.mg_of X G a_goals_of_rounds, k_goals_of_rounds⟩
  have B_goals_of_rounds := C8.Fun.binds (ps := ["watcher", "plan"]) D_goals_of_rounds.fn rfl fun _ _ _ _ _ _ us hl => match us, hl with | [_, _], _ => rfl
  have D_delays_of_rounds : C8.Def K mg "delays_of_rounds" s_delays_of_rounds f_delays_of_rounds _ := ⟨⟨_, _, _, _, _, _, _, _, _, _, rfl, l_delays_of_rounds, c_delays_of_rounds⟩, PySem.W.mg_of X G a_delays_of_rounds, k_delays_of_rounds⟩
  have B_delays_of_rounds := C8.Fun.binds (ps := ["watcher", "plan", "goals"]) D_delays_of_rounds.fn rfl fun _ _ _ _ _ _ us hl => match us, hl with | [_, _, _], _ => rfl
  have D_bite_of_rounds : C8.Def K mg "bite_of_rounds" s_bite_of_rounds f_bite_of_rounds _ := ⟨⟨_, _, _, _, _, _, _, _, _, _, rfl, l_bite_of_rounds, c_bite_of_rounds⟩, PySem.W.mg_of X G a_bite_of_rounds, k_bite_of_rounds⟩
  have B_bite_of_rounds := C8.Fun.binds (ps := ["window", "plan", "rounds", "delays"]) D_bite_of_rounds.fn rfl fun _ _ _ _ _ _ us hl => match us, hl with | [_, _, _, _], _ => rfl
  have D_judged : C8.Def K mg "judged" s_judged f_judged _ := ⟨⟨_, _, _, _, _, _, _, _, _, _, rfl, l_judged, c_judged⟩, PySem.W.mg_of X G a_judged, k_judged⟩
  have B_judged := C8.Fun.binds (ps := ["window", "plan"]) D_judged.fn rfl fun _ _ _ _ _ _ us hl => match us, hl with | [_, _], _ => rfl
  have D_law_start : C8.Def K mg "_law_start" s_law_start f_law_start _ := ⟨⟨_, _, _, _, _, _, _, _, _, _, rfl, l_law_start, c_law_start⟩, PySem.W.mg_of X G a_law_start, k_law_start⟩
  have B_law_start := C8.Fun.binds (ps := ["_law_script"]) D_law_start.fn rfl fun _ _ _ _ _ _ us hl => match us, hl with | [_], _ => rfl
  have D_law_drawn : C8.Def K mg "_law_drawn" s_law_drawn f_law_drawn _ := ⟨⟨_, _, _, _, _, _, _, _, _, _, rfl, l_law_drawn, c_law_drawn⟩, PySem.W.mg_of X G a_law_drawn, k_law_drawn⟩
  have B_law_drawn := C8.Fun.binds (ps := ["_law_state", "_law_many"]) D_law_drawn.fn rfl fun _ _ _ _ _ _ us hl => match us, hl with | [_, _], _ => rfl
  have D_law_window : C8.Def K mg "_law_window" s_law_window f_law_window _ := ⟨⟨_, _, _, _, _, _, _, _, _, _, rfl, l_law_window, c_law_window⟩, PySem.W.mg_of X G a_law_window, k_law_window⟩
  have B_law_window := C8.Fun.binds (ps := ["_law_state", "_law_most"]) D_law_window.fn rfl fun _ _ _ _ _ _ us hl => match us, hl with | [_, _], _ => rfl
  have D_law_plan : C8.Def K mg "_law_plan" s_law_plan f_law_plan _ := ⟨⟨_, _, _, _, _, _, _, _, _, _, rfl, l_law_plan, c_law_plan⟩, PySem.W.mg_of X G a_law_plan, k_law_plan⟩
  have B_law_plan := C8.Fun.binds (ps := ["_law_state", "_law_deep", "_law_loops"]) D_law_plan.fn rfl fun _ _ _ _ _ _ us hl => match us, hl with | [_, _, _], _ => rfl
  have D_law_count : C8.Def K mg "_law_count" s_law_count f_law_count _ := ⟨⟨_, _, _, _, _, _, _, _, _, _, rfl, l_law_count, c_law_count⟩, PySem.W.mg_of X G a_law_count, k_law_count⟩
  have B_law_count := C8.Fun.binds (ps := ["_law_plan_here"]) D_law_count.fn rfl fun _ _ _ _ _ _ us hl => match us, hl with | [_], _ => rfl
  have D_law_good : C8.Def K mg "_law_good" s_law_good f_law_good _ := ⟨⟨_, _, _, _, _, _, _, _, _, _, rfl, l_law_good, c_law_good⟩, PySem.W.mg_of X G a_law_good, k_law_good⟩
  have B_law_good := C8.Fun.binds (ps := ["_law_state", "_law_deep", "_law_loops"]) D_law_good.fn rfl fun _ _ _ _ _ _ us hl => match us, hl with | [_, _, _], _ => rfl
  have D_law_runs : C8.Def K mg "_law_runs" s_law_runs f_law_runs _ := ⟨⟨_, _, _, _, _, _, _, _, _, _, rfl, l_law_runs, c_law_runs⟩, PySem.W.mg_of X G a_law_runs, k_law_runs⟩
  have B_law_runs := C8.Fun.binds (ps := ["_law_plan_here"]) D_law_runs.fn rfl fun _ _ _ _ _ _ us hl => match us, hl with | [_], _ => rfl
  have D_law_rows : C8.Def K mg "_law_rows" s_law_rows f_law_rows _ := ⟨⟨_, _, _, _, _, _, _, _, _, _, rfl, l_law_rows, c_law_rows⟩, PySem.W.mg_of X G a_law_rows, k_law_rows⟩
  have B_law_rows := C8.Fun.binds (ps := ["_law_parts"]) D_law_rows.fn rfl fun _ _ _ _ _ _ us hl => match us, hl with | [_], _ => rfl
  have D_law_behind : C8.Def K mg "_law_behind" s_law_behind f_law_behind _ := ⟨⟨_, _, _, _, _, _, _, _, _, _, rfl, l_law_behind, c_law_behind⟩, PySem.W.mg_of X G a_law_behind, k_law_behind⟩
  have B_law_behind := C8.Fun.binds (ps := ["_law_window_here", "_law_gap", "_law_run"]) D_law_behind.fn rfl fun _ _ _ _ _ _ us hl => match us, hl with | [_, _, _], _ => rfl
  have D_law_bites : C8.Def K mg "_law_bites" s_law_bites f_law_bites _ := ⟨⟨_, _, _, _, _, _, _, _, _, _, rfl, l_law_bites, c_law_bites⟩, PySem.W.mg_of X G a_law_bites, k_law_bites⟩
  have B_law_bites := C8.Fun.binds (ps := ["_law_window_here", "_law_runs_here"]) D_law_bites.fn rfl fun _ _ _ _ _ _ us hl => match us, hl with | [_, _], _ => rfl
  have F_Run_init : C8.Fun K "__init__" "Run.__init__" s_Run_init f_Run_init _ := ⟨_, _, _, _, _, _, _, _, _, _, rfl, l_Run_init, c_Run_init⟩
  have B_Run_init := C8.Fun.binds (ps := ["self", "delays"]) F_Run_init rfl fun _ _ _ _ _ _ us hl => match us, hl with | [_, _], _ => rfl
  have F_Run_take : C8.Fun K "take" "Run.take" s_Run_take f_Run_take _ := ⟨_, _, _, _, _, _, _, _, _, _, rfl, l_Run_take, c_Run_take⟩
  have B_Run_take := C8.Fun.binds (ps := ["self", "least", "most"]) F_Run_take rfl fun _ _ _ _ _ _ us hl => match us, hl with | [_, _, _], _ => rfl
  have F_Run_follow : C8.Fun K "follow" "Run.follow" s_Run_follow f_Run_follow _ := ⟨_, _, _, _, _, _, _, _, _, _, rfl, l_Run_follow, c_Run_follow⟩
  have B_Run_follow := C8.Fun.binds (ps := ["self", "plan"]) F_Run_follow rfl fun _ _ _ _ _ _ us hl => match us, hl with | [_, _], _ => rfl
  have F_Watcher_init : C8.Fun K "__init__" "Watcher.__init__" s_Watcher_init f_Watcher_init _ := ⟨_, _, _, _, _, _, _, _, _, _, rfl, l_Watcher_init, c_Watcher_init⟩
  have B_Watcher_init := C8.Fun.binds (ps := ["self", "window"]) F_Watcher_init rfl fun _ _ _ _ _ _ us hl => match us, hl with | [_, _], _ => rfl
  have F_Watcher_gap_behind_pat : C8.Fun K "gap_behind_pat" "Watcher.gap_behind_pat" s_Watcher_gap_behind_pat f_Watcher_gap_behind_pat _ := ⟨_, _, _, _, _, _, _, _, _, _, rfl, l_Watcher_gap_behind_pat, c_Watcher_gap_behind_pat⟩
  have B_Watcher_gap_behind_pat := C8.Fun.binds (ps := ["self", "gap"]) F_Watcher_gap_behind_pat rfl fun _ _ _ _ _ _ us hl => match us, hl with | [_, _], _ => rfl
  have F_Watcher_gap_behind_work : C8.Fun K "gap_behind_work" "Watcher.gap_behind_work" s_Watcher_gap_behind_work f_Watcher_gap_behind_work _ := ⟨_, _, _, _, _, _, _, _, _, _, rfl, l_Watcher_gap_behind_work, c_Watcher_gap_behind_work⟩
  have B_Watcher_gap_behind_work := C8.Fun.binds (ps := ["self", "gap", "delay"]) F_Watcher_gap_behind_work rfl fun _ _ _ _ _ _ us hl => match us, hl with | [_, _, _], _ => rfl
  have F_Watcher_gaps_ahead_of_pat : C8.Fun K "gaps_ahead_of_pat" "Watcher.gaps_ahead_of_pat" s_Watcher_gaps_ahead_of_pat f_Watcher_gaps_ahead_of_pat _ := ⟨_, _, _, _, _, _, _, _, _, _, rfl, l_Watcher_gaps_ahead_of_pat, c_Watcher_gaps_ahead_of_pat⟩
  have B_Watcher_gaps_ahead_of_pat := C8.Fun.binds (ps := ["self", "goal"]) F_Watcher_gaps_ahead_of_pat rfl fun _ _ _ _ _ _ us hl => match us, hl with | [_, _], _ => rfl
  have F_Watcher_gaps_ahead_of_work : C8.Fun K "gaps_ahead_of_work" "Watcher.gaps_ahead_of_work" s_Watcher_gaps_ahead_of_work f_Watcher_gaps_ahead_of_work _ := ⟨_, _, _, _, _, _, _, _, _, _, rfl, l_Watcher_gaps_ahead_of_work, c_Watcher_gaps_ahead_of_work⟩
  have B_Watcher_gaps_ahead_of_work := C8.Fun.binds (ps := ["self", "goal", "least", "most"]) F_Watcher_gaps_ahead_of_work rfl fun _ _ _ _ _ _ us hl => match us, hl with | [_, _, _, _], _ => rfl
  have F_PatWay_init : C8.Fun K "__init__" "PatWay.__init__" s_PatWay_init f_PatWay_init _ := ⟨_, _, _, _, _, _, _, _, _, _, rfl, l_PatWay_init, c_PatWay_init⟩
  have B_PatWay_init := C8.Fun.binds (ps := ["self", "watcher", "goal"]) F_PatWay_init rfl fun _ _ _ _ _ _ us hl => match us, hl with | [_, _, _], _ => rfl
  have F_PatWay_lead : C8.Fun K "lead" "PatWay.lead" s_PatWay_lead f_PatWay_lead _ := ⟨_, _, _, _, _, _, _, _, _, _, rfl, l_PatWay_lead, c_PatWay_lead⟩
  have B_PatWay_lead := C8.Fun.binds (ps := ["self", "gap", "delays"]) F_PatWay_lead rfl fun _ _ _ _ _ _ us hl => match us, hl with | [_, _, _], _ => rfl
  have F_WorkWay_init : C8.Fun K "__init__" "WorkWay.__init__" s_WorkWay_init f_WorkWay_init _ := ⟨_, _, _, _, _, _, _, _, _, _, rfl, l_WorkWay_init, c_WorkWay_init⟩
  have B_WorkWay_init := C8.Fun.binds (ps := ["self", "watcher", "plan", "goal"]) F_WorkWay_init rfl fun _ _ _ _ _ _ us hl => match us, hl with | [_, _, _, _], _ => rfl
  have F_WorkWay_lead : C8.Fun K "lead" "WorkWay.lead" s_WorkWay_lead f_WorkWay_lead _ := ⟨_, _, _, _, _, _, _, _, _, _, rfl, l_WorkWay_lead, c_WorkWay_lead⟩
  have B_WorkWay_lead := C8.Fun.binds (ps := ["self", "gap", "delays"]) F_WorkWay_lead rfl fun _ _ _ _ _ _ us hl => match us, hl with | [_, _, _], _ => rfl
  have F_RowWay_init : C8.Fun K "__init__" "RowWay.__init__" s_RowWay_init f_RowWay_init _ := ⟨_, _, _, _, _, _, _, _, _, _, rfl, l_RowWay_init, c_RowWay_init⟩
  have B_RowWay_init := C8.Fun.binds (ps := ["self", "watcher", "plan", "goal"]) F_RowWay_init rfl fun _ _ _ _ _ _ us hl => match us, hl with | [_, _, _, _], _ => rfl
  have F_RowWay_lead : C8.Fun K "lead" "RowWay.lead" s_RowWay_lead f_RowWay_lead _ := ⟨_, _, _, _, _, _, _, _, _, _, rfl, l_RowWay_lead, c_RowWay_lead⟩
  have B_RowWay_lead := C8.Fun.binds (ps := ["self", "gap", "delays"]) F_RowWay_lead rfl fun _ _ _ _ _ _ us hl => match us, hl with | [_, _, _], _ => rfl
  have F_EitherWay_init : C8.Fun K "__init__" "EitherWay.__init__" s_EitherWay_init f_EitherWay_init _ := ⟨_, _, _, _, _, _, _, _, _, _, rfl, l_EitherWay_init, c_EitherWay_init⟩
  have B_EitherWay_init := C8.Fun.binds (ps := ["self", "watcher", "plan", "goal"]) F_EitherWay_init rfl fun _ _ _ _ _ _ us hl => match us, hl with | [_, _, _, _], _ => rfl
  have F_EitherWay_lead : C8.Fun K "lead" "EitherWay.lead" s_EitherWay_lead f_EitherWay_lead _ := ⟨_, _, _, _, _, _, _, _, _, _, rfl, l_EitherWay_lead, c_EitherWay_lead⟩
  have B_EitherWay_lead := C8.Fun.binds (ps := ["self", "gap", "delays"]) F_EitherWay_lead rfl fun _ _ _ _ _ _ us hl => match us, hl with | [_, _, _], _ => rfl
  have F_LoopWay_init : C8.Fun K "__init__" "LoopWay.__init__" s_LoopWay_init f_LoopWay_init _ := ⟨_, _, _, _, _, _, _, _, _, _, rfl, l_LoopWay_init, c_LoopWay_init⟩
  have B_LoopWay_init := C8.Fun.binds (ps := ["self", "watcher", "plan", "goal"]) F_LoopWay_init rfl fun _ _ _ _ _ _ us hl => match us, hl with | [_, _, _, _], _ => rfl
  have F_LoopWay_lead : C8.Fun K "lead" "LoopWay.lead" s_LoopWay_lead f_LoopWay_lead _ := ⟨_, _, _, _, _, _, _, _, _, _, rfl, l_LoopWay_lead, c_LoopWay_lead⟩
  have B_LoopWay_lead := C8.Fun.binds (ps := ["self", "gap", "delays"]) F_LoopWay_lead rfl fun _ _ _ _ _ _ us hl => match us, hl with | [_, _, _], _ => rfl
  have T0 : Txt K mg := ⟨PySem.W.mg_none_of X G z_isinstance, PySem.W.mg_none_of X G z_len, PySem.W.mg_none_of X G z_int, PySem.W.mg_none_of X G z_bool, PySem.W.mg_none_of X G z_range, PySem.W.mg_none_of X G z_list, PySem.W.mg_none_of X G z_tuple, PySem.W.mg_none_of X G z_str, PySem.W.mg_none_of X G z_sum⟩
  have T : TxtP K mg := ⟨T0, ⟨_, PySem.W.mg_of X G q_LONGEST_WORK⟩, ⟨_, PySem.W.mg_of X G q_MOST_TIMES⟩, ⟨_, PySem.W.mg_of X G q_LONGEST_ROW⟩, ⟨_, PySem.W.mg_of X G q_MOST_PLANS⟩, ⟨_, PySem.W.mg_of X G q_MOST_DEEP⟩, ⟨_, PySem.W.mg_of X G q_MOST_LOOPS⟩⟩
  have TJ : TxtJ K mg := ⟨T, PySem.W.mg_none_of X G z_min, PySem.W.mg_none_of X G z_reversed⟩
  have TQ : TxtQ K mg := ⟨TJ, ⟨_, PySem.W.mg_of X G q_GREATEST_HIGH⟩⟩
  have TS : TxtS K mg := ⟨T0, PySem.W.mg_none_of X G z_sorted, PySem.W.mg_none_of X G z_set⟩
  have TR : TxtR K C_Run := ⟨⟨pg_Run, hdd_Run, po_Run, sa_Run⟩, n_Run_delays, n_Run_used, n_Run_now, n_Run_pats⟩
  have TW : TxtWt K C_Watcher := ⟨⟨pg_Watcher, hdd_Watcher, po_Watcher, sa_Watcher⟩, n_Watcher_low, n_Watcher_high, n_Watcher_bitten, n_Watcher_bite, n_Watcher_too_soon, n_Watcher_timely⟩
  have TY : TxtY K C_PatWay C_WorkWay C_RowWay C_EitherWay C_LoopWay := ⟨⟨pg_PatWay, hdd_PatWay, po_PatWay, sa_PatWay⟩, ⟨pg_WorkWay, hdd_WorkWay, po_WorkWay, sa_WorkWay⟩, ⟨pg_RowWay, hdd_RowWay, po_RowWay, sa_RowWay⟩, ⟨pg_EitherWay, hdd_EitherWay, po_EitherWay, sa_EitherWay⟩, ⟨pg_LoopWay, hdd_LoopWay, po_LoopWay, sa_LoopWay⟩, n_PatWay_watcher, n_PatWay_gaps, n_WorkWay_watcher, n_WorkWay_goal, n_WorkWay_least, n_WorkWay_gaps, n_RowWay_ways, n_RowWay_gaps, n_EitherWay_ways, n_EitherWay_gaps, n_LoopWay_least, n_LoopWay_turns, n_LoopWay_goals, n_LoopWay_gaps⟩
  have D_law : C8.Def K mg "law" s_law _ _ := ⟨⟨_, _, _, _, _, _, _, _, _, _, rfl, l_law, c_law⟩, PySem.W.mg_of X G a_law, k_law⟩
  refine ⟨PySem.W.fnOf "law" "law" (C8.fnArgs s_law) (C8.fnBody s_law) (C8.fnScope s_law) .none kV_law dc_law pm_law an_law cd_law ct_law, fun s u => .of_eq rfl, fun base KB GB => ?_⟩
  have g0 := ok_is_number (P := l.prog) (w := w) (base := base) T D_is_number B_is_number
  have g1 := ok_is_range T D_is_range B_is_range g0
  have g2 := ok_has_form T D_has_form B_has_form g1
  have g3 := ok_plans_in (P := l.prog) (w := w) (base := base) T D_plans_in B_plans_in
  have g4 := ok_check_plan T D_check_plan B_check_plan g2 g3
  have m1 := ok_take T TR ⟨a_Run_take, i_Run_take, k_Run_take⟩ F_Run_take B_Run_take g0
  have m2 := ok_follow T TR ⟨a_Run_follow, i_Run_follow, k_Run_follow⟩ F_Run_follow B_Run_follow m1 4
  have m0 := ok_init (P := l.prog) (w := w) (base := base) T TR ⟨mk_Run, a_Run_init, i_Run_init, kc_Run⟩ (PySem.W.mg_of X G aC_Run) F_Run_init B_Run_init
  have b0 := ok_holds (P := l.prog) (w := w) (mg := mg) (base := base) D_holds B_holds
  have b1 := ok_spread (P := l.prog) (w := w) (base := base) TJ D_spread B_spread
  have w0 := ok_winit (P := l.prog) (w := w) (mg := mg) (base := base) TW ⟨mk_Watcher, a_Watcher_init, i_Watcher_init, kc_Watcher⟩ (PySem.W.mg_of X G aC_Watcher) F_Watcher_init B_Watcher_init
  have w1 := ok_gbp (P := l.prog) (w := w) (mg := mg) (base := base) TW ⟨a_Watcher_gap_behind_pat, i_Watcher_gap_behind_pat, k_Watcher_gap_behind_pat⟩ F_Watcher_gap_behind_pat B_Watcher_gap_behind_pat
  have w2 := ok_gbw (P := l.prog) (w := w) (base := base) TW TJ ⟨a_Watcher_gap_behind_work, i_Watcher_gap_behind_work, k_Watcher_gap_behind_work⟩ F_Watcher_gap_behind_work B_Watcher_gap_behind_work
  have w3 := ok_gap TW ⟨a_Watcher_gaps_ahead_of_pat, i_Watcher_gaps_ahead_of_pat, k_Watcher_gaps_ahead_of_pat⟩ F_Watcher_gaps_ahead_of_pat B_Watcher_gaps_ahead_of_pat b0
  have w4 := ok_gaw TW ⟨a_Watcher_gaps_ahead_of_work, i_Watcher_gaps_ahead_of_work, k_Watcher_gaps_ahead_of_work⟩ F_Watcher_gaps_ahead_of_work B_Watcher_gaps_ahead_of_work b0 b1
  have y0 := ok_pinit TY ⟨mk_PatWay, a_PatWay_init, i_PatWay_init, kc_PatWay⟩ (PySem.W.mg_of X G aC_PatWay) F_PatWay_init B_PatWay_init w3
  have y1 := ok_kinit TY ⟨mk_WorkWay, a_WorkWay_init, i_WorkWay_init, kc_WorkWay⟩ (PySem.W.mg_of X G aC_WorkWay) F_WorkWay_init B_WorkWay_init w4
  have y2 := ok_way TY TJ D_way_to B_way_to y0 y1 ⟨mk_RowWay, a_RowWay_init, i_RowWay_init, kc_RowWay⟩ (PySem.W.mg_of X G aC_RowWay) F_RowWay_init B_RowWay_init ⟨mk_EitherWay, a_EitherWay_init, i_EitherWay_init, kc_EitherWay⟩ (PySem.W.mg_of X G aC_EitherWay) F_EitherWay_init B_EitherWay_init ⟨mk_LoopWay, a_LoopWay_init, i_LoopWay_init, kc_LoopWay⟩ (PySem.W.mg_of X G aC_LoopWay) F_LoopWay_init B_LoopWay_init 3
  have y3 := ok_lead TY TJ ⟨a_PatWay_lead, i_PatWay_lead, k_PatWay_lead⟩ F_PatWay_lead B_PatWay_lead ⟨a_WorkWay_lead, i_WorkWay_lead, k_WorkWay_lead⟩ F_WorkWay_lead B_WorkWay_lead ⟨a_RowWay_lead, i_RowWay_lead, k_RowWay_lead⟩ F_RowWay_lead B_RowWay_lead ⟨a_EitherWay_lead, i_EitherWay_lead, k_EitherWay_lead⟩ F_EitherWay_lead B_EitherWay_lead ⟨a_LoopWay_lead, i_LoopWay_lead, k_LoopWay_lead⟩ F_LoopWay_lead B_LoopWay_lead w1 w2 b0 3
  have j0 := ok_gr (n := 3) TY TW TJ D_goals_of_rounds B_goals_of_rounds b0 y2
  have j1 := ok_dr (n := 3) TY TJ D_delays_of_rounds B_delays_of_rounds y3 y2
  have j2 := ok_check_window TQ D_check_window B_check_window g1
  have j3 := ok_first_bite (P := l.prog) (w := w) (base := base) TQ D_first_bite B_first_bite
  have j4 := ok_br (n := 3) TQ TR D_bite_of_rounds B_bite_of_rounds m0 m2 j3
  have j5 := ok_judged (n := 3) TQ D_judged B_judged j2 g4 w0 j0 j1 j4
  have h1 := ok_start (P := l.prog) (w := w) (base := base) T0 D_law_start B_law_start
  have h2 := ok_drawn (P := l.prog) (w := w) (base := base) T0 D_law_drawn B_law_drawn
  have h3 := ok_plan T0 D_law_plan B_law_plan h2 4
  have h4 := ok_count (P := l.prog) (w := w) (base := base) T0 D_law_count B_law_count 4
  have h5 := ok_good (d := 2) T0 D_law_good B_law_good h3 h4
  have h6 := ok_rows (P := l.prog) (w := w) (base := base) TS D_law_rows B_law_rows
  have h7 := ok_runs TS D_law_runs B_law_runs h6 4
  have h8 := ok_bh (P := l.prog) (w := w) (base := base) T0 D_law_behind B_law_behind
  have h9 := ok_bites T0 D_law_bites B_law_bites h8
  exact ok_law T0 D_law h1 h5 h7 (ok_window T0 D_law_window B_law_window h2) h9 j5
theorem walk {l : PySem.W.OpenLaw} {q : Program} {loose : List Str} {XP : (Str → Option Value) → Heap → Prop} {YP : World → Heap → Prop} {d : DefRec} {K : Params → PySem.W.Frag} (hn : l.most = some 63) (hdf : d.params.defaults = [])
    (hY : ∀ (w : World) (h : Heap), YP w h → (K w.params).In h)
    (F : ∀ (w : World) (mg : Str → Option Value) (fa : Addr) (h : Heap), (K w.params).In h → h.Ns mainGlobals mg → mg d.name = some (.ref fa) →
      ∃ fd : FuncData, (∀ (s : Shared) (v : Value), BindsTo s fd ⟨[v], []⟩ [("_law_script", v)]) ∧ ∀ base : Heap, (K w.params).In base → base.Ns mainGlobals mg → FnOk l.prog w (K w.params) mg base C8.CX0 17 fa fd ["_law_script"] (sp_law (K w.params))) :
    PySem.W.WalkO q loose XP YP l.row.toRowW d [] (fun f vs => PySem.call f vs) :=
  L2.walk_ofK (n := 63) (k := 17) (CX := C8.CX0) (sp := sp_law) hn (by decide) hdf ⟨rfl, by decide, by decide⟩ hY F (fun K H a ns hl _ hS => ⟨a, ns, rfl, hS, hl, fun _ => rfl⟩) fun _ _ _ _ z => z
end K05
open PySem PySem.W PyProof.Rows
set_option maxRecDepth 100000 in
set_option maxHeartbeats 0 in
theorem PySem.Challenge.cw_windowdog_k05_whole_judged_right_holds : PySem.Challenge.rw_windowdog_k05_whole_judged_right.Holds := by
  w_on; o_law; k_head; (case hw => w_witness2)
  k_fill
  refine K05.walk (l := PySem.Challenge.rw_windowdog_k05_whole_judged_right) rfl rfl (fun w h Y => PySem.W.kIn_of Y) ?F
  case F =>
    intro w mg fa h KX G hmg
    refine' K05.law_at KX G hmg ?a_is_number ?l_is_number ?c_is_number ?k_is_number ?a_is_range ?l_is_range ?c_is_range ?k_is_range ?a_has_form ?l_has_form ?c_has_form ?k_has_form ?a_plans_in ?l_plans_in ?c_plans_in ?k_plans_in ?a_check_plan ?l_check_plan ?c_check_plan ?k_check_plan ?a_check_window ?l_check_window ?c_check_window ?k_check_window ?a_first_bite ?l_first_bite ?c_first_bite ?k_first_bite ?a_holds ?l_holds ?c_holds ?k_holds ?a_spread ?l_spread ?c_spread ?k_spread ?a_way_to ?l_way_to ?c_way_to ?k_way_to ?a_goals_of_rounds ?l_goals_of_rounds ?c_goals_of_rounds ?k_goals_of_rounds ?a_delays_of_rounds ?l_delays_of_rounds ?c_delays_of_rounds ?k_delays_of_rounds ?a_bite_of_rounds ?l_bite_of_rounds ?c_bite_of_rounds ?k_bite_of_rounds ?a_judged ?l_judged ?c_judged ?k_judged ?a_law_start ?l_law_start ?c_law_start ?k_law_start ?a_law_drawn ?l_law_drawn ?c_law_drawn ?k_law_drawn ?a_law_window ?l_law_window ?c_law_window ?k_law_window ?a_law_plan ?l_law_plan ?c_law_plan ?k_law_plan ?a_law_count ?l_law_count ?c_law_count ?k_law_count ?a_law_good ?l_law_good ?c_law_good ?k_law_good ?a_law_runs ?l_law_runs ?c_law_runs ?k_law_runs ?a_law_rows ?l_law_rows ?c_law_rows ?k_law_rows ?a_law_behind ?l_law_behind ?c_law_behind ?k_law_behind ?a_law_bites ?l_law_bites ?c_law_bites ?k_law_bites ?a_law ?l_law ?c_law ?k_law ?aC_Run ?a_Run_init ?i_Run_init ?l_Run_init ?c_Run_init ?k_Run_init ?a_Run_take ?i_Run_take ?l_Run_take ?c_Run_take ?k_Run_take ?a_Run_follow ?i_Run_follow ?l_Run_follow ?c_Run_follow ?k_Run_follow ?pg_Run ?hdd_Run ?po_Run ?sa_Run ?mk_Run ?kc_Run ?n_Run_delays ?n_Run_used ?n_Run_now ?n_Run_pats ?aC_Watcher ?a_Watcher_init ?i_Watcher_init ?l_Watcher_init ?c_Watcher_init ?k_Watcher_init ?a_Watcher_gap_behind_pat ?i_Watcher_gap_behind_pat ?l_Watcher_gap_behind_pat ?c_Watcher_gap_behind_pat ?k_Watcher_gap_behind_pat ?a_Watcher_gap_behind_work ?i_Watcher_gap_behind_work ?l_Watcher_gap_behind_work ?c_Watcher_gap_behind_work ?k_Watcher_gap_behind_work ?a_Watcher_gaps_ahead_of_pat ?i_Watcher_gaps_ahead_of_pat ?l_Watcher_gaps_ahead_of_pat ?c_Watcher_gaps_ahead_of_pat ?k_Watcher_gaps_ahead_of_pat ?a_Watcher_gaps_ahead_of_work ?i_Watcher_gaps_ahead_of_work ?l_Watcher_gaps_ahead_of_work ?c_Watcher_gaps_ahead_of_work ?k_Watcher_gaps_ahead_of_work ?pg_Watcher ?hdd_Watcher ?po_Watcher ?sa_Watcher ?mk_Watcher ?kc_Watcher ?n_Watcher_low ?n_Watcher_high ?n_Watcher_bitten ?n_Watcher_bite ?n_Watcher_too_soon ?n_Watcher_timely ?aC_PatWay ?a_PatWay_init ?i_PatWay_init ?l_PatWay_init ?c_PatWay_init ?k_PatWay_init ?a_PatWay_lead ?i_PatWay_lead ?l_PatWay_lead ?c_PatWay_lead ?k_PatWay_lead ?pg_PatWay ?hdd_PatWay ?po_PatWay ?sa_PatWay ?mk_PatWay ?kc_PatWay ?n_PatWay_watcher ?n_PatWay_gaps ?aC_WorkWay ?a_WorkWay_init ?i_WorkWay_init ?l_WorkWay_init ?c_WorkWay_init ?k_WorkWay_init ?a_WorkWay_lead ?i_WorkWay_lead ?l_WorkWay_lead ?c_WorkWay_lead ?k_WorkWay_lead ?pg_WorkWay ?hdd_WorkWay ?po_WorkWay ?sa_WorkWay ?mk_WorkWay ?kc_WorkWay ?n_WorkWay_watcher ?n_WorkWay_goal ?n_WorkWay_least ?n_WorkWay_gaps ?aC_RowWay ?a_RowWay_init ?i_RowWay_init ?l_RowWay_init ?c_RowWay_init ?k_RowWay_init ?a_RowWay_lead ?i_RowWay_lead ?l_RowWay_lead ?c_RowWay_lead ?k_RowWay_lead ?pg_RowWay ?hdd_RowWay ?po_RowWay ?sa_RowWay ?mk_RowWay ?kc_RowWay ?n_RowWay_ways ?n_RowWay_gaps ?aC_EitherWay ?a_EitherWay_init ?i_EitherWay_init ?l_EitherWay_init ?c_EitherWay_init ?k_EitherWay_init ?a_EitherWay_lead ?i_EitherWay_lead ?l_EitherWay_lead ?c_EitherWay_lead ?k_EitherWay_lead ?pg_EitherWay ?hdd_EitherWay ?po_EitherWay ?sa_EitherWay ?mk_EitherWay ?kc_EitherWay ?n_EitherWay_ways ?n_EitherWay_gaps ?aC_LoopWay ?a_LoopWay_init ?i_LoopWay_init ?l_LoopWay_init ?c_LoopWay_init ?k_LoopWay_init ?a_LoopWay_lead ?i_LoopWay_lead ?l_LoopWay_lead ?c_LoopWay_lead ?k_LoopWay_lead ?pg_LoopWay ?hdd_LoopWay ?po_LoopWay ?sa_LoopWay ?mk_LoopWay ?kc_LoopWay ?n_LoopWay_least ?n_LoopWay_turns ?n_LoopWay_goals ?n_LoopWay_gaps ?z_isinstance ?z_len ?z_int ?z_bool ?z_range ?z_list ?z_tuple ?z_str ?z_sum ?z_min ?z_reversed ?z_sorted ?z_set ?q_LONGEST_WORK ?q_MOST_TIMES ?q_LONGEST_ROW ?q_MOST_PLANS ?q_MOST_DEEP ?q_MOST_LOOPS ?q_GREATEST_HIGH
    (case a_is_number => k_is)
    (case l_is_number => k_is)
    (case c_is_number => k_is)
    (case k_is_number => k_is)
    (case a_is_range => k_is)
    (case l_is_range => k_is)
    (case c_is_range => k_is)
    (case k_is_range => k_is)
    (case a_has_form => k_is)
    (case l_has_form => k_is)
    (case c_has_form => k_is)
    (case k_has_form => k_is)
    (case a_plans_in => k_is)
    (case l_plans_in => k_is)
    (case c_plans_in => k_is)
    (case k_plans_in => k_is)
    (case a_check_plan => k_is)
    (case l_check_plan => k_is)
    (case c_check_plan => k_is)
    (case k_check_plan => k_is)
    (case a_check_window => k_is)
    (case l_check_window => k_is)
    (case c_check_window => k_is)
    (case k_check_window => k_is)
    (case a_first_bite => k_is)
    (case l_first_bite => k_is)
    (case c_first_bite => k_is)
    (case k_first_bite => k_is)
    (case a_holds => k_is)
    (case l_holds => k_is)
    (case c_holds => k_is)
    (case k_holds => k_is)
    (case a_spread => k_is)
    (case l_spread => k_is)
    (case c_spread => k_is)
    (case k_spread => k_is)
    (case a_way_to => k_is)
    (case l_way_to => k_is)
    (case c_way_to => k_is)
    (case k_way_to => k_is)
    (case a_goals_of_rounds => k_is)
    (case l_goals_of_rounds => k_is)
    (case c_goals_of_rounds => k_is)
    (case k_goals_of_rounds => k_is)
    (case a_delays_of_rounds => k_is)
    (case l_delays_of_rounds => k_is)
    (case c_delays_of_rounds => k_is)
    (case k_delays_of_rounds => k_is)
    (case a_bite_of_rounds => k_is)
    (case l_bite_of_rounds => k_is)
    (case c_bite_of_rounds => k_is)
    (case k_bite_of_rounds => k_is)
    (case a_judged => k_is)
    (case l_judged => k_is)
    (case c_judged => k_is)
    (case k_judged => k_is)
    (case a_law_start => k_is)
    (case l_law_start => k_is)
    (case c_law_start => k_is)
    (case k_law_start => k_is)
    (case a_law_drawn => k_is)
    (case l_law_drawn => k_is)
    (case c_law_drawn => k_is)
    (case k_law_drawn => k_is)
    (case a_law_window => k_is)
    (case l_law_window => k_is)
    (case c_law_window => k_is)
    (case k_law_window => k_is)
    (case a_law_plan => k_is)
    (case l_law_plan => k_is)
    (case c_law_plan => k_is)
    (case k_law_plan => k_is)
    (case a_law_count => k_is)
    (case l_law_count => k_is)
    (case c_law_count => k_is)
    (case k_law_count => k_is)
    (case a_law_good => k_is)
    (case l_law_good => k_is)
    (case c_law_good => k_is)
    (case k_law_good => k_is)
    (case a_law_runs => k_is)
    (case l_law_runs => k_is)
    (case c_law_runs => k_is)
    (case k_law_runs => k_is)
    (case a_law_rows => k_is)
    (case l_law_rows => k_is)
    (case c_law_rows => k_is)
    (case k_law_rows => k_is)
    (case a_law_behind => k_is)
    (case l_law_behind => k_is)
    (case c_law_behind => k_is)
    (case k_law_behind => k_is)
    (case a_law_bites => k_is)
    (case l_law_bites => k_is)
    (case c_law_bites => k_is)
    (case k_law_bites => k_is)
    (case a_law => k_is)
    (case l_law => k_is)
    (case c_law => k_is)
    (case k_law => k_is)
    (case aC_Run => k_is)
    (case a_Run_init => k_is)
    (case i_Run_init => k_is)
    (case l_Run_init => k_is)
    (case c_Run_init => k_is)
    (case k_Run_init => k_is)
    (case a_Run_take => k_is)
    (case i_Run_take => k_is)
    (case l_Run_take => k_is)
    (case c_Run_take => k_is)
    (case k_Run_take => k_is)
    (case a_Run_follow => k_is)
    (case i_Run_follow => k_is)
    (case l_Run_follow => k_is)
    (case c_Run_follow => k_is)
    (case k_Run_follow => k_is)
    (case pg_Run => k_is)
    (case hdd_Run => k_is)
    (case po_Run => k_is)
    (case sa_Run => k_is)
    (case mk_Run => k_is)
    (case kc_Run => k_is)
    (case n_Run_delays => k_is)
    (case n_Run_used => k_is)
    (case n_Run_now => k_is)
    (case n_Run_pats => k_is)
    (case aC_Watcher => k_is)
    (case a_Watcher_init => k_is)
    (case i_Watcher_init => k_is)
    (case l_Watcher_init => k_is)
    (case c_Watcher_init => k_is)
    (case k_Watcher_init => k_is)
    (case a_Watcher_gap_behind_pat => k_is)
    (case i_Watcher_gap_behind_pat => k_is)
    (case l_Watcher_gap_behind_pat => k_is)
    (case c_Watcher_gap_behind_pat => k_is)
    (case k_Watcher_gap_behind_pat => k_is)
    (case a_Watcher_gap_behind_work => k_is)
    (case i_Watcher_gap_behind_work => k_is)
    (case l_Watcher_gap_behind_work => k_is)
    (case c_Watcher_gap_behind_work => k_is)
    (case k_Watcher_gap_behind_work => k_is)
    (case a_Watcher_gaps_ahead_of_pat => k_is)
    (case i_Watcher_gaps_ahead_of_pat => k_is)
    (case l_Watcher_gaps_ahead_of_pat => k_is)
    (case c_Watcher_gaps_ahead_of_pat => k_is)
    (case k_Watcher_gaps_ahead_of_pat => k_is)
    (case a_Watcher_gaps_ahead_of_work => k_is)
    (case i_Watcher_gaps_ahead_of_work => k_is)
    (case l_Watcher_gaps_ahead_of_work => k_is)
    (case c_Watcher_gaps_ahead_of_work => k_is)
    (case k_Watcher_gaps_ahead_of_work => k_is)
    (case pg_Watcher => k_is)
    (case hdd_Watcher => k_is)
    (case po_Watcher => k_is)
    (case sa_Watcher => k_is)
    (case mk_Watcher => k_is)
    (case kc_Watcher => k_is)
    (case n_Watcher_low => k_is)
    (case n_Watcher_high => k_is)
    (case n_Watcher_bitten => k_is)
    (case n_Watcher_bite => k_is)
    (case n_Watcher_too_soon => k_is)
    (case n_Watcher_timely => k_is)
    (case aC_PatWay => k_is)
    (case a_PatWay_init => k_is)
    (case i_PatWay_init => k_is)
    (case l_PatWay_init => k_is)
    (case c_PatWay_init => k_is)
    (case k_PatWay_init => k_is)
    (case a_PatWay_lead => k_is)
    (case i_PatWay_lead => k_is)
    (case l_PatWay_lead => k_is)
    (case c_PatWay_lead => k_is)
    (case k_PatWay_lead => k_is)
    (case pg_PatWay => k_is)
    (case hdd_PatWay => k_is)
    (case po_PatWay => k_is)
    (case sa_PatWay => k_is)
    (case mk_PatWay => k_is)
    (case kc_PatWay => k_is)
    (case n_PatWay_watcher => k_is)
    (case n_PatWay_gaps => k_is)
    (case aC_WorkWay => k_is)
    (case a_WorkWay_init => k_is)
    (case i_WorkWay_init => k_is)
    (case l_WorkWay_init => k_is)
    (case c_WorkWay_init => k_is)
    (case k_WorkWay_init => k_is)
    (case a_WorkWay_lead => k_is)
    (case i_WorkWay_lead => k_is)
    (case l_WorkWay_lead => k_is)
    (case c_WorkWay_lead => k_is)
    (case k_WorkWay_lead => k_is)
    (case pg_WorkWay => k_is)
    (case hdd_WorkWay => k_is)
    (case po_WorkWay => k_is)
    (case sa_WorkWay => k_is)
    (case mk_WorkWay => k_is)
    (case kc_WorkWay => k_is)
    (case n_WorkWay_watcher => k_is)
    (case n_WorkWay_goal => k_is)
    (case n_WorkWay_least => k_is)
    (case n_WorkWay_gaps => k_is)
    (case aC_RowWay => k_is)
    (case a_RowWay_init => k_is)
    (case i_RowWay_init => k_is)
    (case l_RowWay_init => k_is)
    (case c_RowWay_init => k_is)
    (case k_RowWay_init => k_is)
    (case a_RowWay_lead => k_is)
    (case i_RowWay_lead => k_is)
    (case l_RowWay_lead => k_is)
    (case c_RowWay_lead => k_is)
    (case k_RowWay_lead => k_is)
    (case pg_RowWay => k_is)
    (case hdd_RowWay => k_is)
    (case po_RowWay => k_is)
    (case sa_RowWay => k_is)
    (case mk_RowWay => k_is)
    (case kc_RowWay => k_is)
    (case n_RowWay_ways => k_is)
    (case n_RowWay_gaps => k_is)
    (case aC_EitherWay => k_is)
    (case a_EitherWay_init => k_is)
    (case i_EitherWay_init => k_is)
    (case l_EitherWay_init => k_is)
    (case c_EitherWay_init => k_is)
    (case k_EitherWay_init => k_is)
    (case a_EitherWay_lead => k_is)
    (case i_EitherWay_lead => k_is)
    (case l_EitherWay_lead => k_is)
    (case c_EitherWay_lead => k_is)
    (case k_EitherWay_lead => k_is)
    (case pg_EitherWay => k_is)
    (case hdd_EitherWay => k_is)
    (case po_EitherWay => k_is)
    (case sa_EitherWay => k_is)
    (case mk_EitherWay => k_is)
    (case kc_EitherWay => k_is)
    (case n_EitherWay_ways => k_is)
    (case n_EitherWay_gaps => k_is)
    (case aC_LoopWay => k_is)
    (case a_LoopWay_init => k_is)
    (case i_LoopWay_init => k_is)
    (case l_LoopWay_init => k_is)
    (case c_LoopWay_init => k_is)
    (case k_LoopWay_init => k_is)
    (case a_LoopWay_lead => k_is)
    (case i_LoopWay_lead => k_is)
    (case l_LoopWay_lead => k_is)
    (case c_LoopWay_lead => k_is)
    (case k_LoopWay_lead => k_is)
    (case pg_LoopWay => k_is)
    (case hdd_LoopWay => k_is)
    (case po_LoopWay => k_is)
    (case sa_LoopWay => k_is)
    (case mk_LoopWay => k_is)
    (case kc_LoopWay => k_is)
    (case n_LoopWay_least => k_is)
    (case n_LoopWay_turns => k_is)
    (case n_LoopWay_goals => k_is)
    (case n_LoopWay_gaps => k_is)
    (case z_isinstance => k_is)
    (case z_len => k_is)
    (case z_int => k_is)
    (case z_bool => k_is)
    (case z_range => k_is)
    (case z_list => k_is)
    (case z_tuple => k_is)
    (case z_str => k_is)
    (case z_sum => k_is)
    (case z_min => k_is)
    (case z_reversed => k_is)
    (case z_sorted => k_is)
    (case z_set => k_is)
    (case q_LONGEST_WORK => k_is)
    (case q_MOST_TIMES => k_is)
    (case q_LONGEST_ROW => k_is)
    (case q_MOST_PLANS => k_is)
    (case q_MOST_DEEP => k_is)
    (case q_MOST_LOOPS => k_is)
    (case q_GREATEST_HIGH => k_is)
