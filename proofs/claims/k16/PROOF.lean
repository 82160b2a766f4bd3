import PyProof.Rows.All
import Wide.All
import OpenK.AllK
import Wide.FinOn
import KE.KStateDown
import Lean
import HandS.Base
import HandS.Call
import HandS.List
import HandS.Comp
import HandS.Ends
import HandS.Dict
import HandS.Iter
import HandS.Exc
import HandS.TryOnly
import HandS.ExcOwn
import HandS.Words
import HandS.WordsList
import HandS.WordsDict
import HandS.WordsExc
import HandS.Wide
import HandS.IsInst
import HandS.ExcIs
import HandS.Defaults
import HandS.More
import HandS.Star
import HandS.ClsMeth
import HandS.MakeKw
import HandS.MakeKwOnly
import HandS.Conv
import HandS.TupMul
import HandS.TupLe
import HandS.Flow
import HandS.Zip
import HandS.CallLocal
import HandS.Head0
import HandS.Head1
import HandS.Head2
import HandS.HeadEnd
import HandS.HeadHook1
import HandS.HeadHook2
import PyProof.ReprLen
import HandS.Walk
import HandS.TupAny
import HandS.Style
import HandS.Codes
import PySem.Challenge.RW_sampleweave_k16_up_and_down
set_option Elab.async false
set_option linter.all false
set_option maxRecDepth 100000
set_option maxHeartbeats 0
namespace L2
open PySem PySem.Spec PyProof.Rows
/-! ## Own words, 1: defs that are called where no repr is under way -/
/-- as FnOk, but called only while no guard (a repr under way) is around -/
structure FnG (P : Program) (w : World) (K : PySem.W.Frag) (mg : Str → Option Value) (base : Heap) (CX : CXT) (k : Nat) (f : Addr) (fd : FuncData) (ps : List Str) (sp : Sp) : Prop where
  size : ∀ vs H Q E, sp vs H Q E → vs.length = ps.length
  goes : ∀ (A : Around) (outer : List Env) (s : Shared) (H : Hp) (args : Args) (us : List Value) (vs : List V) (Q : VK) (E : XK), Room k A → A.guards = some [] → Env0 P w K mg base A outer s H →
    BindsTo s fd args (ps.zip us) → Vals vs us → sp vs H Q E → codeAny (model P w) A (.call (.ref f) args) (CR CX outer P w H s Q E) s
section
variable {P : Program} {w : World} {K : PySem.W.Frag} {mg : Str → Option Value} {base : Heap} {CX : CXT} {k : Nat} {f : Addr} {fd : FuncData} {ps N : List Str} {sp : Sp} {x qual : Str} {params : Arguments} {body : List Stmt} {scope : Scope} {dvs : List V} {kws : List (Str × V)}
/-- a def's body, where the guards are known -/
theorem FunD.okG (F : FunD K x qual params body scope dvs kws f fd) (S : FnScope N ps scope) (size : ∀ vs H Q E, sp vs H Q E → vs.length = ps.length)
    (does : ∀ (cdv : Value) (A : Around) (outer : List Env) (s : Shared) (H : Hp) (vs : List V) (Q : VK) (E : XK), Room k (A.deeper (envOfC qual scope s.heap.objs.size f cdv)) → A.guards = some [] → sp vs H Q E →
      ∃ t, PSs (cxOf CX P w K mg base N qual scope f cdv A outer s H E) body t ∧ t { nx := fun _ H' => Q .non H', rt := Q } (start N vs) H) : FnG P w K mg base CX (k + 1) f fd ps sp := by
  obtain ⟨oc, od, dV, kV, doc, pm, an, cdv, ct, osl, rfl, lk, hcd, _, _⟩ := F.ex
  refine ⟨size, fun A outer s H args us vs Q E room guard env bind rel prom => ?_⟩
  have only : StX.Bnd CX P w K mg base (PySem.W.fnOf x qual params body scope dV kV doc pm an cdv ct) args ps A outer s H E (fun vs' H' => vs' = vs ∧ H' = H) :=
    fun A' Ex Q' h' => bind _ _ _ _ (h' s H vs us env Un.refl rfl (fun _ _ z => z) rel (size _ _ _ _ prom) ⟨rfl, rfl⟩)
  refine StX.run_bnd (k := k) lk hcd S room env only fun s2 H2 vs2 same room2 => ?_
  obtain ⟨rfl, rfl⟩ := same
  exact does cdv A outer s2 H2 vs2 Q E room2 guard prom
/-- a plain def is one of these too -/
theorem FnOk.toG (F : FnOk P w K mg base CX k f fd ps sp) : FnG P w K mg base CX k f fd ps sp := ⟨F.len, fun A outer s H args us vs Q E room _ env bind rel prom => F.run A outer s H args us vs Q E room env bind rel prom⟩
end
section
variable {X : Cx} {CX : CXT} {k i : Nat} {f : Addr} {fd : FuncData} {ps : List Str} {sp : Sp} {dvs : List V} {ds : List Value} {E : XK} {x : Str} {p pos : Pos} {e : Expr} {es : List Expr} {t : TA}
theorem goes_fn {pins : List (Addr × Obj)} {σ : St} {H : Hp} {s : Shared} {Q : VK} {us : List Value} {vs : List V} (F : FnG X.prog X.w X.K X.mg X.base CX k f fd ps sp) (room : Room k X.A) (guard : X.A.guards = some []) (hb : Binds X.K fd ps ds) (hd : Vals dvs ds)
    (hx : Passes CX X E) (I : Inv X pins σ H s) (rel : Vals vs us) (prom : sp (vs ++ dvs) H Q E) : wpAny (model X.prog X.w) X.A (call (.ref f) us) (EP X pins σ Q) X.xe s := by
  have both := rel.append hd
  have many : (us ++ ds).length = ps.length := both.length.symm.trans (F.size _ _ _ _ prom)
  refine wpAny_call (codeAny_mono (F.goes X.A X.stack s H ⟨us, []⟩ (us ++ ds) (vs ++ dvs) Q E room guard I.env0 (hb s us I.kIn many) both prom) ?_)
  rintro (_ | u | _ | _ | _ ) s' z
  all_goals first
    | exact hx pins σ H s _ s' I z
    | exact I.after z
    | exact z.elim
theorem pe_callG (F : FnG X.prog X.w X.K X.mg X.base CX k f fd ps sp) (room : Room k X.A) (guard : X.A.guards = some []) (hg : Gl X x) (hm : X.mg x = some (.ref f)) (hk : PySem.W.keepIn X.K (.ref f) = true) (hb : Binds X.K fd ps ds) (hd : Vals dvs ds)
    (hx : Passes CX X E) (ha : PA X (e :: es) t) (hdb : (x == ("__debug__" : Str)) = false := by decide) (he : starEach (e :: es) X.env = (false, eval e X.env) :: starEach es X.env := by rfl)
    (hpl : (backTo pos (starEach es X.env)).any (·.1) = false := by rfl) : PE X (.Call (.Name x p) (e :: es) [] pos) (tCall sp dvs E t) := by
  refine ⟨fun pins s σ H Q I h => wpAny_Call_Name_kw (ld_glob I hg hm ?_ hdb)⟩
  exact PySem.W.callWith_K (h₀ := X.base) I.ok.mod.kin hk (thn (ha.run pos pins s σ H _ I h) fun us s1 ⟨vs, H1, I1, r, q⟩ => ⟨I1.kIn, goes_fn F room guard hb hd hx I1 r q⟩) he hpl
end
/-- the law's call, its def being one of these -/
theorem law_goes {P : Program} {w : World} {K : PySem.W.Frag} {mg mb : Str → Option Value} {CX : CXT} {k : Nat} {fa a : Addr} {fd : FuncData} {x : Str} {sp : Sp} {s₁ : Shared} {vs : List Value} {ns : List Int}
    (inK : K.In s₁.heap) (glob : s₁.heap.Ns mainGlobals mg) (blt : s₁.heap.Ns builtinsNs mb) (boot : ∀ x : Str, x ≠ "__name__" → mb x = bootBuiltins x) (lim : s₁.heap.NoLimit) (gens : s₁.gens = #[])
    (scr : s₁.heap.get? a = some { cls := .type "list", data := .seq vs.toArray }) (nums : IntsAre vs ns) (few : ns.length ≤ sizeLine) (room : Room k callerA)
    (F : ∀ base : Heap, K.In base → base.Ns mainGlobals mg → FnG P w K mg base CX k fa fd [x] sp) (bind : ∀ (s : Shared) (u : Value), BindsTo s fd ⟨[u], []⟩ [(x, u)])
    (prom : ∀ H : Hp, Only H → SqL K H a (ns.map V.int) → sp [.ref a] H (fun v _ => v = .bl true) fun _ _ _ => False) (none_out : ∀ H e s', CX [] H s₁ (fun _ _ _ => False) e s' → False) :
    codeAny (model P w) callerA (.call (.ref fa) ⟨[.ref a], []⟩) (fun r s' => r = .ok (.ret (.bool true)) ∧ OldK s₁.heap s'.heap ∧ s'.os = s₁.os ∧ AllBare s'.gens) s₁ := by
  have rel := vals_ints nums
  have from_heap : ∀ H : Hp, (∀ b, H b = none ∨ (b = a ∧ K.lookup a = none ∧ H b = some (.frz { cls := .type "list", data := .seq vs.toArray } (.lst (ns.map V.int))))) → SqL K H a (ns.map V.int) →
      codeAny (model P w) callerA (.call (.ref fa) ⟨[.ref a], []⟩) (fun r s' => r = .ok (.ret (.bool true)) ∧ OldK s₁.heap s'.heap ∧ s'.os = s₁.os ∧ AllBare s'.gens) s₁ := by
    intro H which seen
    have small : Only H := fun b => (which b).imp id fun z => ⟨_, _, z.2.2⟩
    have space : ∀ {b : Addr} {m : Str → Option Value}, s₁.heap.Ns b m → (hidT s₁.heap H).Ns b m := by
      rintro b m ⟨o, es, ep, e, d, r⟩
      refine ⟨o, es, ep, hidT_get e ((which b).resolve_right fun ⟨eb, _⟩ => ?_), d, r⟩
      rw [eb, scr] at e
      cases e
      cases d
    have written : K.In (hidT s₁.heap H) := fun b o e => hidT_get (inK b o e) ((which b).resolve_right fun ⟨eb, n, _⟩ => by
      rw [eb, n] at e
      cases e)
    have fits : HOk P w H s₁.heap := fun b u z => by
      rcases which b with n | ⟨rfl, _, n⟩
      · rw [n] at z
        cases z
      · rw [n] at z
        cases z
        exact ⟨scr, by rw [List.length_map]; exact few, vs, _, rel, scr⟩
    obtain ⟨mc, c1, c2⟩ := lim
    have env : Env0 P w K mg (hidT s₁.heap H) callerA [] s₁ H :=
      ⟨rfl, ⟨written, space glob, ⟨mb, space blt, boot⟩, mc, space c1, c2⟩, fun _ _ e => of_hidT e, Nat.le_of_eq (hidT_size _ _), trivial, fun _ z => (List.not_mem_nil z).elim, fits, .of_eq gens⟩
    refine codeAny_mono ((F _ written (space glob)).goes callerA [] s₁ H ⟨[.ref a], []⟩ [.ref a] [.ref a] _ _ room rfl env (bind s₁ (.ref a)) (.cons rfl .nil) (prom H small seen)) ?_
    intro res s' z
    match res, z with
    | .error e, z => exact (none_out H e s' z).elim
    | .ok .next, z => exact z.elim
    | .ok .brk, z => exact z.elim
    | .ok .cont, z => exact z.elim
    | .ok (.ret u), z =>
      obtain ⟨v, H', os, bare, un, fits', rv, (rfl : v = V.bl true)⟩ := z
      obtain rfl : u = Value.bool true := rv
      refine ⟨rfl, OldK.of_keep fun b o e => ?_, os, bare⟩
      rcases which b with n | ⟨_, _, n⟩
      · exact un.keep b o e n (fun z => (List.not_mem_nil z).elim) List.not_mem_nil
      · obtain ⟨e1, _⟩ := fits b _ n
        obtain ⟨e2, _⟩ := fits' b _ (un.frzs b _ _ n)
        rw [e] at e1
        cases e1
        exact e2
  by_cases own : K.lookup a = none
  · refine from_heap (fun b => if b = a then some (.frz { cls := .type "list", data := .seq vs.toArray } (.lst (ns.map V.int))) else none) (fun b => ?_) (.inl (.inr ⟨_, if_pos rfl⟩))
    by_cases eb : b = a
    · exact .inr ⟨eb, own, if_pos eb⟩
    · exact .inl (if_neg eb)
  · obtain ⟨o, own⟩ := Option.ne_none_iff_exists'.mp own
    have e := inK a o own
    rw [scr] at e
    cases e
    exact from_heap (fun _ => none) (fun _ => .inl rfl) (.inr ⟨_, vs.toArray, _, own, rfl, rfl, rfl, by rw [List.size_toArray, nums.length]; exact few, by simpa using rel⟩)
theorem walk_goes {l : PySem.W.OpenLaw} {n k : Nat} {q : Program} {loose : List Str} {XP : (Str → Option Value) → Heap → Prop} {YP : World → Heap → Prop} {d : DefRec} {CX : CXT} {x : Str}
    (most : l.most = some n) (few : n ≤ sizeLine) (nodef : d.params.defaults = []) (room : Room k callerA)
    (F : ∀ (w : World) (mg : Str → Option Value) (fa : Addr) (h : Heap), YP w h → h.Ns mainGlobals mg → mg d.name = some (.ref fa) →
      ∃ (K : PySem.W.Frag) (fd : FuncData) (sp : Sp), K.In h ∧ (∀ (s : Shared) (u : Value), BindsTo s fd ⟨[u], []⟩ [(x, u)]) ∧
        (∀ (H : Hp) (a : Addr) (ns : List Int), ns.length ≤ n → Only H → SqL K H a (ns.map V.int) → sp [.ref a] H (fun v _ => v = .bl true) fun _ _ _ => False) ∧
        ∀ base : Heap, K.In base → base.Ns mainGlobals mg → FnG l.prog w K mg base CX k fa fd [x] sp)
    (none_out : ∀ (H : Hp) (s : Shared) (e : Value) (s' : Shared), CX [] H s (fun _ _ _ => False) e s' → False) : PySem.W.WalkO q loose XP YP l.row.toRowW d [] (fun f vs => PySem.call f vs) := by
  refine Att.attach_call most nodef ?_
  intro w s₀ s₁ mg mb fa o pm cd doc a vs ns G Y ho hd hcd named obj nums len gens
  obtain ⟨K, fd, sp, inK, bind, prom, does⟩ := F w mg fa _ Y G.T.g named
  exact law_goes inK G.T.g G.T.b G.T.builtins G.T.nolimit gens obj nums (Nat.le_trans len few) room does bind (fun H hO hS => prom H a ns len hO hS) fun H e s' => none_out H s₁ e s'
end L2
namespace L2
open PySem PySem.Spec PyProof.Rows
/-! ## Own words, 2: repr of data; a base class's def called by the class's name -/
section
variable {X : Cx}
/-- repr(x), x a list or a tuple of data -/
def rReprD (K : PySem.W.Frag) : List V → Hp → VK → Prop := fun xs H Q => ∃ (a : Addr) (d : PyData) (S : Str), xs = [.ref a] ∧ Dp K H (.ref a) d ∧ SeqAt.shaped d = true ∧ d.showable = true ∧ d.shown.length ≤ sizeLine ∧ d.shown = S ∧ Q (.str S) H
theorem call_reprD (guard : X.A.guards = some []) (units : X.A.units + 66 < cLine) : CallR X (.builtin "repr") (rReprD X.K) := by
  intro pins s σ H xs us Q I r h
  obtain ⟨a, d, S, rfl, dp, sh, sw, sz, rfl, q⟩ := h
  obtain ⟨u, rfl, ru⟩ := vals1 r
  obtain rfl : u = Value.ref a := ru
  obtain ⟨as, rd⟩ := Dp.reads I d _ _ dp rfl
  have dep := SeqAt.depth_of_shaped sh
  exact repr_of_reads' rd sw (PyData.noDict_hsm (PyData.hasDict_of_canLay d (SeqAt.canLay_of_shaped sh))) guard (by omega) (fun _ _ e => e) (fun h' u tk hk => ⟨.str d.shown, H, I.kept (t' := tk) hk, ⟨u, rfl⟩, q⟩) sz
/-- C.m(e, ..), C a class of one's own by name, m a def of its body -/
structure BaseM (K : PySem.W.Frag) (C : Addr) (m : Str) (f : Addr) : Prop where
  rd : PySem.W.readsIn K C (.type "type") = true
  ga : PySem.W.specialIn K (.ref C) "__getattribute__" = some (some (.builtin "type.__getattribute__"))
  at_ : PySem.W.findCls K (.ref C) (.type "type") m = some (.val (.ref f))
  kp : PySem.W.keepIn K (.ref f) = true
variable {CX : CXT} {k : Nat} {f C : Addr} {fd : FuncData} {ps : List Str} {sp : Sp} {dvs : List V} {ds : List Value} {E : XK} {x m : Str} {p pos apos : Pos} {e o : Expr} {es : List Expr} {ta : TE} {t : TA}
def tBase (C : Addr) (sp : Sp) (dvs : List V) (E : XK) (ta : TE) (t : TA) : TE := fun σ H Q => ta σ H fun x H1 => x = .ref C ∧ t σ H1 fun vs H2 => sp (vs ++ dvs) H2 Q E
theorem pe_base {pl : Sem Bool} (ho : PE X o ta) (b : BaseM X.K C m f) (F : FnOk X.prog X.w X.K X.mg X.base CX k f fd ps sp) (room : Room k X.A) (hb : Binds X.K fd ps ds) (hd : Vals dvs ds) (hx : Passes CX X E) (ha : PA X (e :: es) t)
    (hst : starEach (e :: es) X.env = (false, eval e X.env) :: starEach es X.env := by rfl) (hpl : (backTo pos (starEach es X.env)).any (·.1) = false := by rfl)
    (ht : eval (.Call (.Attribute o m apos) (e :: es) [] pos) X.env = (do
      let ov ← eval o X.env
      standAt apos.atName
      let (f, first) ← holding [ov] (getMethod ov m pl)
      callWith pos f first (backTo pos (starEach (e :: es) X.env)) (backToKw pos (keywordEach [] X.env))) := by rfl) :
    PE X (.Call (.Attribute o m apos) (e :: es) [] pos) (tBase C sp dvs E ta t) := by
  refine ⟨fun pins s σ H Q I h => ?_⟩
  refine PySem.W.methodCall_KW (pl := pl) (thn (ho.run pins s σ H _ I h) fun u s1 ⟨x, H1, I1, rx, ex, q⟩ => ?_) ht
  subst ex
  obtain rfl : u = Value.ref C := rx
  refine PySem.W.method_cls I1.kIn b.ga (PySem.W.cls_value I1.kIn b.rd b.at_ rfl ?_)
  have I2 := I1.tok (s1.toks + 1)
  exact PySem.W.callWith_K (first := []) (h₀ := X.base) I.ok.mod.kin b.kp (thn (ha.run pos pins _ σ H1 _ I2 q) fun us s2 ⟨vs, H2, I3, r, q2⟩ => ⟨I3.kIn, run_fn F room hb hd hx I3 r q2⟩) hst hpl
end
/-! ### how long a repr is -/
theorem shown_sum {B : Nat} : ∀ ds : List PyData, (∀ d ∈ ds, d.shown.length ≤ B) → ((PyData.shownAll ds).map (·.length)).sum ≤ B * ds.length
  | [], _ => by rw [PyData.shownAll]; exact Nat.zero_le _
  | d :: ds, h => by
    have h1 := h d List.mem_cons_self
    have h2 := shown_sum ds fun z hz => h z (List.mem_cons_of_mem _ hz)
    rw [PyData.shownAll, List.map_cons, List.sum_cons, List.length_cons, Nat.mul_succ]
    omega
theorem shown_list {B : Nat} {ds : List PyData} (h : ∀ d ∈ ds, d.shown.length ≤ B) : (PyData.shown (.list ds)).length ≤ (B + 2) * ds.length + 3 := by
  have h1 := shown_sum ds h
  have h2 := listText_len_le (PyData.shownAll ds)
  rw [PyData.shownAll_length] at h2
  rw [PyData.shown, Nat.add_mul]
  omega
theorem shown_tuple {B : Nat} {ds : List PyData} (h : ∀ d ∈ ds, d.shown.length ≤ B) : (PyData.shown (.tuple ds)).length ≤ (B + 2) * ds.length + 3 := by
  have h1 := shown_sum ds h
  have h2 := tupleText_len_le (PyData.shownAll ds)
  rw [PyData.shownAll_length] at h2
  rw [PyData.shown, Nat.add_mul]
  omega
theorem shown_num {i : Int} (h : i.natAbs.log2 < 1920) : (PyData.shown (.int i)).length ≤ 1921 := by
  exact int_text_len_1921 h
theorem log2_of {i : Int} {b : Nat} (h : i.natAbs < 2 ^ b) (h0 : 0 < b) (h1 : b ≤ 1920) : i.natAbs.log2 < 1920 := Nat.lt_of_lt_of_le (PySem.Flt.log2_lt_of h0 h) h1
end L2
namespace L2
open PySem PySem.Spec PyProof.Rows
/-! ## Own words, 3: a method called in a try; a local that holds one of some defs -/
section
variable {X : Cx} {CX : CXT} {k i : Nat} {f C : Addr} {fd : FuncData} {ps : List Str} {sp : Sp} {E : St → XK} {x m : Str} {p pos apos : Pos} {e o : Expr} {es : List Expr} {ta : TE} {t : TA}
def tMethT (C : Addr) (m : Str) (sp : Sp) (E : St → XK) (ta : TE) (t : TA) : TE := fun σ H Q => ta σ H fun x H1 => ∃ a dx fs, x = .ref a ∧ H1 a = some (.ins C dx fs) ∧ fs.lookup m = none ∧ t σ H1 fun vs H2 => sp (x :: vs) H2 Q (E σ)
theorem pe_methT {pl : Sem Bool} (ho : PE X o ta) (c : Cls X.K C) (hm : Meth X.K C m f) (F : FnOk X.prog X.w X.K X.mg X.base CX k f fd ps sp) (room : Room k X.A) (hb : Binds X.K fd ps []) (hx : ∀ σ, PassesAt CX X σ (E σ)) (ha : PA X (e :: es) t)
    (hst : starEach (e :: es) X.env = (false, eval e X.env) :: starEach es X.env := by rfl) (hpl : (backTo pos (starEach es X.env)).any (·.1) = false := by rfl)
    (ht : eval (.Call (.Attribute o m apos) (e :: es) [] pos) X.env = (do
      let ov ← eval o X.env
      standAt apos.atName
      let (f, first) ← holding [ov] (getMethod ov m pl)
      callWith pos f first (backTo pos (starEach (e :: es) X.env)) (backToKw pos (keywordEach [] X.env))) := by rfl) :
    PE X (.Call (.Attribute o m apos) (e :: es) [] pos) (tMethT C m sp E ta t) := by
  refine ⟨fun pins s σ H Q I h => ?_⟩
  refine PySem.W.methodCall_KW (pl := pl) (thn (ho.run pins s σ H _ I h) fun u s1 ⟨x, H1, I1, rx, a, dx, fs, ex, ea, l, q⟩ => ?_) ht
  subst ex
  obtain rfl : u = Value.ref a := rx
  refine getmeth_ok I1 ea c hm l (PySem.W.callWith_K (first := [.ref a]) (h₀ := X.base) I.ok.mod.kin hm.kp (thn (ha.run pos pins s1 σ H1 _ I1 q) fun us s2 ⟨vs, H2, I2, r, q2⟩ => ⟨I2.kIn, ?_⟩) hst hpl)
  exact run_fnS (us := .ref a :: us) (vs := .ref a :: vs) F room hb (hx σ) I2 (.cons rfl r) q2
/-- the i-th slot holds one of these defs, all of one promise -/
def tOneOf (i : Nat) (fs : List Addr) (sp : Sp) (t : TA) : TE := fun σ H Q => ∃ f, f ∈ fs ∧ σ[i]? = some (some (.ref f)) ∧ t σ H fun vs H1 => sp vs H1 Q E0
theorem pe_oneOf {fs : List Addr} (F : ∀ f, f ∈ fs → ∃ fd ps, FnG X.prog X.w X.K X.mg X.base CX0 k f fd ps sp ∧ PySem.W.keepIn X.K (.ref f) = true ∧ Binds X.K fd ps []) (room : Room k X.A) (guard : X.A.guards = some []) (hN : X.N[i]? = some x) (hv : Vis X.env.scope x) (ha : PA X (e :: es) t)
    (hdb : (x == ("__debug__" : Str)) = false := by decide) (hcd : (x == ("__classdict__" : Str)) = false := by decide) (he : starEach (e :: es) X.env = (false, eval e X.env) :: starEach es X.env := by rfl)
    (hpl : (backTo pos (starEach es X.env)).any (·.1) = false := by rfl) : PE X (.Call (.Name x p) (e :: es) [] pos) (tOneOf i fs sp t) := by
  refine ⟨fun pins s σ H Q I h => ?_⟩
  obtain ⟨f, hf, hs, q0⟩ := h
  obtain ⟨fd, ps, G, kp, hb⟩ := F f hf
  have look := (pe_var (pos := p) hN hv hdb hcd).run pins s σ H (fun v H1 => v = .ref f ∧ H1 = H) I ⟨.ref f, hs, rfl, rfl⟩
  refine wpAny_Call_Name_kw (thn look fun u s1 ⟨v, H1, I1, r1, ev, eH⟩ => ?_)
  subst ev eH
  obtain rfl : u = Value.ref f := r1
  refine PySem.W.callWith_K (h₀ := X.base) I.ok.mod.kin kp (thn (ha.run pos pins s1 σ _ _ I1 q0) fun us s2 ⟨vs, H2, I2, r, q⟩ => ⟨I2.kIn, ?_⟩) he hpl
  exact goes_fn (dvs := []) (E := E0) G room guard hb .nil pass0 I2 r (by rw [List.append_nil]; exact q)
end
end L2
namespace L2
open PySem PySem.Spec PyProof.Rows
/-! ## Own words, 4: a tuple times 0 or 1 -/
theorem tup_once (l : Addr) (items : Array Value) (n : Nat) (dd : Option Addr) (sl : Array (Option Value)) (u : Tok) :
    Meets (Builtin.«tuple.__mul__» ⟨[.ref l, .int 1 u], []⟩) (fun _ R s => s.heap.get? l = some { cls := .type "tuple", dict := dd, data := .seq items n, slots := sl } ∧ R (.ok (.ret (Value.ref l))) s) :=
  .of_wp fun prog w A R s h => by
    obtain ⟨hp, g, d, tk, os⟩ := s
    obtain ⟨at_, h⟩ := h
    have f1 := AutoSeq1.idx_int
    wp_walk using wpAny_loadPart' at_
    exact ⟨_, rfl, h⟩
theorem tup_never (l : Addr) (items : Array Value) (n : Nat) (dd : Option Addr) (sl : Array (Option Value)) (u : Tok) (c1 : items.isEmpty = false) :
    Meets (Builtin.«tuple.__mul__» ⟨[.ref l, .int 0 u], []⟩) (fun _ R s => s.heap.get? l = some { cls := .type "tuple", dict := dd, data := .seq items n, slots := sl } ∧ R (.ok (.ret (Value.ref s.heap.objs.size))) { s with heap := s.heap.push { cls := Value.type "tuple", data := Data.seq #[] }, toks := s.toks }) :=
  .of_wp fun prog w A R s h => by
    obtain ⟨hp, g, d, tk, os⟩ := s
    obtain ⟨at_, h⟩ := h
    have f1 := AutoSeq1.idx_int
    wp_walk using wpAny_loadPart' at_
    exact ⟨_, rfl, h⟩
/-- t * k, t a tuple that holds something, k from 0 on -/
def rTimes (K : PySem.W.Frag) : R2 := fun x y H Q => ∃ (l : Addr) (k : Nat) (xs : List V), x = .ref l ∧ y = .int (k : Int) ∧ SqT K H l xs ∧ xs ≠ [] ∧ k ≤ 1000 ∧ xs.length ≤ 1000 ∧ (k = 1 → Q (.ref l) H) ∧ (k ≠ 1 → ∀ p, H p = none → Q (.ref p) (upd H p (.tup (List.replicate k xs).flatten)))
theorem op_times {X : Cx} : OpR X (binaryOp .Mult) (rTimes X.K) := by
  intro pins s σ H x y v u Q I rx ry h
  obtain ⟨l, k, xs, rfl, rfl, hT, hne, h2, hz, q1, qn⟩ := h
  by_cases two : 2 ≤ k
  · exact op_repT pins s σ H _ _ v u Q I rx ry ⟨l, (k : Int), xs, rfl, rfl, hT, hne, by omega, by omega, hz, fun p hp => qn (by omega) p hp⟩
  · cases rx
    obtain ⟨t, rfl⟩ := ry
    obtain ⟨its, r, ⟨⟨cls, dd, data, sl⟩, ho, hc, n, hd⟩, hs⟩ := I.tuple hT
    simp only at hc hd
    subst hc hd
    have which : k = 0 ∨ k = 1 := by omega
    rcases which with rfl | rfl
    · have some_ : its.toArray.isEmpty = false := by
        cases its with
        | nil =>
          have e := r.length
          cases xs with
          | nil => exact absurd rfl hne
          | cons _ _ => cases e
        | cons _ _ => rfl
      refine wpAny_binaryOp_repeat_ref (T := "tuple") (U := "int") (by decide) ⟨_, ho, rfl⟩ (fun s' => typeIs_int s' 0 t) noFill_tuple_mul F.fills_int_mul F.slot_int_rmul repeat_tuple F.slot_int_index.lookup ?_
      refine call_meets F.slot_int_rmul (typeIs_int s 0 t) F.entry_int_rmul (F.args_int_rmul_2 _ _) (int_rmul_tuple 0 t l its.toArray n dd sl) ⟨ho, rfl, ⟨_, ho, rfl⟩, ?_⟩
      refine call_meets F.slot_tuple_mul ⟨_, ho, rfl⟩ F.entry_tuple_mul (F.args_tuple_mul_2 _ _) (tup_never l its.toArray n dd sl t some_) ⟨ho, ?_⟩
      have fresh := I.hok.fresh (Nat.le_refl s.heap.objs.size)
      refine ⟨.ref s.heap.objs.size, _, I.laid (t' := s.toks) (o := .tup []) (fun b ob q => Heap.get?_push_of_some _ q) (Nat.le_refl _) ?_, rfl, qn (by decide) _ fresh⟩
      exact ⟨Nat.zero_le _, [], .nil, IsTup.new _ _⟩
    · refine wpAny_binaryOp_repeat_ref (T := "tuple") (U := "int") (by decide) ⟨_, ho, rfl⟩ (fun s' => typeIs_int s' 1 t) noFill_tuple_mul F.fills_int_mul F.slot_int_rmul repeat_tuple F.slot_int_index.lookup ?_
      refine call_meets F.slot_int_rmul (typeIs_int s 1 t) F.entry_int_rmul (F.args_int_rmul_2 _ _) (int_rmul_tuple 1 t l its.toArray n dd sl) ⟨ho, rfl, ⟨_, ho, rfl⟩, ?_⟩
      refine call_meets F.slot_tuple_mul ⟨_, ho, rfl⟩ F.entry_tuple_mul (F.args_tuple_mul_2 _ _) (tup_once l its.toArray n dd sl t) ⟨ho, ?_⟩
      exact ⟨.ref l, H, I, rfl, q1 rfl⟩
end L2
namespace L2
open PySem PySem.Spec PyProof.Rows
/-! ## Own words, 5: one of two promises; the call of a value -/
section
variable {P : Program} {w : World} {K : PySem.W.Frag} {mg : Str → Option Value} {base : Heap} {CX : CXT} {k : Nat} {f : Addr} {fd : FuncData} {ps : List Str} {sp sp' : Sp}
theorem FnG.or (F : FnG P w K mg base CX k f fd ps sp) (F' : FnG P w K mg base CX k f fd ps sp') : FnG P w K mg base CX k f fd ps (fun vs H Q E => sp vs H Q E ∨ sp' vs H Q E) := by
  refine ⟨fun vs H Q E h => h.elim (F.size vs H Q E) (F'.size vs H Q E), fun A outer s H args us vs Q E room guard env bind rel h => ?_⟩
  rcases h with h | h
  · exact F.goes A outer s H args us vs Q E room guard env bind rel h
  · exact F'.goes A outer s H args us vs Q E room guard env bind rel h
theorem FnOk.or (F : FnOk P w K mg base CX k f fd ps sp) (F' : FnOk P w K mg base CX k f fd ps sp') : FnOk P w K mg base CX k f fd ps (fun vs H Q E => sp vs H Q E ∨ sp' vs H Q E) := by
  refine ⟨fun vs H Q E h => h.elim (F.len vs H Q E) (F'.len vs H Q E), fun A outer s H args us vs Q E room env bind rel h => ?_⟩
  rcases h with h | h
  · exact F.run A outer s H args us vs Q E room env bind rel h
  · exact F'.run A outer s H args us vs Q E room env bind rel h
end
section
variable {X : Cx} {k : Nat} {sp : Sp} {pos : Pos} {fe e : Expr} {es : List Expr} {tf : TE} {t : TA}
def tCallOf (fs : List Addr) (sp : Sp) (tf : TE) (t : TA) : TE := fun σ H Q => tf σ H fun y H1 => ∃ f, f ∈ fs ∧ y = .ref f ∧ t σ H1 fun vs H2 => sp vs H2 Q E0
theorem pe_callOf {fs : List Addr} (hf : PE X fe tf) (F : ∀ f, f ∈ fs → ∃ fd ps, FnOk X.prog X.w X.K X.mg X.base CX0 k f fd ps sp ∧ PySem.W.keepIn X.K (.ref f) = true ∧ Binds X.K fd ps []) (room : Room k X.A) (ha : PA X (e :: es) t)
    (ht : eval (.Call fe (e :: es) [] pos) X.env = (do callWith pos (← eval fe X.env) [] (backTo pos (starEach (e :: es) X.env)) (backToKw pos (keywordEach [] X.env))) := by rfl)
    (he : starEach (e :: es) X.env = (false, eval e X.env) :: starEach es X.env := by rfl) (hpl : (backTo pos (starEach es X.env)).any (·.1) = false := by rfl) : PE X (.Call fe (e :: es) [] pos) (tCallOf fs sp tf t) := by
  refine ⟨fun pins s σ H Q I h => ?_⟩
  refine Call_ (thn (hf.run pins s σ H _ I h) fun u s1 ⟨y, H1, I1, ry, f, hm, ey, q⟩ => ?_) ht
  subst ey
  obtain rfl : u = Value.ref f := ry
  obtain ⟨fd, ps, G, kp, hb⟩ := F f hm
  refine PySem.W.callWith_K (h₀ := X.base) I.ok.mod.kin kp (thn (ha.run pos pins s1 σ H1 _ I1 q) fun us s2 ⟨vs, H2, I2, r, q2⟩ => ⟨I2.kIn, ?_⟩) he hpl
  exact run_fn (dvs := []) (E := E0) G room hb .nil pass0 I2 r (by rw [List.append_nil]; exact q2)
end
end L2
universe u
namespace L2
open PySem PySem.Spec PyProof.Rows
/-! ## Own words, 6: a method of an object of one of some sorts; isinstance against a base class -/
/-- a sort's method and its promise -/
structure MethC (P : Program) (w : World) (K : PySem.W.Frag) (mg : Str → Option Value) (base : Heap) (k : Nat) (m : Str) (ps : List Str) (sp : Sp) (C : Addr) : Prop where
  ex : ∃ f fd, Cls K C ∧ Meth K C m f ∧ FnOk P w K mg base CX0 k f fd ps sp ∧ Binds K fd ps []
section
variable {X : Cx} {k : Nat} {α : Type u} {As : List α} {cl : α → Addr} {sp : α → Sp} {m : Str} {ps : List Str} {pos apos : Pos} {o e : Expr} {es : List Expr} {ta : TE} {t : TA}
def tMethOf (As : List α) (cl : α → Addr) (m : Str) (sp : α → Sp) (ta : TE) (t : TA) : TE := fun σ H Q => ta σ H fun x H1 => ∃ (A : α) (a dx : Addr) (fs : List (Str × V)), A ∈ As ∧ x = .ref a ∧ H1 a = some (.ins (cl A) dx fs) ∧ fs.lookup m = none ∧ t σ H1 fun vs H2 => sp A (x :: vs) H2 Q E0
theorem pe_methOf {pl : Sem Bool} (he : PE X o ta) (F : ∀ A, A ∈ As → MethC X.prog X.w X.K X.mg X.base k m ps (sp A) (cl A)) (hr : Room k X.A) (ha : PA X (e :: es) t)
    (hst : starEach (e :: es) X.env = (false, eval e X.env) :: starEach es X.env := by rfl) (hpl : (backTo pos (starEach es X.env)).any (·.1) = false := by rfl)
    (ht : eval (.Call (.Attribute o m apos) (e :: es) [] pos) X.env = (do
      let ov ← eval o X.env
      standAt apos.atName
      let (f, first) ← holding [ov] (getMethod ov m pl)
      callWith pos f first (backTo pos (starEach (e :: es) X.env)) (backToKw pos (keywordEach [] X.env))) := by rfl) :
    PE X (.Call (.Attribute o m apos) (e :: es) [] pos) (tMethOf As cl m sp ta t) := by
  refine ⟨fun pins s σ H Q I h => ?_⟩
  refine PySem.W.methodCall_KW (pl := pl) (thn (he.run pins s σ H _ I h) fun u s1 ⟨x, H1, I1, rx, A, a, dx, fs, hA, ex, ea, l, q⟩ => ?_) ht
  subst ex
  obtain rfl : u = Value.ref a := rx
  obtain ⟨f, fd, c, hm, G, hb⟩ := (F A hA).ex
  refine getmeth_ok I1 ea c hm l ?_
  refine PySem.W.callWith_K (first := [.ref a]) (h₀ := X.base) I.ok.mod.kin hm.kp (thn (ha.run pos pins s1 σ H1 _ I1 q) fun us s2 ⟨vs, H2, I2, r, q2⟩ => ⟨I2.kIn, ?_⟩) hst hpl
  exact run_fn (us := .ref a :: us) (vs := .ref a :: vs) (dvs := []) (E := E0) G hr hb .nil pass0 I2 (.cons rfl r) (by rw [List.append_nil]; exact q2)
theorem pe_methOf0 {pl : Sem Bool} (he : PE X o ta) (F : ∀ A, A ∈ As → MethC X.prog X.w X.K X.mg X.base k m ps (sp A) (cl A)) (hr : Room k X.A)
    (ht : eval (.Call (.Attribute o m apos) [] [] pos) X.env = (do
      let ov ← eval o X.env
      standAt apos.atName
      let (f, first) ← holding [ov] (getMethod ov m pl)
      callWith pos f first (backTo pos (starEach [] X.env)) (backToKw pos (keywordEach [] X.env))) := by rfl) :
    PE X (.Call (.Attribute o m apos) [] [] pos) (tMethOf As cl m sp ta tNil) := by
  refine ⟨fun pins s σ H Q I h => ?_⟩
  refine PySem.W.methodCall_KW (pl := pl) (thn (he.run pins s σ H _ I h) fun u s1 ⟨x, H1, I1, rx, A, a, dx, fs, hA, ex, ea, l, q⟩ => ?_) ht
  subst ex
  obtain rfl : u = Value.ref a := rx
  obtain ⟨f, fd, c, hm, G, hb⟩ := (F A hA).ex
  refine getmeth_ok I1 ea c hm l ?_
  exact PySem.W.callWith_K0 (first := [.ref a]) I1.kIn hm.kp (run_fn (us := [.ref a]) (vs := [.ref a]) (dvs := []) (E := E0) G hr hb .nil pass0 I1 (.cons rfl .nil) q)
end
section
variable {P : Program} {w : World} {K : PySem.W.Frag} {mg : Str → Option Value} {base : Heap} {CX : CXT} {k : Nat} {f : Addr} {fd : FuncData} {ps : List Str} {α : Type u} {As : List α} {sp : α → Sp}
theorem FnG.any (F : ∀ A, A ∈ As → FnG P w K mg base CX k f fd ps (sp A)) : FnG P w K mg base CX k f fd ps (fun vs H Q E => ∃ A, A ∈ As ∧ sp A vs H Q E) :=
  ⟨fun vs H Q E ⟨A, hA, h⟩ => (F A hA).size vs H Q E h, fun A outer s H args us vs Q E room guard env bind rel ⟨B, hB, h⟩ => (F B hB).goes A outer s H args us vs Q E room guard env bind rel h⟩
end
/-- what isinstance(o, CN) asks of o's class -/
structure InsC (K : PySem.W.Frag) (C CN : Addr) : Prop where
  ha : PySem.W.findIn K (.ref C) "__class__" = some (some (.builtin "object.__class__"))
  hn : PySem.W.specialIn K (.builtin "object.__class__") "__get__" = some (some (.builtin "getset_descriptor.__get__"))
  tk : PySem.W.takesIn K (.builtin "object.__class__") = some true
  mr : PySem.W.mroIn K C (.type "object") = some true
  kit : PySem.W.kitOne K (.ref C) (.ref CN) = some true
def insB (K : PySem.W.Frag) (C CN : Addr) : Bool :=
  decide (PySem.W.findIn K (.ref C) "__class__" = some (some (.builtin "object.__class__"))) && (decide (PySem.W.specialIn K (.builtin "object.__class__") "__get__" = some (some (.builtin "getset_descriptor.__get__"))) &&
  (decide (PySem.W.takesIn K (.builtin "object.__class__") = some true) && (decide (PySem.W.mroIn K C (.type "object") = some true) && decide (PySem.W.kitOne K (.ref C) (.ref CN) = some true))))
theorem insB_ok {K : PySem.W.Frag} {C CN : Addr} (h : insB K C CN = true) : InsC K C CN := by
  obtain ⟨h1, h⟩ := He.ba h
  obtain ⟨h2, h⟩ := He.ba h
  obtain ⟨h3, h⟩ := He.ba h
  obtain ⟨h4, h5⟩ := He.ba h
  exact ⟨of_decide_eq_true h1, of_decide_eq_true h2, of_decide_eq_true h3, of_decide_eq_true h4, of_decide_eq_true h5⟩
theorem InsC.ty {K : PySem.W.Frag} {C CN a dx : Addr} {H : Hp} {fs : List (Str × V)} (i : InsC K C CN) (c : Cls K C) (h : H a = some (.ins C dx fs)) : TyX K H (.ref a) (.ref C) := .base (.ins h c i.ha i.hn i.tk i.mr)
end L2
namespace Sw
open PySem PySem.Spec PyProof.Rows L2
/-! ### 1. the text by places -/
def top (i : Nat) : Stmt := PySem.Challenge.pw_sampleweave_k16_up_and_down.main.body.getD i (.Pass ⟨0, 0, 0, 0⟩)
abbrev FnP (K : PySem.W.Frag) (x : Str) (st : Stmt) (f : Addr) (fd : FuncData) : Prop := FunD K x x (defArgs st) (defBody st) (defScope st) [] [] f fd
abbrev sWall : Stmt := top 0
abbrev sNoNodeInit : Stmt := inClass (top 3) 0
abbrev sWhole : Stmt := top 5
abbrev sWithin : Stmt := top 6
abbrev sTruth : Stmt := top 7
abbrev sNeed : Stmt := top 8
abbrev sFiring : Stmt := top 10
abbrev sNodeInit : Stmt := inClass (top 14) 0
abbrev sNodeTakes : Stmt := inClass (top 14) 1
abbrev sNodeGives : Stmt := inClass (top 14) 2
abbrev sNodeLate : Stmt := inClass (top 14) 3
abbrev sNodeBegin : Stmt := inClass (top 14) 4
abbrev sNodeFresh : Stmt := inClass (top 14) 5
abbrev sNodeFire : Stmt := inClass (top 14) 6
abbrev sNodeBegun : Stmt := inClass (top 14) 7
abbrev sNodeShown : Stmt := inClass (top 14) 8
abbrev sUpInit : Stmt := inClass (top 17) 0
abbrev sUpTakes : Stmt := inClass (top 17) 1
abbrev sUpGives : Stmt := inClass (top 17) 2
abbrev sUpLate : Stmt := inClass (top 17) 3
abbrev sUpBegin : Stmt := inClass (top 17) 4
abbrev sUpFresh : Stmt := inClass (top 17) 5
abbrev sUpFire : Stmt := inClass (top 17) 6
abbrev sUpWork : Stmt := inClass (top 17) 7
abbrev sUpBegun : Stmt := inClass (top 17) 8
abbrev sUpEq : Stmt := inClass (top 17) 9
abbrev sUpRepr : Stmt := inClass (top 17) 10
abbrev sDownInit : Stmt := inClass (top 18) 0
abbrev sDownTakes : Stmt := inClass (top 18) 1
abbrev sDownGives : Stmt := inClass (top 18) 2
abbrev sDownLate : Stmt := inClass (top 18) 3
abbrev sDownBegin : Stmt := inClass (top 18) 4
abbrev sDownFresh : Stmt := inClass (top 18) 5
abbrev sDownFire : Stmt := inClass (top 18) 6
abbrev sDownWork : Stmt := inClass (top 18) 7
abbrev sDownBegun : Stmt := inClass (top 18) 8
abbrev sDownEq : Stmt := inClass (top 18) 9
abbrev sDownRepr : Stmt := inClass (top 18) 10
abbrev sCell : Stmt := top 20
abbrev sPot : Stmt := top 21
abbrev sDraw : Stmt := top 22
abbrev sNumber : Stmt := top 23
abbrev sLMade : Stmt := top 24
abbrev sLaw : Stmt := top 25
/-! ### 2. pots -/
/-- all but what stands at p is as it was -/
def Kept (p : Addr) (H H' : Hp) : Prop := ∀ b o, b ≠ p → H b = some o → H' b = some o
theorem Kept.refl {p : Addr} {H : Hp} : Kept p H H := fun _ _ _ h => h
theorem Kept.trans {p : Addr} {H H1 H2 : Hp} (a : Kept p H H1) (b : Kept p H1 H2) : Kept p H H2 := fun c o n h => b c o n (a c o n h)
theorem Kept.upd {p : Addr} {H H1 : Hp} {o : HO} (a : Kept p H H1) : Kept p H (upd H1 p o) := fun c o n h => by
  rw [upd_ne n]
  exact a c o n h
theorem Kept.new {p q : Addr} {H H1 : Hp} {o : HO} (a : Kept p H H1) (h : H1 q = none) : Kept p H (L2.upd H1 q o) := fun c o n e => by
  have e1 := a c o n e
  rw [upd_ne (ne_of_none e1 h)]
  exact e1
theorem Kept.same {p : Addr} {H H1 : Hp} (a : Same H H1) : Kept p H H1 := fun c o _ e => a c o e
/-- behind a heap in which nothing stood at p -/
theorem Same.kept {p : Addr} {H0 H H1 : Hp} (s : Same H0 H) (h : H0 p = none) (k : Kept p H H1) : Same H0 H1 := fun b o e =>
  k b o (fun z => by rw [z, h] at e; cases e) (s b o e)
theorem Same.new {H H1 : Hp} {q : Addr} {o : HO} (a : Same H H1) (h : H1 q = none) : Same H (upd H1 q o) := fun c u e => by
  have e1 := a c u e
  rw [upd_ne (ne_of_none e1 h)]
  exact e1
/-- a pot: two numbers from 0 on, the second one small -/
def PotAt (H : Hp) (p : Addr) : Prop := ∃ a b : Int, 0 ≤ a ∧ 0 ≤ b ∧ b < 2147483647 ∧ H p = some (.lst [.int a, .int b])
theorem PotAt.keep {H H1 : Hp} {p : Addr} (h : PotAt H p) (s : Same H H1) : PotAt H1 p := by
  obtain ⟨a, b, h1, h2, h3, h4⟩ := h
  exact ⟨a, b, h1, h2, h3, s _ _ h4⟩
/-! ### 3. promises -/
def spCell (K : PySem.W.Frag) : Sp := fun vs H Q _ => ∃ (a : Addr) (ns : List Int) (k : Nat), vs = [.ref a, .int (k : Int)] ∧ SqL K H a (ns.map V.int) ∧ ∀ c : Int, Q (.int c) H
def spPot : Sp := fun vs H Q _ => ∃ c : Int, vs = [.int c] ∧ ∀ (p : Addr) (H' : Hp), H p = none → Same H H' → PotAt H' p → Q (.ref p) H'
def spDraw : Sp := fun vs H Q _ => ∃ (p : Addr) (m : Int), vs = [.ref p, .int m] ∧ PotAt H p ∧ 0 < m ∧ m < 2 ^ 64 ∧ ∀ (d : Int) (H' : Hp), 0 ≤ d → d < m → Kept p H H' → PotAt H' p → Q (.int d) H'
def spNumber : Sp := fun vs H Q _ => ∃ p : Addr, vs = [.ref p] ∧ PotAt H p ∧ ∀ (d : Int) (H' : Hp), -(10 ^ 56) < d → d < 10 ^ 56 → Kept p H H' → PotAt H' p → Q (.int d) H'
section
variable {P : Program} {w : World} {K : PySem.W.Frag} {mg : Str → Option Value} {base : Heap} {f f1 f2 f3 f4 f5 f6 C CW CN : Addr} {fd fd1 fd2 fd3 fd4 fd5 fd6 : FuncData}
theorem scCell : FnScope ["_law_script", "_law_k"] ["_law_script", "_law_k"] (defScope sCell) := ⟨rfl, rfl, rfl, by decide +kernel, rfl, by decide +kernel, by decide +kernel⟩
theorem ok_cell (F : FnP K "_law_cell" sCell f fd) (gLen : mg "len" = none) : FnOk P w K mg base CX0 1 f fd ["_law_script", "_law_k"] (spCell K) := by
  refine F.ok scCell (fun vs H Q E h => ?_) (fun cdv A outer s H vs Q E hr h => ?_)
  · obtain ⟨a, ns, k, rfl, _⟩ := h
    rfl
  · obtain ⟨a, ns, k, rfl, hS, kk⟩ := h
    refine ⟨_, PSs.nox (pss_one (ps_ret (pe_ifExp (pt_cmpR op_lt (pv 1) (pe_callB call_len_seq (by rfl) gLen PySem.boot_len (pa_cons (pv 0) pa_nil)) (nomark _)) (pe_ix ix_list (pv 0) (pv 1) (fun _ _ => rfl)) pe_int))), ?_⟩
    refine ⟨_, rfl, _, rfl, a, _, rfl, .inl hS, _, _, rfl, rfl, _, rfl, ?_⟩
    refine ite2 (fun h => ?_) (fun _ => kk 0)
    have h1 := of_decide_eq_true h
    rw [List.length_map] at h1
    have h2 : k < ns.length := by omega
    refine ⟨_, rfl, _, rfl, a, _, _, V.int (ns[k]), rfl, rfl, hS, atI_nat ?_, kk _⟩
    rw [List.getElem?_map, List.getElem?_eq_getElem h2]
    rfl
theorem scPot : FnScope ["_law_cell_here"] ["_law_cell_here"] (defScope sPot) := ⟨rfl, rfl, rfl, by decide +kernel, rfl, by decide +kernel, by decide +kernel⟩
theorem ok_pot (F : FnP K "_law_pot" sPot f fd) (gMax : mg "max" = none) : FnOk P w K mg base CX0 1 f fd ["_law_cell_here"] spPot := by
  refine F.ok scPot (fun vs H Q E h => ?_) (fun cdv A outer s H vs Q E hr h => ?_)
  · obtain ⟨c, rfl, _⟩ := h
    rfl
  · obtain ⟨c, rfl, kk⟩ := h
    refine ⟨_, PSs.nox (pss_one (ps_ret (pe_lst (pa_cons (pe_callB (call_max2 rfl) (by rfl) gMax (by decide +kernel) (pa_cons pe_int (pa_cons (pe_op op_sub (pv 0) (pe_op op_pow pe_int pe_int)) pa_nil)))
      (pa_cons (pe_op op_mod (pe_op op_add (pe_op op_mul (pe_op op_mod (pv 0) pe_int) pe_int) pe_int) pe_int) pa_nil))))), ?_⟩
    refine ⟨_, rfl, _, _, rfl, rfl, ⟨by decide, by decide, by decide⟩, _, _, rfl, rfl, _, _, rfl, ?_⟩
    have q0 := Int.emod_nonneg c (show (2147483629 : Int) ≠ 0 by decide)
    have q1 := Int.emod_lt_of_pos c (show (0 : Int) < 2147483629 by decide)
    refine ⟨_, rfl, _, _, rfl, rfl, (by show (0 : Int) < _; decide), _, _, rfl, rfl, .inr ⟨by decide, by decide⟩, _, _, rfl, rfl, _, _, rfl, rfl, (by show (0 : Int) < _; decide), ?_⟩
    refine ⟨(by show 2 ≤ sizeLine; decide), fun p hp => kk p _ hp (Same.new (Same.refl _) hp) ⟨_, _, ?_, ?_, ?_, upd_same⟩⟩
    · split
      · omega
      · decide
    · exact Int.emod_nonneg _ (by decide)
    · exact Int.emod_lt_of_pos _ (by decide)
theorem scDraw : FnScope ["_law_pot_here", "_law_base", "_law_digit"] ["_law_pot_here", "_law_base"] (defScope sDraw) := ⟨rfl, rfl, rfl, by decide +kernel, rfl, by decide +kernel, by decide +kernel⟩
theorem div_wide {i m : Int} (h0 : 0 < m) (h1 : m < 2 ^ 64) : CDivW i m := wide_div (b := 64) h0 (by omega) (by decide) (by decide)
theorem ok_draw (F : FnP K "_law_draw" sDraw f fd) : FnOk P w K mg base CX0 1 f fd ["_law_pot_here", "_law_base"] spDraw := by
  refine F.ok scDraw (fun vs H Q E h => ?_) (fun cdv A outer s H vs Q E hr h => ?_)
  · obtain ⟨p, m, rfl, _⟩ := h
    rfl
  · obtain ⟨p, m, rfl, ⟨a, b, a0, b0, b1, hp⟩, m0, m1, kk⟩ := h
    refine ⟨_, PSs.nox (pss_cons (ps_if (pt_cmpR op_gt (pe_ix ix_list (pv 0) pe_int (fun _ _ => rfl)) pe_int (nomark _))
        (pss_cons (ps_set (i := 2) scDraw.nd rfl (Or.inl rfl) (pe_op op_mod (pe_ix ix_list (pv 0) pe_int (fun _ _ => rfl)) (pv 1)))
          (pss_cons (ps_asg (pe_op op_fdivW (pe_ix ix_list (pv 0) pe_int (fun _ _ => rfl)) (pv 1)) (pg_sub (pv 0) pe_int set_list (by intro _; rfl)))
            (pss_one (ps_ret (pv 2))))) pss_nil)
      (pss_cons (ps_asg (pe_op op_mod (pe_op op_add (pe_op op_mul (pe_ix ix_list (pv 0) pe_int (fun _ _ => rfl)) pe_int) pe_int) pe_int) (pg_sub (pv 0) pe_int set_list (by intro _; rfl)))
        (pss_one (ps_ret (pe_op op_mod (pe_op op_fdiv (pe_op op_mod (pe_op op_mul (pe_ix ix_list (pv 0) pe_int (fun _ _ => rfl)) (pe_ix ix_list (pv 0) pe_int (fun _ _ => rfl))) pe_int) pe_int) (pv 1)))))), ?_⟩
    refine ⟨_, rfl, p, _, _, _, rfl, rfl, SqL.of hp, atI_nat (j := 0) rfl, _, _, rfl, rfl, _, rfl, ?_⟩
    refine ite2 (fun h => ?_) (fun _ => ?_)
    · refine ⟨_, rfl, p, _, _, _, rfl, rfl, SqL.of hp, atI_nat (j := 0) rfl, _, rfl, _, _, rfl, rfl, m0, ?_⟩
      refine ⟨_, rfl, p, _, _, _, rfl, rfl, SqL.of hp, atI_nat (j := 0) rfl, _, rfl, _, _, rfl, rfl, div_wide m0 m1, ?_⟩
      refine ⟨_, rfl, p, _, _, 0, rfl, rfl, hp, rfl, ?_⟩
      refine ⟨_, rfl, kk _ _ (Int.emod_nonneg _ (by omega)) (Int.emod_lt_of_pos _ m0) (Kept.upd Kept.refl) ⟨_, _, Int.ediv_nonneg a0 (by omega), b0, b1, upd_same⟩⟩
    · refine ⟨_, rfl, p, _, _, _, rfl, rfl, SqL.of hp, atI_nat (j := 1) rfl, _, _, rfl, rfl, .inr ⟨by decide, by decide⟩, _, _, rfl, rfl, _, _, rfl, rfl, (by show (0 : Int) < _; decide), ?_⟩
      refine ⟨_, rfl, p, _, _, 1, rfl, rfl, hp, rfl, ?_⟩
      have c0 := Int.emod_nonneg (b * 39373 + 8191) (show (2147483587 : Int) ≠ 0 by decide)
      have c1 := Int.emod_lt_of_pos (b * 39373 + 8191) (show (0 : Int) < 2147483587 by decide)
      have hq : (upd H p (.lst ([V.int a, V.int b].set 1 (V.int ((b * 39373 + 8191) % 2147483587))))) p = some (.lst [V.int a, V.int ((b * 39373 + 8191) % 2147483587)]) := upd_same
      refine ⟨_, rfl, p, _, _, _, rfl, rfl, SqL.of hq, atI_nat (j := 1) rfl, _, rfl, p, _, _, _, rfl, rfl, SqL.of hq, atI_nat (j := 1) rfl, _, _, rfl, rfl, .inl ⟨by omega, by omega⟩, ?_⟩
      refine ⟨_, _, rfl, rfl, (by show (0 : Int) < _; decide), _, _, rfl, rfl, ⟨by decide, by decide⟩, _, rfl, _, _, rfl, rfl, m0, ?_⟩
      exact kk _ _ (Int.emod_nonneg _ (by omega)) (Int.emod_lt_of_pos _ m0) (Kept.upd Kept.refl) ⟨_, _, a0, c0, by omega, hq⟩
theorem scNumber : FnScope ["_law_pot_here", "_law_way", "_law_found", "_law_k"] ["_law_pot_here"] (defScope sNumber) := ⟨rfl, rfl, rfl, by decide +kernel, rfl, by decide +kernel, by decide +kernel⟩
def tabM : List V := [.int 21, .int 21, .int 21, .int 3, .int 201, .int 2001, .int (10 ^ 9)]
def tabO : List V := [.int 10, .int 10, .int 5, .int 1, .int 100, .int 1000, .int 500000000]
theorem tab_at {d : Int} (h0 : 0 < d) (h8 : d < 8) : ∃ m o : Int, atI tabM (d - 1) = some (.int m) ∧ atI tabO (d - 1) = some (.int o) ∧ 0 < m ∧ m ≤ 10 ^ 9 ∧ 0 ≤ o ∧ o ≤ 10 ^ 9 := by
  have : d = 1 ∨ d = 2 ∨ d = 3 ∨ d = 4 ∨ d = 5 ∨ d = 6 ∨ d = 7 := by omega
  rcases this with rfl | rfl | rfl | rfl | rfl | rfl | rfl
  all_goals exact ⟨_, _, rfl, rfl, by decide, by decide, by decide, by decide⟩
theorem ten_step {x d : Int} {i : Nat} (h0 : 0 ≤ x) (h1 : x < 10 ^ (14 * i)) (d0 : 0 ≤ d) (d1 : d < 10 ^ 14) : x * 10 ^ 14 + d < 10 ^ (14 * (i + 1)) := by
  rw [show 14 * (i + 1) = 14 * i + 14 by omega, Int.pow_add]
  generalize hy : (10 : Int) ^ (14 * i) = y at *
  omega
theorem ok_number (F : FnP K "_law_number" sNumber f fd) (FD : FnP K "_law_draw" sDraw f1 fd1) (gDraw : mg "_law_draw" = some (.ref f1)) (gRange : mg "range" = none) : FnOk P w K mg base CX0 2 f fd ["_law_pot_here"] spNumber := by
  have GD : FnOk P w K mg base CX0 1 f1 fd1 ["_law_pot_here", "_law_base"] spDraw := ok_draw FD
  have bD : Binds K fd1 ["_law_pot_here", "_law_base"] [] := FD.bindsN fun _ _ _ _ _ _ us hl => match us, hl with | [_, _], _ => rfl
  refine F.ok scNumber (fun vs H Q E h => ?_) (fun cdv A outer s H vs Q E hr h => ?_)
  · obtain ⟨p, rfl, _⟩ := h
    rfl
  · obtain ⟨p, rfl, hp, kk⟩ := h
    refine ⟨_, PSs.nox (pss_cons (ps_set (i := 1) scNumber.nd rfl (Or.inl rfl) (pe_call GD hr rfl gDraw FD.kp bD .nil pass0 (pa_cons (pv 0) (pa_cons pe_int pa_nil))))
      (pss_cons (ps_if (pt_cmpR op_eq (pv 1) pe_int (nomark _))
        (pss_cons (ps_set (i := 2) scNumber.nd rfl (Or.inl rfl) pe_int)
          (pss_cons (ps_for PassesOwn.never rfl (pi_range1 rfl gRange (pa_cons pe_int pa_nil)) (pg_name (i := 3) scNumber.nd rfl (Or.inl rfl))
              (pss_one (ps_set (i := 2) scNumber.nd rfl (Or.inl rfl) (pe_op op_add (pe_op op_mul (pv 2) (pe_op op_pow pe_int pe_int)) (pe_call GD hr rfl gDraw FD.kp bD .nil pass0 (pa_cons (pv 0) (pa_cons (pe_op op_pow pe_int pe_int) pa_nil)))))))
            (pss_one (ps_ret (pe_op op_mul (pv 2) (pe_op op_sub pe_int (pe_op op_mul pe_int (pe_call GD hr rfl gDraw FD.kp bD .nil pass0 (pa_cons (pv 0) (pa_cons pe_int pa_nil))))))))))
        pss_nil)
      (pss_one (ps_ret (pe_op op_sub (pe_call GD hr rfl gDraw FD.kp bD .nil pass0 (pa_cons (pv 0) (pa_cons (pe_ix ix_list
          (pe_lst (pa_cons pe_int (pa_cons pe_int (pa_cons pe_int (pa_cons pe_int (pa_cons pe_int (pa_cons pe_int (pa_cons (pe_op op_pow pe_int pe_int) pa_nil)))))))) (pe_op op_sub (pv 1) pe_int) (fun _ _ => rfl)) pa_nil)))
        (pe_ix ix_list (pe_lst (pa_cons pe_int (pa_cons pe_int (pa_cons pe_int (pa_cons pe_int (pa_cons pe_int (pa_cons pe_int (pa_cons pe_int pa_nil)))))))) (pe_op op_sub (pv 1) pe_int) (fun _ _ => rfl))))))), ?_⟩
    refine ⟨_, rfl, p, 8, rfl, hp, by decide, by decide, fun d H1 d0 d8 k1 hp1 => ?_⟩
    refine ⟨_, rfl, rfl, _, rfl, ?_⟩
    refine ite2 (fun h => ?_) (fun h => ?_)
    · refine ⟨4, rfl, by decide, by decide, for_range (n := 4) (fun i σ H' => ∃ (x : Int) (v : Option V), σ = [some (.ref p), some (.int d), some (.int x), v] ∧ 0 ≤ x ∧ x < 10 ^ (14 * i) ∧ Kept p H H' ∧ PotAt H' p)
        ⟨0, none, rfl, by decide, by decide, k1, hp1⟩ ?_ ?_⟩
      · rintro i σ H' hi ⟨x, v, rfl, x0, x1, k2, hp2⟩
        refine ⟨_, rfl, _, _, rfl, rfl, ⟨by decide, by decide, by decide⟩, _, _, rfl, rfl, .inr ⟨by decide, by decide⟩, ?_⟩
        refine ⟨_, rfl, _, _, rfl, rfl, ⟨by decide, by decide, by decide⟩, p, _, rfl, hp2, by decide, by decide, fun e H3 e0 e1 k3 hp3 => ?_⟩
        exact ⟨_, _, rfl, rfl, x * 10 ^ 14 + e, _, rfl, by omega, ten_step x0 x1 e0 e1, k2.trans k3, hp3⟩
      · rintro σ H' ⟨x, v, rfl, x0, x1, k2, hp2⟩
        refine ⟨_, rfl, _, rfl, p, 2, rfl, hp2, by decide, by decide, fun e H3 e0 e1 k3 hp3 => ?_⟩
        refine ⟨_, _, rfl, rfl, .inl ⟨by decide, by decide⟩, _, _, rfl, rfl, _, _, rfl, rfl, .inr ⟨by omega, by omega⟩, ?_⟩
        have : e = 0 ∨ e = 1 := by omega
        have x2 : x < 10 ^ 56 := x1
        refine kk _ _ ?_ ?_ (k2.trans k3) hp3
        · rcases this with rfl | rfl <;> omega
        · rcases this with rfl | rfl <;> omega
    · have dn : d ≠ 0 := fun z => h (decide_eq_true (by rw [z]))
      obtain ⟨m, o, e1, e2, m0, m1, o0, o1⟩ := tab_at (d := d) (by omega) d8
      refine ⟨_, rfl, _, _, rfl, rfl, ⟨by decide, by decide, by decide⟩, (by show 7 ≤ sizeLine; decide), fun l hl => ?_⟩
      refine ⟨_, rfl, _, _, rfl, rfl, l, _, _, _, rfl, rfl, SqL.of upd_same, e1, ?_⟩
      have hp2 : PotAt (upd H1 l (.lst tabM)) p := hp1.keep (Same.new (Same.refl _) hl)
      refine ⟨p, m, rfl, hp2, m0, by omega, fun e H3 e0 e1' k3 hp3 => ?_⟩
      refine ⟨(by show 7 ≤ sizeLine; decide), fun l2 hl2 => ?_⟩
      refine ⟨_, rfl, _, _, rfl, rfl, l2, _, _, _, rfl, rfl, SqL.of upd_same, e2, _, _, rfl, rfl, ?_⟩
      exact kk _ _ (by omega) (by omega) (((k1.new hl).trans k3).new hl2) (hp3.keep (Same.new (Same.refl _) hl2))
end
/-! ### is_whole, is_whole_within -/
def NoInt (K : PySem.W.Frag) (H : Hp) (v : V) : Prop := (∃ b, v = .bl b) ∨ ∃ T : String, TyX K H v (.type T) ∧ kitB T "int" = some false
def OddV (K : PySem.W.Frag) (H : Hp) (v : V) : Prop := (∃ i : Int, v = .int i ∧ (i < 0 ∨ 400 < i)) ∨ NoInt K H v
def spWhole (K : PySem.W.Frag) : Sp := fun vs H Q _ => ∃ v : V, vs = [v] ∧ ((∃ i : Int, v = .int i ∧ Q (.bl true) H) ∨ (NoInt K H v ∧ Q (.bl false) H))
def spWithin (K : PySem.W.Frag) : Sp := fun vs H Q _ => ∃ (v : V) (lo hi : Int), vs = [v, .int lo, .int hi] ∧ ((∃ i : Int, v = .int i ∧ Q (.bl (decide (lo ≤ i ∧ i ≤ hi))) H) ∨ (NoInt K H v ∧ Q (.bl false) H))
section
variable {P : Program} {w : World} {K : PySem.W.Frag} {mg : Str → Option Value} {base : Heap} {f f1 f2 f3 f4 f5 f6 C CW CN : Addr} {fd fd1 fd2 fd3 fd4 fd5 fd6 : FuncData}
theorem scWhole : FnScope ["thing"] ["thing"] (defScope sWhole) := ⟨rfl, rfl, rfl, by decide +kernel, rfl, by decide +kernel, by decide +kernel⟩
theorem ok_whole (F : FnP K "is_whole" sWhole f fd) (gIs : mg "isinstance" = none) (gInt : mg "int" = none) (gBool : mg "bool" = none) : FnOk P w K mg base CX0 1 f fd ["thing"] (spWhole K) := by
  refine F.ok scWhole (fun vs H Q E h => ?_) (fun cdv A outer s H vs Q E hr h => ?_)
  · obtain ⟨v, rfl, _⟩ := h
    rfl
  · obtain ⟨v, rfl, h⟩ := h
    refine ⟨_, PSs.nox (pss_one (ps_ret (pe_and (pe_callB call_isi (by rfl) gIs boot_isinstance (pa_cons (pv 0) (pa_cons (pe_bltn (v := .ty "int") rfl gInt PyProof.Rows.boot_int rfl) pa_nil)))
      (pe_one (pe_not (pe_callB call_isi (by rfl) gIs boot_isinstance (pa_cons (pv 0) (pa_cons (pe_bltn (v := .ty "bool") rfl gBool PyProof.Rows.boot_bool rfl) pa_nil)))))))), ?_⟩
    rcases h with ⟨i, rfl, k⟩ | ⟨⟨b, rfl⟩ | ⟨T, ty, ki⟩, k⟩
    · refine ⟨_, rfl, _, _, _, _, true, rfl, ClsV.ty _, TyX.base (TyOf.int i), kit_ty (by decide +kernel), _, rfl, iteT ?_⟩
      exact ⟨_, rfl, _, _, _, _, false, rfl, ClsV.ty _, TyX.base (TyOf.int i), kit_ty (by decide +kernel), _, rfl, k⟩
    · refine ⟨_, rfl, _, _, _, _, true, rfl, ClsV.ty _, TyX.base (TyOf.bl b), kit_ty (by decide +kernel), _, rfl, iteT ?_⟩
      exact ⟨_, rfl, _, _, _, _, true, rfl, ClsV.ty _, TyX.base (TyOf.bl b), kit_ty (by decide +kernel), _, rfl, k⟩
    · exact ⟨_, rfl, _, _, _, _, false, rfl, ClsV.ty _, ty, kit_ty ki, _, rfl, iteF k⟩
theorem scWithin : FnScope ["thing", "least", "most"] ["thing", "least", "most"] (defScope sWithin) := ⟨rfl, rfl, rfl, by decide +kernel, rfl, by decide +kernel, by decide +kernel⟩
theorem ok_within (F : FnP K "is_whole_within" sWithin f fd) (GI : FnOk P w K mg base CX0 1 f1 fd1 ["thing"] (spWhole K)) (gI : mg "is_whole" = some (.ref f1)) (kI : PySem.W.keepIn K (.ref f1) = true) (bI : Binds K fd1 ["thing"] []) : FnOk P w K mg base CX0 2 f fd ["thing", "least", "most"] (spWithin K) := by
  refine F.ok scWithin (fun vs H Q E h => ?_) (fun cdv A outer s H vs Q E hr h => ?_)
  · obtain ⟨v, lo, hi, rfl, _⟩ := h
    rfl
  · obtain ⟨v, lo, hi, rfl, h⟩ := h
    refine ⟨_, PSs.nox (pss_one (ps_ret (pe_and (pe_call GI hr rfl gI kI bI .nil pass0 (pa_cons (pv 0) pa_nil)) (pe_one (pe_chain op_le op_le (pv 1) (pv 0) (pv 2)))))), ?_⟩
    rcases h with ⟨i, rfl, k⟩ | ⟨no, k⟩
    · refine ⟨_, rfl, _, rfl, .inl ⟨i, rfl, _, rfl, iteT ?_⟩⟩
      refine ⟨_, rfl, _, rfl, _, _, rfl, rfl, _, rfl, ?_⟩
      refine ite2 (fun h => ?_) (fun h => ?_)
      · refine ⟨_, rfl, _, _, rfl, rfl, ?_⟩
        have e : decide (lo ≤ i ∧ i ≤ hi) = decide (i ≤ hi) := decide_eq_decide.mpr ⟨fun z => z.2, fun z => ⟨of_decide_eq_true h, z⟩⟩
        rw [e] at k
        exact k
      · have e : decide (lo ≤ i ∧ i ≤ hi) = false := decide_eq_false fun z => h (decide_eq_true z.1)
        rw [e] at k
        exact k
    · exact ⟨_, rfl, _, rfl, .inr ⟨no, _, rfl, iteF k⟩⟩
end
/-! ### lists of ints as data -/
theorem dp_ints {K : PySem.W.Frag} {H : Hp} : ∀ ns : List Int, DpAll K H (ns.map V.int) (ns.map PyData.int)
  | [] => .nil
  | n :: ns => .cons (.int n) (dp_ints ns)
theorem lay_ints : ∀ ns : List Int, PyData.canLayAll0 (ns.map PyData.int) = true
  | [] => rfl
  | n :: ns => by
    rw [List.map_cons, PyData.canLayAll0, lay_ints ns]
    rfl
theorem depth_ints : ∀ ns : List Int, PyData.depthAll (ns.map PyData.int) = 0
  | [] => by rw [List.map_nil, PyData.depthAll]
  | n :: ns => by
    rw [List.map_cons, PyData.depthAll, depth_ints ns, PyData.depth]
    rfl
theorem shaped_ints (ns : List Int) : SeqAt.shaped (.list (ns.map PyData.int)) = true := by
  unfold SeqAt.shaped
  rw [PyData.canLay0, lay_ints, PyData.depth, depth_ints]
  rfl
theorem eqv_ints (ns : List Int) : PyData.eqv (.list (ns.map PyData.int)) (.list (ns.map PyData.int)) = true := by
  refine SeqAt.eqv_refl _ ?_
  rw [PyData.canLay0]
  exact lay_ints ns
theorem dp_at {K : PySem.W.Frag} {H : Hp} {a : Addr} {ns : List Int} (h : H a = some (.lst (ns.map V.int))) : Dp K H (.ref a) (.list (ns.map PyData.int)) := .lst (SqL.of h) (dp_ints ns)
/-! ### need, Node.__init__, run_firing -/
abbrev FnM (K : PySem.W.Frag) (x q : Str) (st : Stmt) (f : Addr) (fd : FuncData) : Prop := FunD K x q (defArgs st) (defBody st) (defScope st) [] [] f fd
theorem Same.tup {K : PySem.W.Frag} {H H1 : Hp} {a : Addr} {xs : List V} (s : Same H H1) (h : SqT K H a xs) : SqT K H1 a xs := by
  rcases h with (h | ⟨o, h⟩) | h
  · exact .inl (.inl (s _ _ h))
  · exact .inl (.inr ⟨o, s _ _ h⟩)
  · exact .inr h
theorem Kept.at {p b : Addr} {H H1 : Hp} {o u : HO} (k : Kept p H H1) (hp : H p = some u) (hb : H b = some o) (n : o ≠ u) : H1 b = some o := k b o (fun z => n (by rw [z, hp] at hb; exact (Option.some.inj hb).symm)) hb
theorem Kept.tup {K : PySem.W.Frag} {p a : Addr} {H H1 : Hp} {xs : List V} (k : Kept p H H1) (hp : PotAt H p) (h : SqT K H a xs) : SqT K H1 a xs := by
  obtain ⟨x, y, _, _, _, hp⟩ := hp
  rcases h with (h | ⟨o, h⟩) | h
  · exact .inl (.inl (k.at hp h (fun z => by cases z)))
  · exact .inl (.inr ⟨o, k.at hp h (fun z => by cases z)⟩)
  · exact .inr h
/-- an instance of the class at C, with these fields -/
def InsAt (H : Hp) (p C : Addr) (fs : List (Str × V)) : Prop := ∃ dx, H p = some (.ins C dx fs)
theorem InsAt.keep {H H1 : Hp} {p C : Addr} {fs : List (Str × V)} (h : InsAt H p C fs) (s : Same H H1) : InsAt H1 p C fs := by
  obtain ⟨dx, h⟩ := h
  exact ⟨dx, s _ _ h⟩
theorem InsAt.kept {H H1 : Hp} {p q C : Addr} {fs : List (Str × V)} (h : InsAt H p C fs) (k : Kept q H H1) (hq : PotAt H q) : InsAt H1 p C fs := by
  obtain ⟨dx, h⟩ := h
  obtain ⟨x, y, _, _, _, hq⟩ := hq
  exact ⟨dx, k.at hq h (fun z => by cases z)⟩
def spNeed : Sp := fun vs H Q _ => ∃ v : V, vs = [.bl true, v] ∧ Q .non H
/-- what all sorts keep -/
def nodeF (tm : Addr) (l b : Int) (fs : List (Str × V)) : List (Str × V) := putF "begin_at" (.int b) (putF "late_by" (.int l) (putF "made" (.ref tm) fs))
def spNodeInit (K : PySem.W.Frag) (C : Addr) : Sp := fun vs H Q _ => ∃ (p t dx : Addr) (fs : List (Str × V)) (xs : List V) (l b : Int), vs = [.ref p, .ref t, .int l, .int b] ∧ H p = some (.ins C dx fs) ∧ SqT K H t xs ∧ (0 ≤ l ∧ l ≤ 99) ∧ (0 ≤ b ∧ b ≤ 9999) ∧
  fs.length < 900 ∧ xs.length ≤ 1000 ∧ ∀ tm, H tm = none → Q .non (upd (upd H tm (.tup (xs ++ [.int l, .int b]))) p (.ins C dx (nodeF tm l b fs)))
structure NodeC (K : PySem.W.Frag) (C : Addr) : Prop where
  cl : Cls K C
  nM : NoAttr K C "made"
  nL : NoAttr K C "late_by"
  nB : NoAttr K C "begin_at"
theorem putF_le (f : Str) (v : V) : ∀ fs : List (Str × V), (putF f v fs).length ≤ fs.length + 1
  | [] => Nat.le_refl _
  | (g, x) :: r => by
    unfold putF
    split
    · exact Nat.le_succ _
    · exact Nat.succ_le_succ (putF_le f v r)
section
variable {P : Program} {w : World} {K : PySem.W.Frag} {mg : Str → Option Value} {base : Heap} {f f1 f2 f3 f4 f5 f6 C CW CN : Addr} {fd fd1 fd2 fd3 fd4 fd5 fd6 : FuncData}
theorem scNeed : FnScope ["holds", "field"] ["holds", "field"] (defScope sNeed) := ⟨rfl, rfl, rfl, by decide +kernel, rfl, by decide +kernel, by decide +kernel⟩
theorem ok_need (F : FnP K "need" sNeed f fd) : FnOk P w K mg base CX0 1 f fd ["holds", "field"] spNeed := by
  refine F.ok scNeed (fun vs H Q E h => ?_) (fun cdv A outer s H vs Q E hr h => ?_)
  · obtain ⟨v, rfl, _⟩ := h
    rfl
  · obtain ⟨v, rfl, k⟩ := h
    refine ⟨_, PSs.nox (pss_one (ps_if (pt_not (pt_val (pv 0))) pss_never pss_nil)), ?_⟩
    exact ⟨_, rfl, _, rfl, iteF k⟩
theorem scNodeInit : FnScope ["self", "arguments", "late", "begin"] ["self", "arguments", "late", "begin"] (defScope sNodeInit) := ⟨rfl, rfl, rfl, by decide +kernel, rfl, by decide +kernel, by decide +kernel⟩
theorem ok_nodeInit (F : FnM K "__init__" "Node.__init__" sNodeInit f fd) (GN : FnOk P w K mg base CX0 1 f1 fd1 ["holds", "field"] spNeed) (gN : mg "need" = some (.ref f1)) (kN : PySem.W.keepIn K (.ref f1) = true) (bN : Binds K fd1 ["holds", "field"] [])
    (GW : FnOk P w K mg base CX0 2 f2 fd2 ["thing", "least", "most"] (spWithin K)) (gW : mg "is_whole_within" = some (.ref f2)) (kW : PySem.W.keepIn K (.ref f2) = true) (bW : Binds K fd2 ["thing", "least", "most"] [])
    (gML : ∃ t, mg "MOST_LATE" = some (.int 99 t)) (gMB : ∃ t, mg "MOST_BEGIN" = some (.int 9999 t)) (T : NodeC K C) : FnOk P w K mg base CX0 3 f fd ["self", "arguments", "late", "begin"] (spNodeInit K C) := by
  obtain ⟨tL, gL⟩ := gML
  obtain ⟨tB, gB⟩ := gMB
  refine F.ok scNodeInit (fun vs H Q E h => ?_) (fun cdv A outer s H vs Q E hr h => ?_)
  · obtain ⟨p, t, dx, fs, xs, l, b, rfl, _⟩ := h
    rfl
  · obtain ⟨p, t, dx, fs, xs, l, b, rfl, hp, ht, hl, hb, hfs, hxs, k⟩ := h
    have hr1 : Room 1 _ := hr.mono (by decide)
    refine ⟨_, PSs.nox (pss_cons (ps_expr (pe_call GN hr1 rfl gN kN bN .nil pass0 (pa_cons (pe_call GW hr rfl gW kW bW .nil pass0 (pa_cons (pv 2) (pa_cons pe_int (pa_cons (pe_glob (v := .int 99) rfl gL ⟨_, rfl⟩) pa_nil)))) (pa_cons pe_str pa_nil))))
      (pss_cons (ps_expr (pe_call GN hr1 rfl gN kN bN .nil pass0 (pa_cons (pe_call GW hr rfl gW kW bW .nil pass0 (pa_cons (pv 3) (pa_cons pe_int (pa_cons (pe_glob (v := .int 9999) rfl gB ⟨_, rfl⟩) pa_nil)))) (pa_cons pe_str pa_nil))))
      (pss_cons (ps_fld (pv 0) (pe_tup (StX.pa_star (pv 1) (pa_cons (pv 2) (pa_cons (pv 3) pa_nil)))) rfl)
      (pss_cons (ps_fld (pv 0) (pv 2) rfl) (pss_one (ps_fld (pv 0) (pv 3) rfl)))))), ?_⟩
    refine ⟨_, rfl, _, 0, 99, rfl, .inl ⟨l, rfl, ?_⟩⟩
    rw [show decide ((0 : Int) ≤ l ∧ l ≤ 99) = true from decide_eq_true hl]
    refine ⟨_, rfl, ?_⟩
    refine ⟨_, rfl, _, 0, 9999, rfl, .inl ⟨b, rfl, ?_⟩⟩
    rw [show decide ((0 : Int) ≤ b ∧ b ≤ 9999) = true from decide_eq_true hb]
    refine ⟨_, rfl, ?_⟩
    refine ⟨_, rfl, t, xs, rfl, .inl ht, _, rfl, _, rfl, ?_, fun tm htm => ?_⟩
    · rw [List.length_append]
      exact Nat.le_trans (Nat.add_le_add_right hxs _) (by show 1000 + 2 ≤ sizeLine; decide)
    have npt : p ≠ tm := ne_of_none hp htm
    have l1 := putF_le "made" (.ref tm) fs
    have l2 := putF_le "late_by" (.int l) (putF "made" (.ref tm) fs)
    refine ⟨_, rfl, p, C, dx, _, rfl, (by rw [upd_ne npt]; exact hp), T.cl, T.nM, by omega, ?_⟩
    refine ⟨_, rfl, _, rfl, p, C, dx, _, rfl, upd_same, T.cl, T.nL, by omega, ?_⟩
    refine ⟨_, rfl, _, rfl, p, C, dx, _, rfl, upd_same, T.cl, T.nB, by omega, ?_⟩
    rw [upd_upd, upd_upd]
    exact k tm htm
end
/-! ### run_firing, for a memory that isn't mute -/
/-- what a firing tells: a tuple of (mutes, behind) and the list of what is given, all of it new but what is behind -/
def Told (H : Hp) (Q : VK) (m : Int) (bh gv : V) : Hp → Prop := fun H1 => ∀ (q t : Addr) (H2 : Hp), Same H1 H2 → H q = none → H2 q = some (.tup [.ref t, gv]) → H2 t = some (.tup [.int m, bh]) → Q (.ref q) H2
def spFiring0 (K : PySem.W.Frag) (C : Addr) (spW : Sp) : Sp := fun vs H Q _ => ∃ (p tm : Addr) (fs : List (Str × V)) (kept rows : V), vs = [.ref p, .ref tm, rows] ∧ InsAt H p C fs ∧ fs.lookup ("work" : Str) = none ∧ SqT K H tm [.int 0, kept] ∧
   spW [.ref p, kept, rows] H (fun v H1 => ∃ (z : Addr) (bh gv : V), v = .ref z ∧ Same H H1 ∧ SqT K H1 z [bh, gv] ∧ Told H Q 0 bh gv H1) E0
/-- what is promised of more is promised of less -/
def Wide1 (sp : Sp) : Prop := ∀ (vs : List V) (H : Hp) (Q Q' : VK) (E : XK), (∀ v H', Q v H' → Q' v H') → sp vs H Q E → sp vs H Q' E
section
variable {P : Program} {w : World} {K : PySem.W.Frag} {mg : Str → Option Value} {base : Heap} {f f1 f2 f3 f4 f5 f6 C CW CN : Addr} {fd fd1 fd2 fd3 fd4 fd5 fd6 : FuncData}
theorem scFiring : FnScope ["node", "memory", "rows", "mutes", "kept", "behind", "given"] ["node", "memory", "rows"] (defScope sFiring) := ⟨rfl, rfl, rfl, by decide +kernel, rfl, by decide +kernel, by decide +kernel⟩
theorem ok_firing0 {spW : Sp} {k : Nat} (F : FnP K "run_firing" sFiring f fd) (c : Cls K C)
    (GW : FnOk P w K mg base CX0 (k + 1) f2 fd2 ["self", "kept", "rows"] spW) (mW : Meth K C "work" f2) (bW : Binds K fd2 ["self", "kept", "rows"] []) (wd : Wide1 spW) : FnOk P w K mg base CX0 (k + 2) f fd ["node", "memory", "rows"] (spFiring0 K C spW) := by
  refine F.ok scFiring (fun vs H Q E h => ?_) (fun cdv A outer s H vs Q E hr h => ?_)
  · obtain ⟨p, tm, fs, kept, rows, rfl, _⟩ := h
    rfl
  · obtain ⟨p, tm, fs, kept, rows, rfl, hp, nW, hm, h⟩ := h
    refine ⟨_, PSs.nox (pss_cons (ps_asg (pv 1) (pg_tup rfl (pgs_cons (pg_name (i := 3) scFiring.nd rfl (Or.inl rfl)) (pgs_cons (pg_name (i := 4) scFiring.nd rfl (Or.inl rfl)) pgs_nil))))
      (pss_cons (ps_if (pt_cmpR op_gt (pv 3) pe_int (nomark _)) pss_never pss_nil)
      (pss_cons (ps_asg (pe_meth (pv 0) c mW GW hr bW .nil pass0 (pa_cons (pv 4) (pa_cons (pv 2) pa_nil))) (pg_tup rfl (pgs_cons (pg_name (i := 5) scFiring.nd rfl (Or.inl rfl)) (pgs_cons (pg_name (i := 6) scFiring.nd rfl (Or.inl rfl)) pgs_nil))))
      (pss_one (ps_ret (pe_tup (pa_cons (pe_tup (pa_cons (pv 3) (pa_cons (pv 5) pa_nil))) (pa_cons (pv 6) pa_nil)))))))), ?_⟩
    refine ⟨_, rfl, tm, _, rfl, hm, rfl, _, _, rfl, _, _, rfl, rfl, ?_⟩
    refine ⟨_, rfl, _, _, rfl, rfl, _, rfl, ?_⟩
    refine ite2 (fun z => absurd (of_decide_eq_true z) (by decide)) (fun _ => ?_)
    obtain ⟨dx, hp2⟩ := hp
    refine ⟨_, rfl, p, dx, fs, rfl, hp2, nW, _, rfl, _, rfl, ?_⟩
    refine wd _ _ _ _ _ (fun v H1 hv => ?_) h
    obtain ⟨z, bh, gv, rfl, s1, hz, told⟩ := hv
    refine ⟨z, _, rfl, hz, rfl, _, _, rfl, _, _, rfl, rfl, ?_⟩
    refine ⟨_, rfl, _, rfl, (by show 2 ≤ sizeLine; decide), fun t ht => ?_⟩
    refine ⟨_, rfl, (by show 2 ≤ sizeLine; decide), fun q hq => ?_⟩
    have s2 := Same.new (o := .tup [V.int 0, bh]) (Same.refl H1) ht
    refine told q t _ (Same.new s2 hq) ((s1.trans s2).free hq) upd_same ?_
    exact Same.new (Same.refl _) hq _ _ upd_same
end
/-! ### is_truth -/
def spTruth : Sp := fun vs H Q _ => ∃ b : Bool, vs = [.bl b] ∧ Q (.bl true) H
section
variable {P : Program} {w : World} {K : PySem.W.Frag} {mg : Str → Option Value} {base : Heap} {f f1 f2 f3 f4 f5 f6 C CW CN : Addr} {fd fd1 fd2 fd3 fd4 fd5 fd6 : FuncData}
theorem scTruth : FnScope ["thing"] ["thing"] (defScope sTruth) := ⟨rfl, rfl, rfl, by decide +kernel, rfl, by decide +kernel, by decide +kernel⟩
theorem ok_truth (F : FnP K "is_truth" sTruth f fd) : FnOk P w K mg base CX0 1 f fd ["thing"] spTruth := by
  refine F.ok scTruth (fun vs H Q E h => ?_) (fun cdv A outer s H vs Q E hr h => ?_)
  · obtain ⟨b, rfl, _⟩ := h
    rfl
  · obtain ⟨b, rfl, k⟩ := h
    refine ⟨_, PSs.nox (pss_one (ps_ret (pe_or (pe_cmpR op_isBl (pv 0) pe_bl (nomark _)) (pe_one (pe_cmpR op_isBl (pv 0) pe_bl (nomark _)))))), ?_⟩
    cases b with
    | true => exact ⟨_, rfl, true, true, rfl, rfl, true, rfl, iteT k⟩
    | false => exact ⟨_, rfl, false, true, rfl, rfl, false, rfl, iteF ⟨_, rfl, false, false, rfl, rfl, k⟩⟩
end
theorem nodeF_be (tm : Addr) (l b : Int) (fs : List (Str × V)) : (nodeF tm l b fs).lookup ("begin_at" : Str) = some (.int b) := by
  unfold nodeF
  rw [lookup_putF, if_pos rfl]
theorem nodeF_no {tm : Addr} {l b : Int} {fs : List (Str × V)} {m : Str} (h1 : m ≠ "begin_at") (h2 : m ≠ "late_by") (h3 : m ≠ "made") : (nodeF tm l b fs).lookup m = fs.lookup m := by
  unfold nodeF
  rw [lookup_putF, if_neg h1, lookup_putF, if_neg h2, lookup_putF, if_neg h3]
theorem nodeF_le (tm : Addr) (l b : Int) (fs : List (Str × V)) : (nodeF tm l b fs).length ≤ fs.length + 3 := by
  unfold nodeF
  have l1 := putF_le "made" (.ref tm) fs
  have l2 := putF_le "late_by" (.int l) (putF "made" (.ref tm) fs)
  have l3 := putF_le "begin_at" (.int b) (putF "late_by" (.int l) (putF "made" (.ref tm) fs))
  omega
/-! ### the fields of a node -/
def Num (n : Int) : Prop := -(10 ^ 56) < n ∧ n < 10 ^ 56
theorem Num.lt {n : Int} (h : Num n) : n.natAbs < 2 ^ 200 := by
  unfold Num at h
  omega
theorem Num.mul {x y : Int} (h : Num x) (h' : Num y) : CMulW x y := wide_mul h.lt h'.lt (by decide) (by decide) (by decide)
structure PlV (fs : List (Str × V)) (own : List (Str × V)) (b : Int) : Prop where
  be : fs.lookup ("begin_at" : Str) = some (.int b)
  fld : ∀ (m : Str) (x : V), own.lookup m = some x → fs.lookup m = some x
  no : ∀ m : Str, own.lookup m = none → m ≠ "begin_at" → m ≠ "late_by" → m ≠ "made" → fs.lookup m = none
theorem plV_mk {tm : Addr} {l b : Int} {fs own : List (Str × V)} (h : ∀ m : Str, fs.lookup m = own.lookup m) (n1 : own.lookup ("begin_at" : Str) = none) (n2 : own.lookup ("late_by" : Str) = none) (n3 : own.lookup ("made" : Str) = none) : PlV (nodeF tm l b fs) own b := by
  refine ⟨nodeF_be _ _ _ _, fun m x e => ?_, fun m e h3 h4 h5 => ?_⟩
  · rw [nodeF_no (fun z => by rw [z, n1] at e; cases e) (fun z => by rw [z, n2] at e; cases e) (fun z => by rw [z, n3] at e; cases e), h]
    exact e
  · rw [nodeF_no h3 h4 h5, h]
    exact e
theorem PlV.put {fs own : List (Str × V)} {b : Int} (h : PlV fs own b) (m : Str) (x : V) (n : m ≠ "begin_at") : PlV (putF m x fs) ((m, x) :: own) b := by
  refine ⟨?_, fun m' x' e => ?_, fun m' e h3 h4 h5 => ?_⟩
  · rw [lookup_putF, if_neg (Ne.symm n)]
    exact h.be
  · rw [lookup_putF]
    rw [List.lookup_cons] at e
    by_cases z : m' = m
    · rw [if_pos z]
      rw [z, beq_self_eq_true] at e
      exact e
    · rw [if_neg z]
      rw [beq_false_of_ne z] at e
      exact h.fld m' x' e
  · rw [lookup_putF]
    rw [List.lookup_cons] at e
    by_cases z : m' = m
    · rw [z, beq_self_eq_true] at e
      cases e
    · rw [if_neg z]
      rw [beq_false_of_ne z] at e
      exact h.no m' e h3 h4 h5
theorem made_same {C x dx : Addr} {H H' : Hp} (nx : H x = none) (nd : H dx = none) (ne : dx ≠ x) (k : Kept x (upd (upd H dx (.own x)) x (.ins C dx [])) H') : Same H H' :=
  Same.kept (Same.new (Same.new (Same.refl H) nd) (by rw [upd_ne ne.symm]; exact nx)) nx k
theorem Same.past {H0 H : Hp} {q : Addr} {o : HO} (k : Same H0 H) (h : H0 q = none) : Same H0 (L2.upd H q o) := fun b u e => by
  rw [upd_ne (ne_of_none e h)]
  exact k b u e
theorem Kept.past {p q : Addr} {H H1 : Hp} {o : HO} (k : Kept p H H1) (h : H q = none) : Kept p H (L2.upd H1 q o) := fun b u n e => by
  rw [upd_ne (ne_of_none e h)]
  exact k b u n e
theorem ix_listK {X : Cx} {K : PySem.W.Frag} (h : X.K = K) : IxR X (rIxL K) := by
  subst h
  exact ix_list
theorem call_list_ofK {X : Cx} {K : PySem.W.Frag} (h : X.K = K) : CallR X (.type "list") (fun xs H Q => ∃ p ys, xs = [.ref p] ∧ (SqL K H p ys ∨ SqT K H p ys) ∧ ∀ l, H l = none → Q (.ref l) (upd H l (.lst ys))) := by
  subst h
  exact call_list_of
theorem yes_ite {σ : L2.St} {H : Hp} {a b : Hp → Prop} (h : a H) : tYes σ H (fun t H' => if t = true then a H' else b H') := by
  unfold tYes
  exact iteT h
end Sw
namespace Sw
open PySem PySem.Spec PyProof.Rows L2
/-! ### ups and downs -/
inductive Uk
  | up (m : Nat) (h : Bool)
  | down (m : Nat)
def isUp : Uk → Bool
  | .up _ _ => true
  | .down _ => false
def widU : Uk → Nat
  | .up _ _ => 1
  | .down m => m
def givU : Uk → Nat
  | .up m _ => m
  | .down _ => 1
def dueU : Uk → List Int → List Int
  | .up m h, xs => xs.headD 0 :: List.replicate (m - 1) (if h = true then xs.headD 0 else 0)
  | .down _, xs => [xs.headD 0]
def ownU : Uk → List (Str × V)
  | .up m h => [("hold", .bl h), ("many", .int (m : Int))]
  | .down m => [("many", .int (m : Int))]
def okU : Uk → Prop
  | .up m _ => 1 ≤ m ∧ m ≤ 8
  | .down m => 1 ≤ m ∧ m ≤ 8
abbrev Ku := Addr × Bool
def NdU (A : Ku) (k : Uk) (n : Addr) (H : Hp) : Prop := A.2 = isUp k ∧ okU k ∧ ∃ fs, InsAt H n A.1 fs ∧ PlV fs (ownU k) 0
theorem NdU.keep {A : Ku} {k : Uk} {n : Addr} {H H1 : Hp} (h : NdU A k n H) (s : Same H H1) : NdU A k n H1 := by
  obtain ⟨h1, h2, fs, h3, h4⟩ := h
  exact ⟨h1, h2, fs, h3.keep s, h4⟩
theorem NdU.kept {A : Ku} {k : Uk} {n p : Addr} {H H1 : Hp} (h : NdU A k n H) (kp : Kept p H H1) (hp : PotAt H p) : NdU A k n H1 := by
  obtain ⟨h1, h2, fs, h3, h4⟩ := h
  exact ⟨h1, h2, fs, h3.kept kp hp, h4⟩
theorem NdU.ins {A : Ku} {k : Uk} {n : Addr} {H : Hp} (h : NdU A k n H) : ∃ dx fs, H n = some (.ins A.1 dx fs) ∧ ∀ m : Str, m ∈ (["takes", "gives", "fresh", "fire", "work"] : List Str) → fs.lookup m = none := by
  obtain ⟨h1, h2, fs, ⟨dx, h3⟩, h4⟩ := h
  refine ⟨dx, fs, h3, fun m hm => ?_⟩
  have : m = "takes" ∨ m = "gives" ∨ m = "fresh" ∨ m = "fire" ∨ m = "work" := by simpa using hm
  cases k with
  | up a b => rcases this with rfl | rfl | rfl | rfl | rfl <;> exact h4.no _ rfl (by decide +kernel) (by decide +kernel) (by decide +kernel)
  | down a => rcases this with rfl | rfl | rfl | rfl | rfl <;> exact h4.no _ rfl (by decide +kernel) (by decide +kernel) (by decide +kernel)
def MemU (K : PySem.W.Frag) (H : Hp) (v : V) : Prop := ∃ q, v = .ref q ∧ SqT K H q [.int 0, .non]
theorem MemU.keep {K : PySem.W.Frag} {H H1 : Hp} {v : V} (h : MemU K H v) (s : Same H H1) : MemU K H1 v := by
  obtain ⟨q, e, h⟩ := h
  exact ⟨q, e, Same.tup s h⟩
theorem MemU.kept {K : PySem.W.Frag} {H H1 : Hp} {v : V} {p : Addr} (h : MemU K H v) (k : Kept p H H1) (hp : PotAt H p) : MemU K H1 v := by
  obtain ⟨q, e, h⟩ := h
  exact ⟨q, e, k.tup hp h⟩
/-- what is taken: a list of one list -/
def RowU (H : Hp) (r : Addr) (xs : List Int) : Prop := ∃ r0, H r = some (.lst [.ref r0]) ∧ H r0 = some (.lst (xs.map V.int))
theorem RowU.keep {H H1 : Hp} {r : Addr} {xs : List Int} (h : RowU H r xs) (s : Same H H1) : RowU H1 r xs := by
  obtain ⟨r0, a, b⟩ := h
  exact ⟨r0, s _ _ a, s _ _ b⟩
section
variable (K : PySem.W.Frag) (A : Ku)
def spUTakes : Sp := fun vs H Q _ => ∃ (n : Addr) (k : Uk), vs = [.ref n] ∧ NdU A k n H ∧ ∀ t H', Same H H' → SqT K H' t [.int (widU k : Int)] → Q (.ref t) H'
def spUGives : Sp := fun vs H Q _ => ∃ (n : Addr) (k : Uk), vs = [.ref n] ∧ NdU A k n H ∧ Q (.int (givU k : Int)) H
def spUFresh : Sp := fun vs H Q _ => ∃ (n : Addr) (k : Uk), vs = [.ref n] ∧ NdU A k n H ∧ ∀ v H', Same H H' → MemU K H' v → Q v H'
def spUFire : Sp := fun vs H Q _ => ∃ (n r : Addr) (k : Uk) (v : V) (xs : List Int), vs = [.ref n, v, .ref r] ∧ NdU A k n H ∧ MemU K H v ∧ RowU H r xs ∧ xs.length = widU k ∧
  ∀ (t l : Addr) (v' : V) (H' : Hp), Same H H' → H l = none → H' t = some (.tup [v', .ref l]) → MemU K H' v' → H' l = some (.lst ((dueU k xs).map V.int)) → Q (.ref t) H'
def spUWork : Sp := fun vs H Q _ => ∃ (n r : Addr) (k : Uk) (xs : List Int), vs = [.ref n, .non, .ref r] ∧ NdU A k n H ∧ RowU H r xs ∧ xs.length = widU k ∧
  ∀ (t l : Addr) (H' : Hp), Same H H' → H l = none → SqT K H' t [.non, .ref l] → H' l = some (.lst ((dueU k xs).map V.int)) → Q (.ref t) H'
theorem wide_uWork : Wide1 (spUWork K A) := by
  rintro vs H Q Q' E hq ⟨n, r, k, xs, e, h1, h2, h3, kk⟩
  exact ⟨n, r, k, xs, e, h1, h2, h3, fun t l H' a1 a2 a3 a4 => hq _ _ (kk t l H' a1 a2 a3 a4)⟩
end
theorem flat_one {α : Type} (y : α) : ∀ m : Nat, (List.replicate m [y]).flatten = List.replicate m y
  | 0 => rfl
  | m + 1 => by
    rw [List.replicate_succ, List.flatten_cons, flat_one y m]
    rfl
section
variable {P : Program} {w : World} {K : PySem.W.Frag} {mg : Str → Option Value} {base : Heap} {f f1 f2 f3 f4 f5 f6 f7 f8 f9 C CN CU CD : Addr} {fd fd1 fd2 fd3 fd4 fd5 fd6 fd7 fd8 fd9 : FuncData}
abbrev nUpTakes : List Str := ["self"]
theorem scUpTakes : FnScope nUpTakes ["self"] (defScope sUpTakes) := ⟨rfl, rfl, rfl, by decide +kernel, rfl, by decide +kernel, by decide +kernel⟩
theorem ok_upTakes (F : FnM K "takes" "Up.takes" sUpTakes f fd) : FnOk P w K mg base CX0 1 f fd ["self"] (spUTakes K (C, true)) := by
  refine F.ok scUpTakes (fun vs H Q E h => ?_) (fun cdv A outer s H vs Q E hr h => ?_)
  · obtain ⟨n, k, rfl, _⟩ := h
    rfl
  · obtain ⟨n, k, rfl, ⟨e, _⟩, kk⟩ := h
    cases k with
    | down m => cases e
    | up m b =>
      refine ⟨_, PSs.nox (pss_one (ps_ret (pe_tup (pa_cons pe_int pa_nil)))), ?_⟩
      exact ⟨(by show 1 ≤ sizeLine; decide), fun t ht => kk t _ (Same.new (Same.refl _) ht) (.inl (.inl upd_same))⟩
abbrev nDownTakes : List Str := ["self"]
theorem scDownTakes : FnScope nDownTakes ["self"] (defScope sDownTakes) := ⟨rfl, rfl, rfl, by decide +kernel, rfl, by decide +kernel, by decide +kernel⟩
theorem ok_downTakes (F : FnM K "takes" "Down.takes" sDownTakes f fd) (T : NodeC K C) (nM : NoAttr K C "many") : FnOk P w K mg base CX0 1 f fd ["self"] (spUTakes K (C, false)) := by
  refine F.ok scDownTakes (fun vs H Q E h => ?_) (fun cdv A outer s H vs Q E hr h => ?_)
  · obtain ⟨n, k, rfl, _⟩ := h
    rfl
  · obtain ⟨n, k, rfl, ⟨e, _, fs, ⟨dx, hi⟩, c⟩, kk⟩ := h
    cases k with
    | up m b => cases e
    | down m =>
      refine ⟨_, PSs.nox (pss_one (ps_ret (pe_tup (pa_cons (pe_fld (pv 0) rfl) pa_nil)))), ?_⟩
      exact ⟨_, rfl, n, C, dx, _, _, rfl, hi, T.cl, nM, c.fld _ _ rfl, (by show 1 ≤ sizeLine; decide), fun t ht => kk t _ (Same.new (Same.refl _) ht) (.inl (.inl upd_same))⟩
abbrev nUpGives : List Str := ["self"]
theorem scUpGives : FnScope nUpGives ["self"] (defScope sUpGives) := ⟨rfl, rfl, rfl, by decide +kernel, rfl, by decide +kernel, by decide +kernel⟩
theorem ok_upGives (F : FnM K "gives" "Up.gives" sUpGives f fd) (T : NodeC K C) (nM : NoAttr K C "many") : FnOk P w K mg base CX0 1 f fd ["self"] (spUGives (C, true)) := by
  refine F.ok scUpGives (fun vs H Q E h => ?_) (fun cdv A outer s H vs Q E hr h => ?_)
  · obtain ⟨n, k, rfl, _⟩ := h
    rfl
  · obtain ⟨n, k, rfl, ⟨e, _, fs, ⟨dx, hi⟩, c⟩, kk⟩ := h
    cases k with
    | down m => cases e
    | up m b =>
      refine ⟨_, PSs.nox (pss_one (ps_ret (pe_fld (pv 0) rfl))), ?_⟩
      exact ⟨_, rfl, n, C, dx, _, _, rfl, hi, T.cl, nM, c.fld _ _ rfl, kk⟩
abbrev nDownGives : List Str := ["self"]
theorem scDownGives : FnScope nDownGives ["self"] (defScope sDownGives) := ⟨rfl, rfl, rfl, by decide +kernel, rfl, by decide +kernel, by decide +kernel⟩
theorem ok_downGives (F : FnM K "gives" "Down.gives" sDownGives f fd) : FnOk P w K mg base CX0 1 f fd ["self"] (spUGives (C, false)) := by
  refine F.ok scDownGives (fun vs H Q E h => ?_) (fun cdv A outer s H vs Q E hr h => ?_)
  · obtain ⟨n, k, rfl, _⟩ := h
    rfl
  · obtain ⟨n, k, rfl, ⟨e, _, fs, ⟨dx, hi⟩, c⟩, kk⟩ := h
    cases k with
    | up m b => cases e
    | down m =>
      refine ⟨_, PSs.nox (pss_one (ps_ret pe_int)), ?_⟩
      exact kk
abbrev nUpFresh : List Str := ["self"]
theorem scUpFresh : FnScope nUpFresh ["self"] (defScope sUpFresh) := ⟨rfl, rfl, rfl, by decide +kernel, rfl, by decide +kernel, by decide +kernel⟩
theorem ok_upFresh (F : FnM K "fresh" "Up.fresh" sUpFresh f fd) (T : NodeC K C) : FnOk P w K mg base CX0 1 f fd ["self"] (spUFresh K (C, true)) := by
  refine F.ok scUpFresh (fun vs H Q E h => ?_) (fun cdv A outer s H vs Q E hr h => ?_)
  · obtain ⟨n, k, rfl, _⟩ := h
    rfl
  · obtain ⟨n, k, rfl, ⟨e, _, fs, ⟨dx, hi⟩, c⟩, kk⟩ := h
    refine ⟨_, PSs.nox (pss_one (ps_ret (pe_tup (pa_cons (pe_fld (pv 0) rfl) (pa_cons pe_non pa_nil))))), ?_⟩
    refine ⟨_, rfl, n, C, dx, _, _, rfl, hi, T.cl, T.nB, c.be, (by show 2 ≤ sizeLine; decide), fun q hq => ?_⟩
    exact kk _ _ (Same.new (Same.refl _) hq) ⟨q, rfl, .inl (.inl upd_same)⟩
abbrev nUpFire : List Str := ["self", "memory", "rows"]
theorem scUpFire : FnScope nUpFire ["self", "memory", "rows"] (defScope sUpFire) := ⟨rfl, rfl, rfl, by decide +kernel, rfl, by decide +kernel, by decide +kernel⟩
theorem ok_upFire (F : FnM K "fire" "Up.fire" sUpFire f fd) (GF : FnOk P w K mg base CX0 2 f1 fd1 ["node", "memory", "rows"] (spFiring0 K C (spUWork K (C, true)))) (gF : mg "run_firing" = some (.ref f1)) (kF : PySem.W.keepIn K (.ref f1) = true) (bF : Binds K fd1 ["node", "memory", "rows"] []) :
    FnOk P w K mg base CX0 3 f fd ["self", "memory", "rows"] (spUFire K (C, true)) := by
  refine F.ok scUpFire (fun vs H Q E h => ?_) (fun cdv A outer s H vs Q E hr h => ?_)
  · obtain ⟨n, r, k, v, xs, rfl, _⟩ := h
    rfl
  · obtain ⟨n, r, k, v, xs, rfl, hn, ⟨q, rfl, hq⟩, hrow, hm, kk⟩ := h
    obtain ⟨dx, fs, hi, no⟩ := hn.ins
    refine ⟨_, PSs.nox (pss_one (ps_ret (pe_call GF hr rfl gF kF bF .nil pass0 (pa_cons (pv 0) (pa_cons (pv 1) (pa_cons (pv 2) pa_nil)))))), ?_⟩
    refine ⟨_, rfl, _, rfl, _, rfl, n, q, fs, .non, .ref r, rfl, ⟨dx, hi⟩, no _ (by decide +kernel), hq, ?_⟩
    refine ⟨n, r, k, xs, rfl, hn, hrow, hm, fun t l H1 s1 fr ht hl => ?_⟩
    refine ⟨t, _, _, rfl, s1, ht, fun t2 t3 H2 s2 _ h2 h3 => ?_⟩
    exact kk t2 l (.ref t3) H2 (s1.trans s2) fr h2 ⟨t3, rfl, .inl (.inl h3)⟩ (s2 _ _ hl)
abbrev nDownFresh : List Str := ["self"]
theorem scDownFresh : FnScope nDownFresh ["self"] (defScope sDownFresh) := ⟨rfl, rfl, rfl, by decide +kernel, rfl, by decide +kernel, by decide +kernel⟩
theorem ok_downFresh (F : FnM K "fresh" "Down.fresh" sDownFresh f fd) (T : NodeC K C) : FnOk P w K mg base CX0 1 f fd ["self"] (spUFresh K (C, false)) := by
  refine F.ok scDownFresh (fun vs H Q E h => ?_) (fun cdv A outer s H vs Q E hr h => ?_)
  · obtain ⟨n, k, rfl, _⟩ := h
    rfl
  · obtain ⟨n, k, rfl, ⟨e, _, fs, ⟨dx, hi⟩, c⟩, kk⟩ := h
    refine ⟨_, PSs.nox (pss_one (ps_ret (pe_tup (pa_cons (pe_fld (pv 0) rfl) (pa_cons pe_non pa_nil))))), ?_⟩
    refine ⟨_, rfl, n, C, dx, _, _, rfl, hi, T.cl, T.nB, c.be, (by show 2 ≤ sizeLine; decide), fun q hq => ?_⟩
    exact kk _ _ (Same.new (Same.refl _) hq) ⟨q, rfl, .inl (.inl upd_same)⟩
abbrev nDownFire : List Str := ["self", "memory", "rows"]
theorem scDownFire : FnScope nDownFire ["self", "memory", "rows"] (defScope sDownFire) := ⟨rfl, rfl, rfl, by decide +kernel, rfl, by decide +kernel, by decide +kernel⟩
theorem ok_downFire (F : FnM K "fire" "Down.fire" sDownFire f fd) (GF : FnOk P w K mg base CX0 2 f1 fd1 ["node", "memory", "rows"] (spFiring0 K C (spUWork K (C, false)))) (gF : mg "run_firing" = some (.ref f1)) (kF : PySem.W.keepIn K (.ref f1) = true) (bF : Binds K fd1 ["node", "memory", "rows"] []) :
    FnOk P w K mg base CX0 3 f fd ["self", "memory", "rows"] (spUFire K (C, false)) := by
  refine F.ok scDownFire (fun vs H Q E h => ?_) (fun cdv A outer s H vs Q E hr h => ?_)
  · obtain ⟨n, r, k, v, xs, rfl, _⟩ := h
    rfl
  · obtain ⟨n, r, k, v, xs, rfl, hn, ⟨q, rfl, hq⟩, hrow, hm, kk⟩ := h
    obtain ⟨dx, fs, hi, no⟩ := hn.ins
    refine ⟨_, PSs.nox (pss_one (ps_ret (pe_call GF hr rfl gF kF bF .nil pass0 (pa_cons (pv 0) (pa_cons (pv 1) (pa_cons (pv 2) pa_nil)))))), ?_⟩
    refine ⟨_, rfl, _, rfl, _, rfl, n, q, fs, .non, .ref r, rfl, ⟨dx, hi⟩, no _ (by decide +kernel), hq, ?_⟩
    refine ⟨n, r, k, xs, rfl, hn, hrow, hm, fun t l H1 s1 fr ht hl => ?_⟩
    refine ⟨t, _, _, rfl, s1, ht, fun t2 t3 H2 s2 _ h2 h3 => ?_⟩
    exact kk t2 l (.ref t3) H2 (s1.trans s2) fr h2 ⟨t3, rfl, .inl (.inl h3)⟩ (s2 _ _ hl)
abbrev nUpWork : List Str := ["self", "kept", "rows", "sample", "further"]
theorem scUpWork : FnScope nUpWork ["self", "kept", "rows"] (defScope sUpWork) := ⟨rfl, rfl, rfl, by decide +kernel, rfl, by decide +kernel, by decide +kernel⟩
theorem ok_upWork (F : FnM K "work" "Up.work" sUpWork f fd) (T : NodeC K C) (nM : NoAttr K C "many") (nH : NoAttr K C "hold") : FnOk P w K mg base CX0 1 f fd ["self", "kept", "rows"] (spUWork K (C, true)) := by
  refine F.ok scUpWork (fun vs H Q E h => ?_) (fun cdv A outer s H vs Q E hr h => ?_)
  · obtain ⟨n, r, k, xs, rfl, _⟩ := h
    rfl
  · obtain ⟨n, r, k, xs, rfl, ⟨e, ok, fs, ⟨dx, hi⟩, c⟩, ⟨r0, hr0, hr1⟩, hm, kk⟩ := h
    have nd := scUpWork.nd
    cases k with
    | down m => cases e
    | up m b =>
      have hm : xs.length = 1 := hm
      have ok : 1 ≤ m ∧ m ≤ 8 := ok
      obtain ⟨x, rfl⟩ : ∃ x, xs = [x] := match xs, hm with | [x], _ => ⟨x, rfl⟩
      refine ⟨_, PSs.nox (pss_cons (ps_set (i := 3) nd rfl (Or.inl rfl) (pe_ix ix_list (pe_ix ix_list (pv 2) pe_int (fun _ _ => rfl)) pe_int (fun _ _ => rfl)))
      (pss_cons (ps_set (i := 4) nd rfl (Or.inl rfl) (pe_ifExp (pt_val (pe_fld (pv 0) rfl)) (pv 3) pe_int))
      (pss_one (ps_ret (pe_tup (pa_cons (pv 1) (pa_cons (pe_op op_cat (pe_lst (pa_cons (pv 3) pa_nil)) (pe_op op_rep (pe_lst (pa_cons (pv 4) pa_nil)) (pe_op op_sub (pe_fld (pv 0) rfl) pe_int))) pa_nil))))))), ?_⟩
      refine ⟨_, rfl, r, _, _, _, rfl, rfl, SqL.of hr0, atI_nat (j := 0) rfl, r0, _, _, _, rfl, rfl, SqL.of hr1, atI_nat (j := 0) rfl, ?_⟩
      have fin : ∀ (y : Int) (l1 l2 l3 l t : Addr), y = (if b = true then x else 0) → H l1 = none → (upd H l1 (.lst [V.int x])) l2 = none →
          (upd (upd H l1 (.lst [V.int x])) l2 (.lst [V.int y])) l3 = none → (upd (upd (upd H l1 (.lst [V.int x])) l2 (.lst [V.int y])) l3 (.lst (List.replicate (m - 1) [V.int y]).flatten)) l = none →
          (upd (upd (upd (upd H l1 (.lst [V.int x])) l2 (.lst [V.int y])) l3 (.lst (List.replicate (m - 1) [V.int y]).flatten)) l (.lst ([V.int x] ++ (List.replicate (m - 1) [V.int y]).flatten))) t = none →
          Q (.ref t) (upd (upd (upd (upd (upd H l1 (.lst [V.int x])) l2 (.lst [V.int y])) l3 (.lst (List.replicate (m - 1) [V.int y]).flatten)) l (.lst ([V.int x] ++ (List.replicate (m - 1) [V.int y]).flatten))) t (.tup [.non, .ref l])) := by
        intro y l1 l2 l3 l t ey h1 h2 h3 h4 h5
        have sm := Same.new (o := .lst (List.replicate (m - 1) [V.int y]).flatten) (Same.new (o := .lst [V.int y]) (Same.new (o := .lst [V.int x]) (Same.refl H) h1) h2) h3
        have e : [V.int x] ++ (List.replicate (m - 1) [V.int y]).flatten = (dueU (.up m b) [x]).map V.int := by
          rw [ey]
          show _ = V.int x :: (List.replicate (m - 1) (if b = true then x else 0)).map V.int
          rw [List.map_replicate, flat_one]
          rfl
        refine kk t l _ (Same.new (Same.new sm h4) h5) (sm.free h4) (.inl (.inl upd_same)) ?_
        rw [← e]
        exact Same.new (Same.refl _) h5 _ _ upd_same
      have em : ((m : Int) - 1).toNat = m - 1 := by omega
      cases b with
      | true =>
        refine ⟨_, rfl, n, C, dx, _, _, rfl, hi, T.cl, nH, c.fld _ _ rfl, _, rfl, iteT ?_⟩
        refine ⟨_, rfl, _, rfl, _, rfl, (by show 1 ≤ sizeLine; decide), fun l1 h1 => ⟨_, rfl, (by show 1 ≤ sizeLine; decide), fun l2 h2 => ?_⟩⟩
        have sm := Same.new (o := .lst [V.int x]) (Same.new (o := .lst [V.int x]) (Same.refl H) h1) h2
        refine ⟨_, rfl, n, C, dx, _, _, rfl, sm _ _ hi, T.cl, nM, c.fld _ _ rfl, _, _, rfl, rfl, l2, _, _, rfl, rfl, upd_same, by omega, by omega, ?_, fun l3 h3 => ?_⟩
        · rw [em]
          exact Nat.le_trans (show 1 * (m - 1) ≤ 8 by omega) (by decide)
        rw [em]
        refine ⟨l1, l3, _, _, rfl, rfl, Same.new (Same.refl _) h3 _ _ (Same.new (Same.refl _) h2 _ _ upd_same), upd_same, ?_, fun l h4 => ⟨(by show 2 ≤ sizeLine; decide), fun t h5 => fin x l1 l2 l3 l t rfl h1 h2 h3 h4 h5⟩⟩
        rw [flat_one, List.length_replicate]
        exact Nat.le_trans (show 1 + (m - 1) ≤ 8 by omega) (by decide)
      | false =>
        refine ⟨_, rfl, n, C, dx, _, _, rfl, hi, T.cl, nH, c.fld _ _ rfl, _, rfl, iteF ?_⟩
        refine ⟨_, rfl, _, rfl, (by show 1 ≤ sizeLine; decide), fun l1 h1 => ⟨_, rfl, (by show 1 ≤ sizeLine; decide), fun l2 h2 => ?_⟩⟩
        have sm := Same.new (o := .lst [V.int 0]) (Same.new (o := .lst [V.int x]) (Same.refl H) h1) h2
        refine ⟨_, rfl, n, C, dx, _, _, rfl, sm _ _ hi, T.cl, nM, c.fld _ _ rfl, _, _, rfl, rfl, l2, _, _, rfl, rfl, upd_same, by omega, by omega, ?_, fun l3 h3 => ?_⟩
        · rw [em]
          exact Nat.le_trans (show 1 * (m - 1) ≤ 8 by omega) (by decide)
        rw [em]
        refine ⟨l1, l3, _, _, rfl, rfl, Same.new (Same.refl _) h3 _ _ (Same.new (Same.refl _) h2 _ _ upd_same), upd_same, ?_, fun l h4 => ⟨(by show 2 ≤ sizeLine; decide), fun t h5 => fin 0 l1 l2 l3 l t rfl h1 h2 h3 h4 h5⟩⟩
        rw [flat_one, List.length_replicate]
        exact Nat.le_trans (show 1 + (m - 1) ≤ 8 by omega) (by decide)
abbrev nDownWork : List Str := ["self", "kept", "rows"]
theorem scDownWork : FnScope nDownWork ["self", "kept", "rows"] (defScope sDownWork) := ⟨rfl, rfl, rfl, by decide +kernel, rfl, by decide +kernel, by decide +kernel⟩
theorem ok_downWork (F : FnM K "work" "Down.work" sDownWork f fd) : FnOk P w K mg base CX0 1 f fd ["self", "kept", "rows"] (spUWork K (C, false)) := by
  refine F.ok scDownWork (fun vs H Q E h => ?_) (fun cdv A outer s H vs Q E hr h => ?_)
  · obtain ⟨n, r, k, xs, rfl, _⟩ := h
    rfl
  · obtain ⟨n, r, k, xs, rfl, ⟨e, ok, fs, ⟨dx, hi⟩, c⟩, ⟨r0, hr0, hr1⟩, hm, kk⟩ := h
    cases k with
    | up m b => cases e
    | down m =>
      have hm : xs.length = m := hm
      have ok : 1 ≤ m ∧ m ≤ 8 := ok
      obtain ⟨x, ys, rfl⟩ : ∃ x ys, xs = x :: ys := match xs, hm with
        | x :: ys, _ => ⟨x, ys, rfl⟩
        | [], z => absurd z (by intro e; rw [← e] at ok; exact absurd ok.1 (by decide))
      refine ⟨_, PSs.nox (pss_one (ps_ret (pe_tup (pa_cons (pv 1) (pa_cons (pe_lst (pa_cons (pe_ix ix_list (pe_ix ix_list (pv 2) pe_int (fun _ _ => rfl)) pe_int (fun _ _ => rfl)) pa_nil)) pa_nil))))), ?_⟩
      refine ⟨_, rfl, _, rfl, r, _, _, _, rfl, rfl, SqL.of hr0, atI_nat (j := 0) rfl, r0, _, _, _, rfl, rfl, SqL.of hr1, atI_nat (j := 0) rfl, (by show 1 ≤ sizeLine; decide), fun l hl => ⟨(by show 2 ≤ sizeLine; decide), fun t ht => ?_⟩⟩
      exact kk t l _ (Same.new (Same.new (Same.refl _) hl) ht) hl (.inl (.inl upd_same)) (Same.new (Same.refl _) ht _ _ upd_same)
/-! ### making them -/
def spUpInit (C : Addr) : Sp := fun vs H Q _ => ∃ (p dx : Addr) (m : Nat) (b : Bool), vs = [.ref p, .int (m : Int), .bl b, .int 0, .int 0] ∧ H p = some (.ins C dx []) ∧ 1 ≤ m ∧ m ≤ 8 ∧
  ∀ (fs : List (Str × V)) (H' : Hp), PlV fs (ownU (.up m b)) 0 → Kept p H H' → H' p = some (.ins C dx fs) → Q .non H'
def spDownInit (C : Addr) : Sp := fun vs H Q _ => ∃ (p dx : Addr) (m : Nat), vs = [.ref p, .int (m : Int), .int 0, .int 0] ∧ H p = some (.ins C dx []) ∧ 1 ≤ m ∧ m ≤ 8 ∧
  ∀ (fs : List (Str × V)) (H' : Hp), PlV fs (ownU (.down m)) 0 → Kept p H H' → H' p = some (.ins C dx fs) → Q .non H'
abbrev nUpInit : List Str := ["self", "many", "hold", "late", "begin"]
theorem scUpInit : FnScope nUpInit ["self", "many", "hold", "late", "begin"] (defScope sUpInit) := ⟨rfl, rfl, rfl, by decide +kernel, rfl, by decide +kernel, by decide +kernel⟩
theorem ok_upInit {dvs : List V} {kws : List (Str × V)} (F : FunD K "__init__" "Up.__init__" (defArgs sUpInit) (defBody sUpInit) (defScope sUpInit) dvs kws f fd) (GN : FnOk P w K mg base CX0 1 f1 fd1 ["holds", "field"] spNeed) (gN : mg "need" = some (.ref f1)) (kN : PySem.W.keepIn K (.ref f1) = true) (bN : Binds K fd1 ["holds", "field"] [])
    (GW : FnOk P w K mg base CX0 2 f2 fd2 ["thing", "least", "most"] (spWithin K)) (gW : mg "is_whole_within" = some (.ref f2)) (kW : PySem.W.keepIn K (.ref f2) = true) (bW : Binds K fd2 ["thing", "least", "most"] [])
    (GT : FnOk P w K mg base CX0 1 f4 fd4 ["thing"] spTruth) (gT : mg "is_truth" = some (.ref f4)) (kT : PySem.W.keepIn K (.ref f4) = true) (bT : Binds K fd4 ["thing"] [])
    (GB : FnOk P w K mg base CX0 3 f3 fd3 ["self", "arguments", "late", "begin"] (spNodeInit K C)) (gB : mg "Node" = some (.ref CN)) (mB : BaseM K CN "__init__" f3) (bB : Binds K fd3 ["self", "arguments", "late", "begin"] [])
    (gM : ∃ t, mg "MOST_RATE" = some (.int 8 t)) (T : NodeC K C) (nM : NoAttr K C "many") (nH : NoAttr K C "hold") : FnOk P w K mg base CX0 4 f fd ["self", "many", "hold", "late", "begin"] (spUpInit C) := by
  obtain ⟨tM, gM⟩ := gM
  refine F.ok scUpInit (fun vs H Q E h => ?_) (fun cdv A outer s H vs Q E hr h => ?_)
  · obtain ⟨p, dx, m, b, rfl, _⟩ := h
    rfl
  · obtain ⟨p, dx, m, b, rfl, hp, m1, m8, k⟩ := h
    have hr2 : Room 2 _ := hr.mono (by decide)
    have hr1 : Room 1 _ := hr.mono (by decide)
    have nd := scUpInit.nd
    refine ⟨_, PSs.nox (pss_cons (ps_expr (pe_call GN hr1 rfl gN kN bN .nil pass0 (pa_cons (pe_call GW hr2 rfl gW kW bW .nil pass0 (pa_cons (pv 1) (pa_cons pe_int (pa_cons (pe_glob (v := .int 8) rfl gM ⟨_, rfl⟩) pa_nil)))) (pa_cons pe_str pa_nil))))
      (pss_cons (ps_expr (pe_call GN hr1 rfl gN kN bN .nil pass0 (pa_cons (pe_call GT hr1 rfl gT kT bT .nil pass0 (pa_cons (pv 2) pa_nil)) (pa_cons pe_str pa_nil))))
      (pss_cons (ps_expr (pe_base (pe_glob (v := .ref CN) rfl gB rfl) mB GB hr bB .nil pass0 (pa_cons (pv 0) (pa_cons (pe_tup (pa_cons (pv 1) (pa_cons (pv 2) pa_nil))) (pa_cons (pv 3) (pa_cons (pv 4) pa_nil))))))
      (pss_cons (ps_fld (pv 0) (pv 1) rfl)
      (pss_one (ps_fld (pv 0) (pv 2) rfl)))))), ?_⟩
    refine ⟨_, rfl, _, 1, 8, rfl, .inl ⟨_, rfl, ?_⟩⟩
    rw [show decide ((1 : Int) ≤ (m : Int) ∧ (m : Int) ≤ 8) = true from decide_eq_true (by omega)]
    refine ⟨_, rfl, ?_⟩
    refine ⟨_, rfl, b, rfl, _, rfl, ?_⟩
    refine ⟨rfl, _, rfl, _, rfl, _, rfl, (by show 2 ≤ sizeLine; decide), fun t ht => ?_⟩
    have hp4 := Same.new (o := .tup [V.int (m : Int), V.bl b]) (Same.refl _) ht _ _ hp
    refine ⟨_, rfl, _, rfl, p, t, dx, [], _, 0, 0, rfl, hp4, .inl (.inl upd_same), by decide, by decide, (by show 0 < 900; decide), (by show 2 ≤ 1000; decide), fun tm htm => ?_⟩
    refine ⟨_, rfl, _, rfl, p, C, dx, _, rfl, upd_same, T.cl, nM, ?_, ?_⟩
    · exact Nat.lt_of_le_of_lt (nodeF_le _ _ _ _) (by show 0 + 3 < _; decide)
    refine ⟨_, rfl, _, rfl, p, C, dx, _, rfl, upd_same, T.cl, nH, ?_, ?_⟩
    · exact Nat.lt_of_le_of_lt (Nat.le_trans (putF_le _ _ _) (Nat.succ_le_succ (nodeF_le _ _ _ _))) (by show 0 + 3 + 1 < _; decide)
    exact k _ _ (((plV_mk (own := []) (fun m => rfl) rfl rfl rfl).put "many" _ (by decide +kernel)).put "hold" _ (by decide +kernel)) (Kept.upd (Kept.upd (Kept.upd (Kept.new (Kept.new Kept.refl ht) htm)))) upd_same
abbrev nDownInit : List Str := ["self", "many", "late", "begin"]
theorem scDownInit : FnScope nDownInit ["self", "many", "late", "begin"] (defScope sDownInit) := ⟨rfl, rfl, rfl, by decide +kernel, rfl, by decide +kernel, by decide +kernel⟩
theorem ok_downInit {dvs : List V} {kws : List (Str × V)} (F : FunD K "__init__" "Down.__init__" (defArgs sDownInit) (defBody sDownInit) (defScope sDownInit) dvs kws f fd) (GN : FnOk P w K mg base CX0 1 f1 fd1 ["holds", "field"] spNeed) (gN : mg "need" = some (.ref f1)) (kN : PySem.W.keepIn K (.ref f1) = true) (bN : Binds K fd1 ["holds", "field"] [])
    (GW : FnOk P w K mg base CX0 2 f2 fd2 ["thing", "least", "most"] (spWithin K)) (gW : mg "is_whole_within" = some (.ref f2)) (kW : PySem.W.keepIn K (.ref f2) = true) (bW : Binds K fd2 ["thing", "least", "most"] [])
    (GB : FnOk P w K mg base CX0 3 f3 fd3 ["self", "arguments", "late", "begin"] (spNodeInit K C)) (gB : mg "Node" = some (.ref CN)) (mB : BaseM K CN "__init__" f3) (bB : Binds K fd3 ["self", "arguments", "late", "begin"] [])
    (gM : ∃ t, mg "MOST_RATE" = some (.int 8 t)) (T : NodeC K C) (nM : NoAttr K C "many") : FnOk P w K mg base CX0 4 f fd ["self", "many", "late", "begin"] (spDownInit C) := by
  obtain ⟨tM, gM⟩ := gM
  refine F.ok scDownInit (fun vs H Q E h => ?_) (fun cdv A outer s H vs Q E hr h => ?_)
  · obtain ⟨p, dx, m, rfl, _⟩ := h
    rfl
  · obtain ⟨p, dx, m, rfl, hp, m1, m8, k⟩ := h
    have hr2 : Room 2 _ := hr.mono (by decide)
    have hr1 : Room 1 _ := hr.mono (by decide)
    have nd := scDownInit.nd
    refine ⟨_, PSs.nox (pss_cons (ps_expr (pe_call GN hr1 rfl gN kN bN .nil pass0 (pa_cons (pe_call GW hr2 rfl gW kW bW .nil pass0 (pa_cons (pv 1) (pa_cons pe_int (pa_cons (pe_glob (v := .int 8) rfl gM ⟨_, rfl⟩) pa_nil)))) (pa_cons pe_str pa_nil))))
      (pss_cons (ps_expr (pe_base (pe_glob (v := .ref CN) rfl gB rfl) mB GB hr bB .nil pass0 (pa_cons (pv 0) (pa_cons (pe_tup (pa_cons (pv 1) pa_nil)) (pa_cons (pv 2) (pa_cons (pv 3) pa_nil))))))
      (pss_one (ps_fld (pv 0) (pv 1) rfl)))), ?_⟩
    refine ⟨_, rfl, _, 1, 8, rfl, .inl ⟨_, rfl, ?_⟩⟩
    rw [show decide ((1 : Int) ≤ (m : Int) ∧ (m : Int) ≤ 8) = true from decide_eq_true (by omega)]
    refine ⟨_, rfl, ?_⟩
    refine ⟨rfl, _, rfl, _, rfl, (by show 1 ≤ sizeLine; decide), fun t ht => ?_⟩
    have hp4 := Same.new (o := .tup [V.int (m : Int)]) (Same.refl _) ht _ _ hp
    refine ⟨_, rfl, _, rfl, p, t, dx, [], _, 0, 0, rfl, hp4, .inl (.inl upd_same), by decide, by decide, (by show 0 < 900; decide), (by show 1 ≤ 1000; decide), fun tm htm => ?_⟩
    refine ⟨_, rfl, _, rfl, p, C, dx, _, rfl, upd_same, T.cl, nM, ?_, ?_⟩
    · exact Nat.lt_of_le_of_lt (nodeF_le _ _ _ _) (by show 0 + 3 < _; decide)
    exact k _ _ ((plV_mk (own := []) (fun m => rfl) rfl rfl rfl).put "many" _ (by decide +kernel)) (Kept.upd (Kept.upd (Kept.new (Kept.new Kept.refl ht) htm))) upd_same
end
end Sw
namespace Sw
open PySem PySem.Spec PyProof.Rows L2
/-! ### lists of ints shown -/
theorem Num.log {n : Int} (h : Num n) : n.natAbs.log2 < 1920 := log2_of (b := 200) h.lt (by decide) (by decide)
theorem show_ints : ∀ cs : List Int, (∀ c ∈ cs, c.natAbs.log2 < 1920) → PyData.showableAll (cs.map PyData.int) = true
  | [], _ => by rw [List.map_nil, PyData.showableAll]
  | c :: r, h => by
    rw [List.map_cons, PyData.showableAll, show_ints r fun z hz => h z (List.mem_cons_of_mem _ hz), PyData.showable, decide_eq_true (h c List.mem_cons_self)]
    rfl
theorem intsD_show {ns : List Int} (h : ∀ n ∈ ns, n.natAbs.log2 < 1920) : (PyData.list (ns.map PyData.int)).showable = true := by
  rw [PyData.showable]
  exact show_ints ns h
theorem intsD_len {ns : List Int} (h : ∀ n ∈ ns, n.natAbs.log2 < 1920) (l : ns.length ≤ 1000) : (PyData.list (ns.map PyData.int)).shown.length ≤ sizeLine := by
  refine Nat.le_trans (shown_list (B := 1921) fun d hd => ?_) ?_
  · obtain ⟨n, hn, rfl⟩ := List.mem_map.mp hd
    exact shown_num (h n hn)
  · rw [List.length_map]
    exact Nat.le_trans (show (1921 + 2) * ns.length + 3 ≤ 1923 * 1000 + 3 by omega) (by decide)
/-- a list of one list of ints -/
theorem row1_shaped (xs : List Int) : SeqAt.shaped (.list [.list (xs.map PyData.int)]) = true := by
  unfold SeqAt.shaped
  rw [PyData.canLay0, PyData.canLayAll0, PyData.canLayAll0, PyData.canLay0, lay_ints, PyData.depth, PyData.depthAll, PyData.depthAll, PyData.depth, depth_ints]
  rfl
theorem row1_eqv (xs : List Int) : PyData.eqv (.list [.list (xs.map PyData.int)]) (.list [.list (xs.map PyData.int)]) = true := by
  refine SeqAt.eqv_refl _ ?_
  rw [PyData.canLay0, PyData.canLayAll0, PyData.canLayAll0, PyData.canLay0, lay_ints]
  rfl
theorem row1_dp {K : PySem.W.Frag} {H : Hp} {r r0 : Addr} {xs : List Int} (h : H r = some (.lst [.ref r0])) (h0 : H r0 = some (.lst (xs.map V.int))) : Dp K H (.ref r) (.list [.list (xs.map PyData.int)]) := .lst (SqL.of h) (.cons (dp_at h0) .nil)
def heldU : Uk → Bool
  | .up _ h => h
  | .down _ => false
def AsU (CU CD : Addr) : List Ku := [(CU, true), (CD, false)]
def dueL (x : Int) (h : Bool) (g : Nat) : List Int := (List.range g).map fun (j : Nat) => x * (if (decide ((j : Int) = 0) || h) = true then 1 else 0)
theorem dueL_up (x : Int) (h : Bool) : ∀ m : Nat, dueL x h (m + 1) = x :: List.replicate m (if h = true then x else 0) := by
  intro m
  unfold dueL
  rw [List.range_succ_eq_map, List.map_cons]
  congr 1
  · simp
  · rw [List.map_map, List.eq_replicate_iff]
    refine ⟨by simp, fun b hb => ?_⟩
    obtain ⟨j, _, rfl⟩ := List.mem_map.mp hb
    have e : decide (((j + 1 : Nat) : Int) = 0) = false := decide_eq_false (by omega)
    show x * (if (decide (((j + 1 : Nat) : Int) = 0) || h) = true then 1 else 0) = _
    rw [e]
    cases h <;> simp
theorem dueL_eq {k : Uk} {xs : List Int} (ok : okU k) : dueU k xs = dueL (xs.headD 0) (heldU k) (givU k) := by
  cases k with
  | up m h =>
    have ok : 1 ≤ m ∧ m ≤ 8 := ok
    obtain ⟨m', rfl⟩ : ∃ m', m = m' + 1 := ⟨m - 1, by omega⟩
    exact (dueL_up _ _ _).symm
  | down m => exact (dueL_up _ false 0).symm
theorem dueU_log {k : Uk} {xs : List Int} (nums : ∀ x ∈ xs, Num x) (hl : 1 ≤ xs.length) : ∀ y ∈ dueU k xs, y.natAbs.log2 < 1920 := by
  obtain ⟨x, r, rfl⟩ : ∃ x r, xs = x :: r := match xs, hl with
    | x :: r, _ => ⟨x, r, rfl⟩
    | [], h => absurd h (by decide)
  have hx := (nums x List.mem_cons_self).log
  have h0 : (0 : Int).natAbs.log2 < 1920 := by decide
  intro y hy
  cases k with
  | up m h =>
    rcases List.mem_cons.mp hy with rfl | hy
    · exact hx
    · rw [List.eq_of_mem_replicate hy]
      split
      · exact hx
      · exact h0
  | down m =>
    rcases List.mem_cons.mp hy with rfl | hy
    · exact hx
    · cases hy
theorem dueU_len {k : Uk} {xs : List Int} (ok : okU k) : (dueU k xs).length = givU k ∧ 1 ≤ givU k ∧ givU k ≤ 8 ∧ 1 ≤ widU k ∧ widU k ≤ 8 := by
  cases k with
  | up m h =>
    have ok : 1 ≤ m ∧ m ≤ 8 := ok
    refine ⟨?_, ok.1, ok.2, Nat.le_refl 1, by show 1 ≤ 8; decide⟩
    show (_ :: List.replicate (m - 1) _).length = m
    rw [List.length_cons, List.length_replicate]
    omega
  | down m => exact ⟨rfl, Nat.le_refl 1, by show 1 ≤ 8; decide, ok.1, ok.2⟩
def spMade (K : PySem.W.Frag) (CU CD : Addr) : Sp := fun vs H Q _ => ∃ p : Addr, vs = [.ref p] ∧ PotAt H p ∧ ∀ (A : Ku) (k : Uk) (t n tk : Addr) (H' : Hp), Kept p H H' → PotAt H' p → A ∈ AsU CU CD → NdU A k n H' → SqT K H' tk [.int (widU k : Int)] → SqT K H' t [.ref n, .ref tk, .int (givU k : Int), .bl (heldU k)] → Q (.ref t) H'
def spLaw (K : PySem.W.Frag) : Sp := fun vs H Q _ => ∃ (a : Addr) (ns : List Int), vs = [.ref a] ∧ SqL K H a (ns.map V.int) ∧ ns.length ≤ 63 ∧ ∀ H', Q (.bl true) H'
section
variable {P : Program} {w : World} {K : PySem.W.Frag} {mg : Str → Option Value} {base : Heap} {f f1 f2 f3 f4 f5 f6 f7 f8 f9 C CN CU CD : Addr} {fd fd1 fd2 fd3 fd4 fd5 fd6 fd7 fd8 fd9 : FuncData}
abbrev nLMade : List Str := ["_law_pot_here", "_law_size", "_law_way"]
theorem scLMade : FnScope nLMade ["_law_pot_here"] (defScope sLMade) := ⟨rfl, rfl, rfl, by decide +kernel, rfl, by decide +kernel, by decide +kernel⟩
theorem ok_made {d4 d5 d6 : List Value} {gK : List Value → List Value → List Value} (F : FnP K "_law_made" sLMade f fd)
    (GDr : FnOk P w K mg base CX0 1 f1 fd1 ["_law_pot_here", "_law_base"] spDraw) (gDr : mg "_law_draw" = some (.ref f1)) (kDr : PySem.W.keepIn K (.ref f1) = true) (bDr : Binds K fd1 ["_law_pot_here", "_law_base"] [])
    (MU : Mk K CU f2) (GU : FnOk P w K mg base CX0 4 f2 fd2 ["self", "many", "hold", "late", "begin"] (spUpInit CU)) (gU : mg "Up" = some (.ref CU)) (b4 : Binds K fd2 ["self", "many", "hold", "late", "begin"] d4) (v4 : Vals [.bl false, .int 0, .int 0] d4)
    (b5 : Binds K fd2 ["self", "many", "hold", "late", "begin"] d5) (v5 : Vals [.int 0, .int 0] d5) (kb : KBn K fd2 ["self", "many", "hold", "late", "begin"] 1 ["hold", "many"] gK (fun vs zs => vs ++ (zs.drop 1 ++ (zs.take 1 ++ [.int 0, .int 0]))))
    (MD : Mk K CD f3) (GD : FnOk P w K mg base CX0 4 f3 fd3 ["self", "many", "late", "begin"] (spDownInit CD)) (gD : mg "Down" = some (.ref CD)) (b6 : Binds K fd3 ["self", "many", "late", "begin"] d6) (v6 : Vals [.int 0, .int 0] d6) : FnOk P w K mg base CX0 6 f fd ["_law_pot_here"] (spMade K CU CD) := by
  refine F.ok scLMade (fun vs H Q E h => ?_) (fun cdv A outer s H vs Q E hr h => ?_)
  · obtain ⟨p, rfl, _⟩ := h
    rfl
  · obtain ⟨p, rfl, hp, kk⟩ := h
    have hr1 : Room 1 _ := hr.mono (by decide)
    have nd := scLMade.nd
    refine ⟨_, PSs.nox (pss_cons (ps_set (i := 1) nd rfl (Or.inl rfl) (pe_op op_add pe_int (pe_call GDr hr1 rfl gDr kDr bDr .nil pass0 (pa_cons (pv 0) (pa_cons pe_int pa_nil)))))
      (pss_cons (ps_set (i := 2) nd rfl (Or.inl rfl) (pe_call GDr hr1 rfl gDr kDr bDr .nil pass0 (pa_cons (pv 0) (pa_cons pe_int pa_nil))))
      (pss_cons (ps_if (pt_cmpR op_eq (pv 2) pe_int (nomark _)) (pss_one (ps_ret (pe_tup (pa_cons (pe_make MD GD hr rfl gD b6 v6 pass0 (pa_cons (pv 1) pa_nil)) (pa_cons (pe_tup (pa_cons (pv 1) pa_nil)) (pa_cons pe_int (pa_cons pe_bl pa_nil))))))) pss_nil)
      (pss_cons (ps_if (pt_cmpR op_eq (pv 2) pe_int (nomark _)) (pss_one (ps_ret (pe_tup (pa_cons (pe_make MU GU hr rfl gU b4 v4 pass0 (pa_cons (pv 1) pa_nil)) (pa_cons (pe_tup (pa_cons pe_int pa_nil)) (pa_cons (pv 1) (pa_cons pe_bl pa_nil))))))) pss_nil)
      (pss_cons (ps_if (pt_cmpR op_eq (pv 2) pe_int (nomark _)) (pss_one (ps_ret (pe_tup (pa_cons (pe_makeK0 MU GU hr rfl gU kb pass0 (pk_cons pe_bl (pk_cons (pv 1) pk_nil))) (pa_cons (pe_tup (pa_cons pe_int pa_nil)) (pa_cons (pv 1) (pa_cons pe_bl pa_nil))))))) pss_nil)
      (pss_one (ps_ret (pe_tup (pa_cons (pe_make MU GU hr rfl gU b5 v5 pass0 (pa_cons (pv 1) (pa_cons pe_bl pa_nil))) (pa_cons (pe_tup (pa_cons pe_int pa_nil)) (pa_cons (pv 1) (pa_cons pe_bl pa_nil)))))))))))), ?_⟩
    refine ⟨_, rfl, p, 8, rfl, hp, by decide, by decide, fun d H1 d0 d1 k1 hp1 => ?_⟩
    refine ⟨_, _, rfl, rfl, _, rfl, p, 4, rfl, hp1, by decide, by decide, fun e H2 e0 e1 k2 hp2 => ?_⟩
    obtain ⟨m, em, m1, m8⟩ : ∃ m : Nat, 1 + d = (m : Int) ∧ 1 ≤ m ∧ m ≤ 8 := ⟨(1 + d).toNat, by omega, by omega, by omega⟩
    have em' : (fun i j : Int => V.int (i + j)) 1 d = V.int (m : Int) := congrArg V.int em
    rw [em']
    have kA : Kept p H H2 := k1.trans k2
    have fin : ∀ {A : Ku} {k : Uk} {x dx : Addr} {B : Hp} {fs : List (Str × V)}, A ∈ AsU CU CD → A.2 = isUp k → okU k → H2 x = none → H2 dx = none → dx ≠ x → Kept x (upd (upd H2 dx (.own x)) x (.ins A.1 dx [])) B → B x = some (.ins A.1 dx fs) → PlV fs (ownU k) 0 →
        ∀ tk, B tk = none → ∀ t, (upd B tk (.tup [.int (widU k : Int)])) t = none → Q (.ref t) (upd (upd B tk (.tup [.int (widU k : Int)])) t (.tup [.ref x, .ref tk, .int (givU k : Int), .bl (heldU k)])) := by
      intro A k x dx B fs hA ea ok nx ndx ne k7 hx c tk htk t ht
      have sB := made_same nx ndx ne k7
      have s1 := Same.new (o := .tup [.int (widU k : Int)]) (Same.refl B) htk
      have s2 := Same.new (o := .tup [.ref x, .ref tk, .int (givU k : Int), .bl (heldU k)]) (Same.refl _) ht
      have s12 := s1.trans s2
      refine kk A k t x tk _ (kA.trans (Kept.same (sB.trans s12))) (hp2.keep (sB.trans s12)) hA ⟨ea, ok, fs, ⟨dx, s12 _ _ hx⟩, c⟩ (.inl (.inl (s2 _ _ upd_same))) (.inl (.inl upd_same))
    refine ⟨_, rfl, rfl, _, rfl, ite2 (fun h => ?_) (fun h => ?_)⟩
    · refine ⟨_, rfl, fun x dx nx ndx ne => ⟨x, dx, m, rfl, upd_same, m1, m8, fun fs B c k7 hx => ⟨rfl, _, rfl, (by show 1 ≤ sizeLine; decide), fun tk htk => ⟨(by show 4 ≤ sizeLine; decide), fun t ht => ?_⟩⟩⟩⟩
      exact fin (A := (CD, false)) (k := .down m) (.tail _ (.head _)) rfl ⟨m1, m8⟩ nx ndx ne k7 hx c tk htk t ht
    refine ⟨_, rfl, rfl, _, rfl, ite2 (fun h => ?_) (fun h => ?_)⟩
    · refine ⟨_, rfl, fun x dx nx ndx ne => ⟨x, dx, m, false, rfl, upd_same, m1, m8, fun fs B c k7 hx => ⟨rfl, (by show 1 ≤ sizeLine; decide), fun tk htk => ⟨_, rfl, (by show 4 ≤ sizeLine; decide), fun t ht => ?_⟩⟩⟩⟩
      exact fin (A := (CU, true)) (k := .up m false) (.head _) rfl ⟨m1, m8⟩ nx ndx ne k7 hx c tk htk t ht
    refine ⟨_, rfl, rfl, _, rfl, ite2 (fun h => ?_) (fun h => ?_)⟩
    · refine ⟨_, rfl, rfl, rfl, fun x dx nx ndx ne => ⟨x, dx, m, true, rfl, upd_same, m1, m8, fun fs B c k7 hx => ⟨rfl, (by show 1 ≤ sizeLine; decide), fun tk htk => ⟨_, rfl, (by show 4 ≤ sizeLine; decide), fun t ht => ?_⟩⟩⟩⟩
      exact fin (A := (CU, true)) (k := .up m true) (.head _) rfl ⟨m1, m8⟩ nx ndx ne k7 hx c tk htk t ht
    · refine ⟨_, rfl, fun x dx nx ndx ne => ⟨x, dx, m, false, rfl, upd_same, m1, m8, fun fs B c k7 hx => ⟨rfl, (by show 1 ≤ sizeLine; decide), fun tk htk => ⟨_, rfl, (by show 4 ≤ sizeLine; decide), fun t ht => ?_⟩⟩⟩⟩
      exact fin (A := (CU, true)) (k := .up m false) (.head _) rfl ⟨m1, m8⟩ nx ndx ne k7 hx c tk htk t ht
end
end Sw
namespace Sw
open PySem PySem.Spec PyProof.Rows L2
def widD (m : Nat) : PyData := .tuple [.int (m : Int)]
theorem widD_ok : ∀ m : Nat, m ≤ 8 → SeqAt.shaped (widD m) = true ∧ PyData.eqv (widD m) (widD m) = true := by decide +kernel
theorem dueL_snoc (x : Int) (h : Bool) (j : Nat) : dueL x h (j + 1) = dueL x h j ++ [x * (if (decide ((j : Int) = 0) || h) = true then 1 else 0)] := by
  unfold dueL
  rw [List.range_succ, List.map_append]
  rfl
section
variable {P : Program} {w : World} {K : PySem.W.Frag} {mg : Str → Option Value} {base : Heap} {f f1 f2 f3 f4 f5 f6 f7 f8 f9 C CN CU CD : Addr} {fd fd1 fd2 fd3 fd4 fd5 fd6 fd7 fd8 fd9 : FuncData}
abbrev nLaw : List Str := ["_law_script", "_law_k", "_law_pot_here", "_law_node", "_law_takes", "_law_gives", "_law_is_held", "_law_memory", "_law_j", "_law_row", "_law_due", "_law_handed", "_law_behind", "_law_given", "_law_place"]
theorem scLaw : FnScope nLaw ["_law_script"] (defScope sLaw) := ⟨rfl, rfl, rfl, by decide +kernel, rfl, by decide +kernel, by decide +kernel⟩
theorem ok_law (F : FnP K "law" sLaw f fd)
    (GCe : FnOk P w K mg base CX0 1 f1 fd1 ["_law_script", "_law_k"] (spCell K)) (gCe : mg "_law_cell" = some (.ref f1)) (kCe : PySem.W.keepIn K (.ref f1) = true) (bCe : Binds K fd1 ["_law_script", "_law_k"] [])
    (GPo : FnOk P w K mg base CX0 1 f2 fd2 ["_law_cell_here"] spPot) (gPo : mg "_law_pot" = some (.ref f2)) (kPo : PySem.W.keepIn K (.ref f2) = true) (bPo : Binds K fd2 ["_law_cell_here"] [])
    (GDr : FnOk P w K mg base CX0 1 f3 fd3 ["_law_pot_here", "_law_base"] spDraw) (gDr : mg "_law_draw" = some (.ref f3)) (kDr : PySem.W.keepIn K (.ref f3) = true) (bDr : Binds K fd3 ["_law_pot_here", "_law_base"] [])
    (GNu : FnOk P w K mg base CX0 2 f4 fd4 ["_law_pot_here"] spNumber) (gNu : mg "_law_number" = some (.ref f4)) (kNu : PySem.W.keepIn K (.ref f4) = true) (bNu : Binds K fd4 ["_law_pot_here"] [])
    (GMa : FnOk P w K mg base CX0 6 f5 fd5 ["_law_pot_here"] (spMade K CU CD)) (gMa : mg "_law_made" = some (.ref f5)) (kMa : PySem.W.keepIn K (.ref f5) = true) (bMa : Binds K fd5 ["_law_pot_here"] [])
    (hT : ∀ A, A ∈ AsU CU CD → MethC P w K mg base 1 "takes" ["self"] (spUTakes K A) A.1) (hG : ∀ A, A ∈ AsU CU CD → MethC P w K mg base 1 "gives" ["self"] (spUGives A) A.1)
    (hF : ∀ A, A ∈ AsU CU CD → MethC P w K mg base 1 "fresh" ["self"] (spUFresh K A) A.1) (hI : ∀ A, A ∈ AsU CU CD → MethC P w K mg base 3 "fire" ["self", "memory", "rows"] (spUFire K A) A.1)
    (gRange : mg "range" = none) (gMax : mg "max" = none) (gMin : mg "min" = none) (gLen : mg "len" = none) (gInt : mg "int" = none) (gList : mg "list" = none) (gRepr : mg "repr" = none) : FnG P w K mg base CX0 8 f fd ["_law_script"] (spLaw K) := by
  refine F.okG scLaw (fun vs H Q E h => ?_) (fun cdv A outer s H vs Q E hr guard h => ?_)
  · obtain ⟨a, ns, rfl, _⟩ := h
    rfl
  · obtain ⟨a, ns, rfl, hS, hlen, kk⟩ := h
    have hr6 : Room 6 _ := hr.mono (by decide)
    have hr3 : Room 3 _ := hr.mono (by decide)
    have hr2 : Room 2 _ := hr.mono (by decide)
    have hr1 : Room 1 _ := hr.mono (by decide)
    have un := hr.un
    have hu := hr.units
    have nd := scLaw.nd
    have R : ∀ {X : Cx}, X.A = A.deeper (envOfC "law" (defScope sLaw) s.heap.objs.size f cdv) → CallR X (.builtin "repr") (rReprD X.K) := fun {X} e => call_reprD (by rw [e]; exact guard) (by rw [e]; omega)
    refine ⟨_, PSs.nox (pss_cons (ps_for PassesOwn.never rfl (pi_range1 rfl gRange (pa_cons (pe_callB (call_max2 rfl) (by rfl) gMax (by decide +kernel) (pa_cons pe_int (pa_cons (pe_callB (call_min2 rfl) (by rfl) gMin (by decide +kernel) (pa_cons (pe_callB call_len_seq (by rfl) gLen PySem.boot_len (pa_cons (pv 0) pa_nil)) (pa_cons pe_int pa_nil))) pa_nil))) pa_nil)) (pg_name (i := 1) nd rfl (Or.inl rfl))
      (pss_cons (ps_set (i := 2) nd rfl (Or.inr rfl) (pe_call GPo hr1 rfl gPo kPo bPo .nil pass0 (pa_cons (pe_call GCe hr1 rfl gCe kCe bCe .nil pass0 (pa_cons (pv 0) (pa_cons (pv 1) pa_nil))) pa_nil)))
      (pss_cons (ps_asg (pe_call GMa hr6 rfl gMa kMa bMa .nil pass0 (pa_cons (pv 2) pa_nil)) (pg_tup rfl (pgs_cons (pg_name (i := 3) nd rfl (Or.inl rfl)) (pgs_cons (pg_name (i := 4) nd rfl (Or.inl rfl)) (pgs_cons (pg_name (i := 5) nd rfl (Or.inl rfl)) (pgs_cons (pg_name (i := 6) nd rfl (Or.inr rfl)) pgs_nil))))))
      (pss_cons (ps_if (PW.pt (pw_or (pt_cmpR (op_neD hu) (pe_methOf0 (As := AsU CU CD) (cl := fun A => A.1) (sp := spUTakes K) (pv 3) hT hr1) (pv 4) (nomark _)) (pw_or1 (pt_cmpR op_ne (pe_methOf0 (As := AsU CU CD) (cl := fun A => A.1) (sp := spUGives) (pv 3) hG hr1) (pv 5) (nomark _))))) (pss_one (ps_ret pe_bl)) pss_nil)
      (pss_cons (ps_set (i := 7) nd rfl (Or.inl rfl) (pe_methOf0 (As := AsU CU CD) (cl := fun A => A.1) (sp := spUFresh K) (pv 3) hF hr1))
      (pss_one (ps_for PassesOwn.never rfl (pi_range1 rfl gRange (pa_cons (pe_op op_add pe_int (pe_call GDr hr1 rfl gDr kDr bDr .nil pass0 (pa_cons (pv 2) (pa_cons pe_int pa_nil)))) pa_nil)) (pg_name (i := 8) nd rfl (Or.inl rfl))
      (pss_cons (ps_set (i := 9) nd rfl (Or.inr rfl) (pe_lc (own := [("_law_place", 14)]) (g := (gName 14)) (tt := tYes) rfl nd (pi_range1 rfl gRange (pa_cons (pe_ix ix_tup (pv 4) pe_int (fun _ _ => rfl)) pa_nil)) (blkOk_by (N := nLaw) (sc := defScope sLaw) (by decide +kernel))
        (fun _ _ _ _ _ => (pg_name (i := 14) nd rfl (Or.inl rfl))) (fun _ _ _ _ _ => pts_nil) (fun _ _ _ _ _ => (pe_call GNu hr2 rfl gNu kNu bNu .nil pass0 (pa_cons (pv 2) pa_nil)))))
      (pss_cons (ps_setLc (i := 10) (own := [("_law_place", 14)]) (g := (gName 14)) (tt := tYes) rfl nd rfl rfl (sw_true rfl rfl rfl rfl) (pi_range1 rfl gRange (pa_cons (pv 5) pa_nil)) (blkOk_by (N := nLaw) (sc := defScope sLaw) (by decide +kernel))
        (fun _ _ _ _ _ => (pg_name (i := 14) nd rfl (Or.inl rfl))) (fun _ _ _ _ _ => pts_nil) (fun _ _ _ _ _ => (pe_op op_mul (pe_ix (ix_listK (K := K) rfl) (pv 9) pe_int (fun _ _ => rfl)) (pe_callTy call_int1 (by rfl) gInt PyProof.Rows.boot_int (pa_cons (pe_or (pe_cmpR op_eq (pv 14) pe_int (nomark _)) (pe_one (pv 6))) pa_nil)))))
      (pss_cons (ps_set (i := 11) nd rfl (Or.inl rfl) (pe_lst (pa_cons (pe_callTy (call_list_ofK (K := K) rfl) (by rfl) gList PyProof.Rows.boot_list (pa_cons (pv 9) pa_nil)) pa_nil)))
      (pss_cons (ps_asg (pe_methOf (As := AsU CU CD) (cl := fun A => A.1) (sp := spUFire K) (pv 3) hI hr3 (pa_cons (pv 7) (pa_cons (pv 11) pa_nil))) (pg_tup rfl (pgs_cons (pg_name (i := 12) nd rfl (Or.inl rfl)) (pgs_cons (pg_name (i := 13) nd rfl (Or.inl rfl)) pgs_nil))))
      (pss_cons (ps_if (PW.pt (pw_or (pt_cmpR op_ne (pe_callB (R rfl) (by rfl) gRepr boot_repr (pa_cons (pv 13) pa_nil)) (pe_callB (R rfl) (by rfl) gRepr boot_repr (pa_cons (pv 10) pa_nil)) (nomark _)) (pw_or1 (pt_cmpR (op_neD hu) (pv 11) (pe_lst (pa_cons (pv 9) pa_nil)) (nomark _))))) (pss_one (ps_ret pe_bl)) pss_nil)
      (pss_cons (ps_expr (pe_bm0 PySem.F.plainAttrs_list PySem.F.slot_list_reverse PySem.F.type_list_reverse mt_reverse (pv 13)))
      (pss_cons (ps_expr (pe_bm PySem.F.plainAttrs_list PySem.F.slot_list_append PySem.F.type_list_append mt_append (pv 13) (pa_cons pe_int pa_nil)))
      (pss_cons (ps_if (pt_cmpR op_ne (pe_callB (R rfl) (by rfl) gRepr boot_repr (pa_cons (pe_ix ix_tup (pe_methOf (As := AsU CU CD) (cl := fun A => A.1) (sp := spUFire K) (pv 3) hI hr3 (pa_cons (pv 7) (pa_cons (pv 11) pa_nil))) pe_int (fun _ _ => rfl)) pa_nil)) (pe_callB (R rfl) (by rfl) gRepr boot_repr (pa_cons (pv 10) pa_nil)) (nomark _)) (pss_one (ps_ret pe_bl)) pss_nil)
      (pss_one (ps_set (i := 7) nd rfl (Or.inl rfl) (pv 12))))))))))))))))))
      (pss_one (ps_ret pe_bl))), ?_⟩
    refine ⟨_, rfl, a, _, rfl, .inl hS, _, _, rfl, _, _, rfl, _, rfl, ?_, ?_, for_range (fun i σ H' => ∃ (u1 u2 u3 u4 u5 u6 u7 u8 u9 u10 u11 u12 u13 : Option V), σ = [some (.ref a), u1, u2, u3, u4, u5, u6, u7, u8, u9, u10, u11, u12, u13, none] ∧ Same H H') ⟨_, _, _, _, _, _, _, _, _, _, _, _, _, rfl, Same.refl _⟩ ?_ ?_⟩
    · rw [List.length_map]
      split <;> split <;> omega
    · rw [List.length_map]
      split <;> split <;> omega
    · rintro i σ H1 hi ⟨u1, u2, u3, u4, u5, u6, u7, u8, u9, u10, u11, u12, u13, rfl, s1⟩
      refine ⟨_, rfl, _, rfl, a, ns, i, ?_, s1.seq hS, fun z => ?_⟩
      · rw [Int.zero_add]
        rfl
      refine ⟨z, rfl, fun p H2 np s2 hp => ?_⟩
      have p0 : H p = none := s1.free np
      have t2 := s1.trans s2
      refine ⟨_, rfl, p, rfl, hp, fun B k t n tk H3 k3 hp3 hB hn htk ht => ?_⟩
      have t3 := Same.kept t2 p0 k3
      refine ⟨t, _, rfl, ht, rfl, _, _, rfl, _, _, rfl, _, _, rfl, _, _, rfl, rfl, ?_⟩
      have ok := hn.2.1
      obtain ⟨_, g1, g8, w1, w8⟩ := dueU_len (xs := []) ok
      obtain ⟨dx, fs, hin, no⟩ := hn.ins
      -- takes and gives
      refine ⟨_, rfl, B, n, dx, fs, hB, rfl, hin, no "takes" (by decide +kernel), n, k, rfl, hn, fun tt H4 s4 htt => ?_⟩
      obtain ⟨o1, o2⟩ := widD_ok _ w8
      refine ⟨_, rfl, widD _, widD _, .tup htt (.cons (.int _) .nil), .tup (Same.tup s4 htk) (.cons (.int _) .nil), o1, o1, ?_⟩
      rw [o2]
      refine ⟨_, rfl, iteF ?_⟩
      refine ⟨_, rfl, B, n, dx, fs, hB, rfl, s4 _ _ hin, no "gives" (by decide +kernel), n, k, rfl, hn.keep s4, _, rfl, rfl, _, rfl, iteNS rfl ?_⟩
      have t4 := t3.trans s4
      have hp4 := hp3.keep s4
      -- fresh
      refine ⟨_, rfl, B, n, dx, fs, hB, rfl, s4 _ _ hin, no "fresh" (by decide +kernel), n, k, rfl, hn.keep s4, fun v H5 s5 hv => ?_⟩
      have t5 := t4.trans s5
      have hp5 := hp4.keep s5
      have hn5 := (hn.keep s4).keep s5
      have htk5 := Same.tup s5 (Same.tup s4 htk)
      refine ⟨_, rfl, p, 9, rfl, hp5, by decide, by decide, fun d H6 d0 d1 k6 hp6 => ?_⟩
      refine ⟨_, _, rfl, rfl, _, rfl, by omega, by omega, for_range (fun j σ G => ∃ (w8 w9 w10 w11 w12 w13 : Option V) (v : V), σ = [some (.ref a), some (.int (0 + (i : Int))), some (.ref p), some (.ref n), some (.ref tk), some (.int (givU k : Int)), some (.bl (heldU k)), some v, w8, w9, w10, w11, w12, w13, none] ∧ Kept p H5 G ∧ PotAt G p ∧ MemU K G v)
        ⟨_, _, _, _, _, _, v, rfl, k6, hp6, hv.kept k6 hp5⟩ ?_ ?_⟩
      · rintro j σ G hj ⟨w8', w9, w10, w11, w12, w13, v, rfl, kG, hpG, hvG⟩
        have htkG := kG.tup hp5 htk5
        have hnG := hn5.kept kG hp5
        refine ⟨_, rfl, tk, _, _, _, rfl, rfl, htkG, atI_nat (j := 0) rfl, _, rfl, by omega, by omega, fun D hD => ?_⟩
        have nDp : D ≠ p := fun z => by
          obtain ⟨_, _, _, _, _, hx⟩ := hpG
          rw [z, hx] at hD
          cases hD
        refine lc_range (fun c H' => ∃ xs : List Int, xs.length = c ∧ H' D = some (.lst (xs.map V.int)) ∧ Kept p G H' ∧ PotAt H' p ∧ ∀ x ∈ xs, Num x)
          ⟨[], rfl, upd_same, Kept.past Kept.refl hD, hpG.keep (Same.new (Same.refl _) hD), fun _ h => (List.not_mem_nil h).elim⟩ (fun c H' hc e => ?_) (fun G1 e => ?_)
        · obtain ⟨xs, xl, hd, kx, hpx, nx⟩ := e
          refine ⟨rfl, ?_⟩
          refine yes_ite ?_
          refine ⟨_, rfl, p, rfl, hpx, fun x H7 x0 x1 k7 hp7 => ?_⟩
          have hd7 := k7 _ _ nDp hd
          refine ⟨_, hd7, ?_, xs ++ [x], by rw [List.length_append, xl]; rfl, ?_, (kx.trans k7).past hD, ?_, fun y hy => ?_⟩
          · rw [List.length_map, xl]
            exact Nat.lt_of_lt_of_le (show c < 9 by omega) (by decide)
          · rw [List.map_append]
            exact upd_same
          · obtain ⟨b1, b2, b3, b4, b5, b6⟩ := hp7
            exact ⟨b1, b2, b3, b4, b5, by rw [upd_ne nDp.symm]; exact b6⟩
          · rcases List.mem_append.mp hy with hy | hy
            · exact nx y hy
            · rcases List.mem_cons.mp hy with rfl | hy
              · exact ⟨x0, x1⟩
              · cases hy
        · obtain ⟨xs, xl, hd, kx, hpx, nx⟩ := e
          have xl : xs.length = widU k := by omega
          obtain ⟨x, r, exs⟩ : ∃ x r, xs = x :: r := by
            match xs, xl with
            | x :: r, _ => exact ⟨x, r, rfl⟩
            | [], z => exact absurd z (by show ¬ 0 = widU k; omega)
          -- what is due
          refine ⟨_, rfl, _, rfl, by omega, by omega, fun D2 hD2 => ?_⟩
          refine lc_range (fun c H' => H' D2 = some (.lst ((dueL x (heldU k) c).map V.int)) ∧ Same G1 H')
            ⟨upd_same, Same.past (Same.refl _) hD2⟩ (fun c H' hc e => ?_) (fun G2 e => ?_)
          · obtain ⟨hd2, s2'⟩ := e
            refine ⟨rfl, ?_⟩
            refine yes_ite ?_
            refine ⟨_, rfl, D, _, _, .int x, rfl, rfl, SqL.of (s2' _ _ hd), by rw [exs]; exact atI_nat (j := 0) rfl, ?_⟩
            have fin : ∀ q : Bool, q = (decide ((c : Int) = 0) || heldU k) → ∃ acc, H' D2 = some (.lst acc) ∧ acc.length < sizeLine ∧ (upd H' D2 (.lst (acc ++ [V.int (x * if q = true then 1 else 0)]))) D2 = some (.lst ((dueL x (heldU k) (c + 1)).map V.int)) ∧ Same G1 (upd H' D2 (.lst (acc ++ [V.int (x * if q = true then 1 else 0)]))) := fun q eq => by
              refine ⟨_, hd2, ?_, ?_, Same.past s2' hD2⟩
              · rw [List.length_map]
                unfold dueL
                rw [List.length_map, List.length_range]
                exact Nat.lt_of_lt_of_le (show c < 9 by omega) (by decide)
              · rw [dueL_snoc, List.map_append, eq]
                exact upd_same
            refine ⟨_, rfl, rfl, _, rfl, ite2 (fun h => ?_) (fun h => ?_)⟩
            · refine .inr ⟨true, rfl, _, _, rfl, rfl, .inr ⟨by decide, by decide⟩, ?_⟩
              refine fin true ?_
              have : (c : Int) = 0 := by
                have h' := of_decide_eq_true h
                injection h' with h'
                omega
              rw [decide_eq_true this]
              rfl
            · refine ⟨_, rfl, .inr ⟨heldU k, rfl, _, _, rfl, rfl, .inr ⟨by split <;> decide, by split <;> decide⟩, ?_⟩⟩
              refine fin (heldU k) ?_
              have : ¬ (c : Int) = 0 := fun z => h (decide_eq_true (by rw [Int.zero_add, z]))
              rw [decide_eq_false this]
              rfl
          · obtain ⟨hd2, s2'⟩ := e
            have edue : dueL x (heldU k) (givU k) = dueU k xs := by
              rw [dueL_eq ok, exs]
              rfl
            rw [Int.toNat_natCast, edue] at hd2
            have dlog : ∀ y ∈ dueU k xs, y.natAbs.log2 < 1920 := dueU_log nx (by omega)
            have dlen : (dueU k xs).length ≤ 1000 := by
              rw [(dueU_len (xs := xs) ok).1]
              omega
            -- handed in
            refine ⟨_, rfl, D, _, rfl, .inl (SqL.of (s2' _ _ hd)), fun r0 hr0 => ⟨(by show 1 ≤ sizeLine; decide), fun r1 hr1 => ?_⟩⟩
            have s3' := Same.new (o := .lst (xs.map V.int)) (Same.refl G2) hr0
            have s4' := Same.new (o := .lst [V.ref r0]) (Same.refl _) hr1
            have q0 : (upd (upd G2 r0 (.lst (xs.map V.int))) r1 (.lst [V.ref r0])) r0 = some (.lst (xs.map V.int)) := s4' _ _ upd_same
            have q1 : (upd (upd G2 r0 (.lst (xs.map V.int))) r1 (.lst [V.ref r0])) r1 = some (.lst [V.ref r0]) := upd_same
            have s34 := s3'.trans s4'
            generalize upd (upd G2 r0 (.lst (xs.map V.int))) r1 (.lst [V.ref r0]) = G3 at s34 q0 q1
            have sG3 : Same G1 G3 := s2'.trans s34
            have kG3 : Kept p G G3 := kx.trans (Kept.same sG3)
            have hpG3 : PotAt G3 p := hpx.keep sG3
            have hn3 := hnG.kept kG3 hpG
            have hv3 := hvG.kept kG3 hpG
            obtain ⟨dx3, fs3, hin3, no3⟩ := hn3.ins
            have hd3 := sG3 _ _ hd
            have hd23 := s34 _ _ hd2
            -- the firing
            refine ⟨_, rfl, B, n, dx3, fs3, hB, rfl, hin3, no3 "fire" (by decide +kernel), _, rfl, _, rfl, ?_⟩
            refine ⟨n, r1, k, v, xs, rfl, hn3, hv3, ⟨r0, q1, q0⟩, xl, fun t1 l1 v1 G4 s5' fr ht1 hv1 hl1 => ?_⟩
            refine ⟨t1, _, rfl, .inl (.inl ht1), rfl, _, _, rfl, _, _, rfl, rfl, ?_⟩
            obtain ⟨S, hSh⟩ : ∃ S, (PyData.list ((dueU k xs).map PyData.int)).shown = S := ⟨_, rfl⟩
            refine ⟨_, rfl, l1, _, S, rfl, dp_at hl1, shaped_ints _, intsD_show dlog, intsD_len dlog dlen, hSh, ?_⟩
            refine ⟨_, rfl, D2, _, S, rfl, dp_at (s5' _ _ hd23), shaped_ints _, intsD_show dlog, intsD_len dlog dlen, hSh, rfl, _, rfl, iteNS rfl ?_⟩
            refine ⟨_, rfl, _, rfl, (by show 1 ≤ sizeLine; decide), fun r2 hr2 => ?_⟩
            have s6' := Same.new (o := .lst [V.ref D]) (Same.refl G4) hr2
            refine ⟨_, _, row1_dp (s6' _ _ (s5' _ _ q1)) (s6' _ _ (s5' _ _ q0)), row1_dp upd_same (s6' _ _ (s5' _ _ hd3)), row1_shaped _, row1_shaped _, ?_⟩
            rw [row1_eqv]
            refine ⟨_, rfl, iteF ?_⟩
            -- the told list is changed
            have hl6 := s6' _ _ hl1
            have hv6 := hv1.keep s6'
            have s56 := s5'.trans s6'
            generalize upd G4 r2 (.lst [V.ref D]) = G5 at s6' hl6 hv6 s56
            refine ⟨_, rfl, .inl ⟨rfl, _, SqL.of hl6⟩, l1, _, rfl, rfl, hl6, ?_⟩
            refine ⟨_, rfl, .inl ⟨rfl, _, SqL.of upd_same⟩, l1, _, _, rfl, rfl, upd_same, ?_, ?_⟩
            · rw [List.length_reverse, List.length_map]
              exact Nat.lt_of_le_of_lt dlen (by decide)
            have s7' : Same G3 (upd (upd G5 l1 (.lst ((dueU k xs).map V.int).reverse)) l1 (.lst (((dueU k xs).map V.int).reverse ++ [V.int 1]))) := Same.past (Same.past s56 fr) fr
            have hv7 : MemU K (upd (upd G5 l1 (.lst ((dueU k xs).map V.int).reverse)) l1 (.lst (((dueU k xs).map V.int).reverse ++ [V.int 1]))) v1 := by
              obtain ⟨q, e, hq⟩ := hv6
              refine ⟨q, e, ?_⟩
              rcases hq with (hq | ⟨o, hq⟩) | hq
              · exact .inl (.inl (by rw [upd_ne (fun z => by rw [z, hl6] at hq; cases hq), upd_ne (fun z => by rw [z, hl6] at hq; cases hq)]; exact hq))
              · exact .inl (.inr ⟨o, by rw [upd_ne (fun z => by rw [z, hl6] at hq; cases hq), upd_ne (fun z => by rw [z, hl6] at hq; cases hq)]; exact hq⟩)
              · exact .inr hq
            generalize upd (upd G5 l1 (.lst ((dueU k xs).map V.int).reverse)) l1 (.lst (((dueU k xs).map V.int).reverse ++ [V.int 1])) = G6 at s7' hv7
            -- fired once more
            obtain ⟨dx6, fs6, hin6, no6⟩ := (hn3.keep s7').ins
            refine ⟨_, rfl, B, n, dx6, fs6, hB, rfl, hin6, no6 "fire" (by decide +kernel), _, rfl, _, rfl, ?_⟩
            refine ⟨n, r1, k, v, xs, rfl, hn3.keep s7', hv3.keep s7', ⟨r0, s7' _ _ q1, s7' _ _ q0⟩, xl, fun t2 l2 v2 G7 s8' _ ht2 hv2 hl2 => ?_⟩
            refine ⟨t2, _, _, _, rfl, rfl, .inl (.inl ht2), atI_nat (j := 1) rfl, l2, _, S, rfl, dp_at hl2, shaped_ints _, intsD_show dlog, intsD_len dlog dlen, hSh, ?_⟩
            refine ⟨_, rfl, D2, _, S, rfl, dp_at (s8' _ _ (s7' _ _ hd23)), shaped_ints _, intsD_show dlog, intsD_len dlog dlen, hSh, rfl, _, rfl, iteNS rfl ?_⟩
            refine ⟨_, rfl, _, _, _, _, _, _, v1, rfl, (kG.trans kG3).trans (Kept.same (s7'.trans s8')), hpG3.keep (s7'.trans s8'), hv7.keep s8'⟩
      · rintro σ G ⟨w8', w9, w10, w11, w12, w13, v, rfl, kG, hpG, hvG⟩
        exact ⟨_, _, _, _, _, _, _, _, _, _, _, _, _, rfl, Same.kept t5 p0 kG⟩
    · rintro σ H1 ⟨u1, u2, u3, u4, u5, u6, u7, u8, u9, u10, u11, u12, u13, rfl, s1⟩
      exact kk H1
end
end Sw
namespace Sw
open PySem PySem.Spec PyProof.Rows L2
/-! ### the head: facts by names -/
/-- as hookD, with one test more of the written part -/
def obsX (fa : List He.Fa) (fn : List He.DefD) (ex : PySem.W.Frag → Bool) (K : PySem.W.Frag) : Bool × He.AlD := (ex K, He.obsD fa fn K)
def obsXG (n : Nat) (fa : List He.Fa) (fn : List He.DefD) (ex : PySem.W.Frag → Bool) (g : Addr → Option Obj) : Bool × He.AlD := obsX fa fn ex (He.frG g (cStatics :: He.asD g n))
def hookX (n : Nat) (fa : List He.Fa) (fn : List He.DefD) (ex : PySem.W.Frag → Bool) : PySem.W.Hook where
  α := Bool × He.AlD
  obs := fun s => obsXG n fa fn ex s.heap.get?
  val := fun _ => (true, He.valD fn)
  says := fun _ h => ∃ K : PySem.W.Frag, K.In h ∧ ex K = true ∧ He.SaysD fa fn K
  of := fun _ _ e => ⟨_, He.frG_in, congrArg (fun z : Bool × He.AlD => z.1) e, congrArg (fun z : Bool × He.AlD => z.2) e⟩
  keeps := fun _ _ _ ⟨K, hK, c⟩ k => ⟨K, PySem.W.Frag.In.keeps hK k, c⟩
theorem obsXG_eq {n : Nat} {fa : List He.Fa} {fn : List He.DefD} {ex : PySem.W.Frag → Bool} {g : Addr → Option Obj} {s : Shared} (h : ∀ a, g a = s.heap.get? a) : obsXG n fa fn ex g = (hookX n fa fn ex).obs s := by
  have e : g = s.heap.get? := funext h
  rw [e] <;> rfl
def kitF (K : PySem.W.Frag) (t u : Value) (b : Bool) : Bool := decide (PySem.W.kitOne K t u = some b)
def dfn (x : Str) (st : Stmt) : He.DefD := ⟨(x, none), x, x, defArgs st, defBody st, defScope st, [], []⟩
def baseB (K : PySem.W.Frag) (C f : Addr) (m : Str) : Bool := PySem.W.readsIn K C (.type "type") && (decide (PySem.W.specialIn K (.ref C) "__getattribute__" = some (some (.builtin "type.__getattribute__"))) &&
  ((match PySem.W.findCls K (.ref C) (.type "type") m with
    | some (.val (.ref g)) => decide (g = f)
    | _ => false) && PySem.W.keepIn K (.ref f)))
theorem baseB_ok {K : PySem.W.Frag} {C f : Addr} {m : Str} (h : baseB K C f m = true) : BaseM K C m f := by
  obtain ⟨h1, h⟩ := He.ba h
  obtain ⟨h2, h⟩ := He.ba h
  obtain ⟨h3, h4⟩ := He.ba h
  refine ⟨h1, of_decide_eq_true h2, ?_, h4⟩
  cases e : PySem.W.findCls K (.ref C) (.type "type") m with
  | none =>
    rw [e] at h3
    cases h3
  | some r =>
    rw [e] at h3
    cases r with
    | val v =>
      cases v with
      | ref g => rw [of_decide_eq_true (show decide (g = f) = true from h3)]
      | _ => cases h3
    | get _ _ _ _ => cases h3
theorem vals_take1 {vs : List V} {us : List Value} (r : Vals vs us) : Vals (vs.take 1) (us.take 1) := by
  cases r with
  | nil => exact .nil
  | cons a _ => exact .cons a .nil
def fn : List He.DefD := [dfn "is_whole" sWhole, dfn "is_whole_within" sWithin, dfn "is_truth" sTruth, dfn "need" sNeed, dfn "run_firing" sFiring, dfn "_law_cell" sCell, dfn "_law_pot" sPot, dfn "_law_draw" sDraw, dfn "_law_number" sNumber, dfn "_law_made" sLMade, dfn "law" sLaw, (⟨("Node", some "__init__"), "__init__", "Node.__init__", defArgs sNodeInit, defBody sNodeInit, defScope sNodeInit, [], []⟩ : He.DefD), (⟨("Up", some "__init__"), "__init__", "Up.__init__", defArgs sUpInit, defBody sUpInit, defScope sUpInit, [.bl false], [("late", .int 0), ("begin", .int 0)]⟩ : He.DefD), (⟨("Up", some "takes"), "takes", "Up.takes", defArgs sUpTakes, defBody sUpTakes, defScope sUpTakes, [], []⟩ : He.DefD), (⟨("Up", some "gives"), "gives", "Up.gives", defArgs sUpGives, defBody sUpGives, defScope sUpGives, [], []⟩ : He.DefD), (⟨("Up", some "fresh"), "fresh", "Up.fresh", defArgs sUpFresh, defBody sUpFresh, defScope sUpFresh, [], []⟩ : He.DefD), (⟨("Up", some "fire"), "fire", "Up.fire", defArgs sUpFire, defBody sUpFire, defScope sUpFire, [], []⟩ : He.DefD), (⟨("Up", some "work"), "work", "Up.work", defArgs sUpWork, defBody sUpWork, defScope sUpWork, [], []⟩ : He.DefD), (⟨("Down", some "__init__"), "__init__", "Down.__init__", defArgs sDownInit, defBody sDownInit, defScope sDownInit, [], [("late", .int 0), ("begin", .int 0)]⟩ : He.DefD), (⟨("Down", some "takes"), "takes", "Down.takes", defArgs sDownTakes, defBody sDownTakes, defScope sDownTakes, [], []⟩ : He.DefD), (⟨("Down", some "gives"), "gives", "Down.gives", defArgs sDownGives, defBody sDownGives, defScope sDownGives, [], []⟩ : He.DefD), (⟨("Down", some "fresh"), "fresh", "Down.fresh", defArgs sDownFresh, defBody sDownFresh, defScope sDownFresh, [], []⟩ : He.DefD), (⟨("Down", some "fire"), "fire", "Down.fire", defArgs sDownFire, defBody sDownFire, defScope sDownFire, [], []⟩ : He.DefD), (⟨("Down", some "work"), "work", "Down.work", defArgs sDownWork, defBody sDownWork, defScope sDownWork, [], []⟩ : He.DefD)]
def fa : List He.Fa := [.glo "is_whole", .glo "is_whole_within", .glo "is_truth", .glo "need", .glo "run_firing", .glo "_law_cell", .glo "_law_pot", .glo "_law_draw", .glo "_law_number", .glo "_law_made", .glo "law", .free "len", .free "max", .free "min", .free "range", .free "isinstance", .free "int", .free "bool", .free "list", .free "repr", .int "MOST_LATE" 99, .int "MOST_BEGIN" 9999, .int "MOST_RATE" 8, .glo "Node", .glo "Up", .glo "Down", .cls "Up", .noat "Up" "made", .noat "Up" "late_by", .noat "Up" "begin_at", .noat "Up" "many", .noat "Up" "hold", .mkr "Up", .meth "Up" "takes", .meth "Up" "gives", .meth "Up" "fresh", .meth "Up" "fire", .meth "Up" "work", .cls "Down", .noat "Down" "made", .noat "Down" "late_by", .noat "Down" "begin_at", .noat "Down" "many", .mkr "Down", .meth "Down" "takes", .meth "Down" "gives", .meth "Down" "fresh", .meth "Down" "fire", .meth "Down" "work"]
def ex (K : PySem.W.Frag) : Bool := baseB K (He.ga K "Node") (He.ma K (He.ga K "Node") "__init__") "__init__"
abbrev R : PySem.W.OpenRow := PySem.W.OpenLaw.row PySem.Challenge.rw_sampleweave_k16_up_and_down
abbrev hk : PySem.W.Hook := hookX 5 fa fn ex
def ob (s : PySem.W.SharedT) : Bool × He.AlD := obsXG 5 fa fn ex (HandSHeadRun.getT s)
theorem ob_eq (s : PySem.W.SharedT) : ob s = hk.obs s.abs := obsXG_eq (HandSHeadRun.getT_eq s)
def loose : List Str := ["_wall", "WeaveError", "NoNode", "is_whole", "is_whole_within", "is_truth", "need", "run_firing", "MOST_LATE", "MOST_BEGIN", "Node", "MOST_RATE", "Up", "Down", "_law_cell", "_law_pot", "_law_draw", "_law_number", "_law_made"]
theorem run (w : World) : HandSHeadRun.RunEq R (PySem.W.view R.prog [25]) hk ob 9000 loose w := by
  intro os
  kernel_rfl
theorem facts {P : Program} {w : World} {K : PySem.W.Frag} {h : Heap} {mg : Str → Option Value} {f : Addr} (X : K.In h) (G : h.Ns mainGlobals mg) (hfa : mg ("law" : Str) = some (.ref f)) (cx : ex K = true) (c : He.SaysD fa fn K) :
    ∃ fd : FuncData, (∀ (s : Shared) (v : Value), BindsTo s fd ⟨[v], []⟩ [("_law_script", v)]) ∧ ∀ base : Heap, K.In base → base.Ns mainGlobals mg → FnG P w K mg base CX0 8 f fd ["_law_script"] (spLaw K) := by
  unfold ex at cx
  obtain ⟨d_is_whole, F_is_whole⟩ := c.def_ 0 (d := dfn "is_whole" sWhole) rfl
  have g_is_whole := He.glo_ok X G (c.fact 0 (f := .glo "is_whole") rfl)
  have b_is_whole : Binds K d_is_whole ["thing"] [] := FunD.bindsN F_is_whole fun _ _ _ _ _ _ us hl => match us, hl with | [_], _ => rfl
  obtain ⟨d_is_whole_within, F_is_whole_within⟩ := c.def_ 1 (d := dfn "is_whole_within" sWithin) rfl
  have g_is_whole_within := He.glo_ok X G (c.fact 1 (f := .glo "is_whole_within") rfl)
  have b_is_whole_within : Binds K d_is_whole_within ["thing", "least", "most"] [] := FunD.bindsN F_is_whole_within fun _ _ _ _ _ _ us hl => match us, hl with | [_, _, _], _ => rfl
  obtain ⟨d_is_truth, F_is_truth⟩ := c.def_ 2 (d := dfn "is_truth" sTruth) rfl
  have g_is_truth := He.glo_ok X G (c.fact 2 (f := .glo "is_truth") rfl)
  have b_is_truth : Binds K d_is_truth ["thing"] [] := FunD.bindsN F_is_truth fun _ _ _ _ _ _ us hl => match us, hl with | [_], _ => rfl
  obtain ⟨d_need, F_need⟩ := c.def_ 3 (d := dfn "need" sNeed) rfl
  have g_need := He.glo_ok X G (c.fact 3 (f := .glo "need") rfl)
  have b_need : Binds K d_need ["holds", "field"] [] := FunD.bindsN F_need fun _ _ _ _ _ _ us hl => match us, hl with | [_, _], _ => rfl
  obtain ⟨d_run_firing, F_run_firing⟩ := c.def_ 4 (d := dfn "run_firing" sFiring) rfl
  have g_run_firing := He.glo_ok X G (c.fact 4 (f := .glo "run_firing") rfl)
  have b_run_firing : Binds K d_run_firing ["node", "memory", "rows"] [] := FunD.bindsN F_run_firing fun _ _ _ _ _ _ us hl => match us, hl with | [_, _, _], _ => rfl
  obtain ⟨d__law_cell, F__law_cell⟩ := c.def_ 5 (d := dfn "_law_cell" sCell) rfl
  have g__law_cell := He.glo_ok X G (c.fact 5 (f := .glo "_law_cell") rfl)
  have b__law_cell : Binds K d__law_cell ["_law_script", "_law_k"] [] := FunD.bindsN F__law_cell fun _ _ _ _ _ _ us hl => match us, hl with | [_, _], _ => rfl
  obtain ⟨d__law_pot, F__law_pot⟩ := c.def_ 6 (d := dfn "_law_pot" sPot) rfl
  have g__law_pot := He.glo_ok X G (c.fact 6 (f := .glo "_law_pot") rfl)
  have b__law_pot : Binds K d__law_pot ["_law_cell_here"] [] := FunD.bindsN F__law_pot fun _ _ _ _ _ _ us hl => match us, hl with | [_], _ => rfl
  obtain ⟨d__law_draw, F__law_draw⟩ := c.def_ 7 (d := dfn "_law_draw" sDraw) rfl
  have g__law_draw := He.glo_ok X G (c.fact 7 (f := .glo "_law_draw") rfl)
  have b__law_draw : Binds K d__law_draw ["_law_pot_here", "_law_base"] [] := FunD.bindsN F__law_draw fun _ _ _ _ _ _ us hl => match us, hl with | [_, _], _ => rfl
  obtain ⟨d__law_number, F__law_number⟩ := c.def_ 8 (d := dfn "_law_number" sNumber) rfl
  have g__law_number := He.glo_ok X G (c.fact 8 (f := .glo "_law_number") rfl)
  have b__law_number : Binds K d__law_number ["_law_pot_here"] [] := FunD.bindsN F__law_number fun _ _ _ _ _ _ us hl => match us, hl with | [_], _ => rfl
  obtain ⟨d__law_made, F__law_made⟩ := c.def_ 9 (d := dfn "_law_made" sLMade) rfl
  have g__law_made := He.glo_ok X G (c.fact 9 (f := .glo "_law_made") rfl)
  have b__law_made : Binds K d__law_made ["_law_pot_here"] [] := FunD.bindsN F__law_made fun _ _ _ _ _ _ us hl => match us, hl with | [_], _ => rfl
  obtain ⟨d_law, F_law⟩ := c.def_ 10 (d := dfn "law" sLaw) rfl
  have e := hfa.symm.trans (He.glo_ok X G (c.fact 10 (f := .glo "law") rfl))
  cases e
  have bL := FunD.bindsA (ps := ["_law_script"]) F_law fun _ _ _ _ _ _ us hl => match us, hl with | [_], _ => rfl
  obtain ⟨d_Node_DinitD, F_Node_DinitD⟩ := c.def_ 11 (d := (⟨("Node", some "__init__"), "__init__", "Node.__init__", defArgs sNodeInit, defBody sNodeInit, defScope sNodeInit, [], []⟩ : He.DefD)) rfl
  have b_Node_DinitD : Binds K d_Node_DinitD ["self", "arguments", "late", "begin"] [] := FunD.bindsN F_Node_DinitD fun _ _ _ _ _ _ us hl => match us, hl with | [_, _, _, _], _ => rfl
  obtain ⟨d_Up_DinitD, F_Up_DinitD⟩ := c.def_ 12 (d := (⟨("Up", some "__init__"), "__init__", "Up.__init__", defArgs sUpInit, defBody sUpInit, defScope sUpInit, [.bl false], [("late", .int 0), ("begin", .int 0)]⟩ : He.DefD)) rfl
  obtain ⟨d_Up_takes, F_Up_takes⟩ := c.def_ 13 (d := (⟨("Up", some "takes"), "takes", "Up.takes", defArgs sUpTakes, defBody sUpTakes, defScope sUpTakes, [], []⟩ : He.DefD)) rfl
  have b_Up_takes : Binds K d_Up_takes ["self"] [] := FunD.bindsN F_Up_takes fun _ _ _ _ _ _ us hl => match us, hl with | [_], _ => rfl
  obtain ⟨d_Up_gives, F_Up_gives⟩ := c.def_ 14 (d := (⟨("Up", some "gives"), "gives", "Up.gives", defArgs sUpGives, defBody sUpGives, defScope sUpGives, [], []⟩ : He.DefD)) rfl
  have b_Up_gives : Binds K d_Up_gives ["self"] [] := FunD.bindsN F_Up_gives fun _ _ _ _ _ _ us hl => match us, hl with | [_], _ => rfl
  obtain ⟨d_Up_fresh, F_Up_fresh⟩ := c.def_ 15 (d := (⟨("Up", some "fresh"), "fresh", "Up.fresh", defArgs sUpFresh, defBody sUpFresh, defScope sUpFresh, [], []⟩ : He.DefD)) rfl
  have b_Up_fresh : Binds K d_Up_fresh ["self"] [] := FunD.bindsN F_Up_fresh fun _ _ _ _ _ _ us hl => match us, hl with | [_], _ => rfl
  obtain ⟨d_Up_fire, F_Up_fire⟩ := c.def_ 16 (d := (⟨("Up", some "fire"), "fire", "Up.fire", defArgs sUpFire, defBody sUpFire, defScope sUpFire, [], []⟩ : He.DefD)) rfl
  have b_Up_fire : Binds K d_Up_fire ["self", "memory", "rows"] [] := FunD.bindsN F_Up_fire fun _ _ _ _ _ _ us hl => match us, hl with | [_, _, _], _ => rfl
  obtain ⟨d_Up_work, F_Up_work⟩ := c.def_ 17 (d := (⟨("Up", some "work"), "work", "Up.work", defArgs sUpWork, defBody sUpWork, defScope sUpWork, [], []⟩ : He.DefD)) rfl
  have b_Up_work : Binds K d_Up_work ["self", "kept", "rows"] [] := FunD.bindsN F_Up_work fun _ _ _ _ _ _ us hl => match us, hl with | [_, _, _], _ => rfl
  obtain ⟨d_Down_DinitD, F_Down_DinitD⟩ := c.def_ 18 (d := (⟨("Down", some "__init__"), "__init__", "Down.__init__", defArgs sDownInit, defBody sDownInit, defScope sDownInit, [], [("late", .int 0), ("begin", .int 0)]⟩ : He.DefD)) rfl
  obtain ⟨d_Down_takes, F_Down_takes⟩ := c.def_ 19 (d := (⟨("Down", some "takes"), "takes", "Down.takes", defArgs sDownTakes, defBody sDownTakes, defScope sDownTakes, [], []⟩ : He.DefD)) rfl
  have b_Down_takes : Binds K d_Down_takes ["self"] [] := FunD.bindsN F_Down_takes fun _ _ _ _ _ _ us hl => match us, hl with | [_], _ => rfl
  obtain ⟨d_Down_gives, F_Down_gives⟩ := c.def_ 20 (d := (⟨("Down", some "gives"), "gives", "Down.gives", defArgs sDownGives, defBody sDownGives, defScope sDownGives, [], []⟩ : He.DefD)) rfl
  have b_Down_gives : Binds K d_Down_gives ["self"] [] := FunD.bindsN F_Down_gives fun _ _ _ _ _ _ us hl => match us, hl with | [_], _ => rfl
  obtain ⟨d_Down_fresh, F_Down_fresh⟩ := c.def_ 21 (d := (⟨("Down", some "fresh"), "fresh", "Down.fresh", defArgs sDownFresh, defBody sDownFresh, defScope sDownFresh, [], []⟩ : He.DefD)) rfl
  have b_Down_fresh : Binds K d_Down_fresh ["self"] [] := FunD.bindsN F_Down_fresh fun _ _ _ _ _ _ us hl => match us, hl with | [_], _ => rfl
  obtain ⟨d_Down_fire, F_Down_fire⟩ := c.def_ 22 (d := (⟨("Down", some "fire"), "fire", "Down.fire", defArgs sDownFire, defBody sDownFire, defScope sDownFire, [], []⟩ : He.DefD)) rfl
  have b_Down_fire : Binds K d_Down_fire ["self", "memory", "rows"] [] := FunD.bindsN F_Down_fire fun _ _ _ _ _ _ us hl => match us, hl with | [_, _, _], _ => rfl
  obtain ⟨d_Down_work, F_Down_work⟩ := c.def_ 23 (d := (⟨("Down", some "work"), "work", "Down.work", defArgs sDownWork, defBody sDownWork, defScope sDownWork, [], []⟩ : He.DefD)) rfl
  have b_Down_work : Binds K d_Down_work ["self", "kept", "rows"] [] := FunD.bindsN F_Down_work fun _ _ _ _ _ _ us hl => match us, hl with | [_, _, _], _ => rfl
  have z_len := He.free_ok X G (c.fact 11 (f := .free "len") rfl)
  have z_max := He.free_ok X G (c.fact 12 (f := .free "max") rfl)
  have z_min := He.free_ok X G (c.fact 13 (f := .free "min") rfl)
  have z_range := He.free_ok X G (c.fact 14 (f := .free "range") rfl)
  have z_isinstance := He.free_ok X G (c.fact 15 (f := .free "isinstance") rfl)
  have z_int := He.free_ok X G (c.fact 16 (f := .free "int") rfl)
  have z_bool := He.free_ok X G (c.fact 17 (f := .free "bool") rfl)
  have z_list := He.free_ok X G (c.fact 18 (f := .free "list") rfl)
  have z_repr := He.free_ok X G (c.fact 19 (f := .free "repr") rfl)
  have z_MOST_LATE := He.int_ok X G (c.fact 20 (f := .int "MOST_LATE" 99) rfl)
  have z_MOST_BEGIN := He.int_ok X G (c.fact 21 (f := .int "MOST_BEGIN" 9999) rfl)
  have z_MOST_RATE := He.int_ok X G (c.fact 22 (f := .int "MOST_RATE" 8) rfl)
  have G_Node := He.glo_ok X G (c.fact 23 (f := .glo "Node") rfl)
  have G_Up := He.glo_ok X G (c.fact 24 (f := .glo "Up") rfl)
  have G_Down := He.glo_ok X G (c.fact 25 (f := .glo "Down") rfl)
  have c_Up := He.cls_ok (c.fact 26 (f := .cls "Up") rfl)
  have n_Up_made := He.noat_ok (c.fact 27 (f := .noat "Up" "made") rfl)
  have n_Up_late_by := He.noat_ok (c.fact 28 (f := .noat "Up" "late_by") rfl)
  have n_Up_begin_at := He.noat_ok (c.fact 29 (f := .noat "Up" "begin_at") rfl)
  have n_Up_many := He.noat_ok (c.fact 30 (f := .noat "Up" "many") rfl)
  have n_Up_hold := He.noat_ok (c.fact 31 (f := .noat "Up" "hold") rfl)
  have mk_Up := He.mkr_ok (c.fact 32 (f := .mkr "Up") rfl)
  have m_Up_takes := He.meth_ok (c.fact 33 (f := .meth "Up" "takes") rfl)
  have m_Up_gives := He.meth_ok (c.fact 34 (f := .meth "Up" "gives") rfl)
  have m_Up_fresh := He.meth_ok (c.fact 35 (f := .meth "Up" "fresh") rfl)
  have m_Up_fire := He.meth_ok (c.fact 36 (f := .meth "Up" "fire") rfl)
  have m_Up_work := He.meth_ok (c.fact 37 (f := .meth "Up" "work") rfl)
  have c_Down := He.cls_ok (c.fact 38 (f := .cls "Down") rfl)
  have n_Down_made := He.noat_ok (c.fact 39 (f := .noat "Down" "made") rfl)
  have n_Down_late_by := He.noat_ok (c.fact 40 (f := .noat "Down" "late_by") rfl)
  have n_Down_begin_at := He.noat_ok (c.fact 41 (f := .noat "Down" "begin_at") rfl)
  have n_Down_many := He.noat_ok (c.fact 42 (f := .noat "Down" "many") rfl)
  have mk_Down := He.mkr_ok (c.fact 43 (f := .mkr "Down") rfl)
  have m_Down_takes := He.meth_ok (c.fact 44 (f := .meth "Down" "takes") rfl)
  have m_Down_gives := He.meth_ok (c.fact 45 (f := .meth "Down" "gives") rfl)
  have m_Down_fresh := He.meth_ok (c.fact 46 (f := .meth "Down" "fresh") rfl)
  have m_Down_fire := He.meth_ok (c.fact 47 (f := .meth "Down" "fire") rfl)
  have m_Down_work := He.meth_ok (c.fact 48 (f := .meth "Down" "work") rfl)
  obtain ⟨ds4, v4, b4⟩ := FunD.binds (ps := ["self", "many", "hold", "late", "begin"]) F_Up_DinitD 2 0 (by intro z; cases z) rfl (by
      intro T D doc pm an cdv ct us its ks l1 l2 l3
      match us, its, ks, l1, l2, l3 with
      | [_, _], [_], [_, _], _, _, _ => exact ⟨_, rfl, _, _, _, _, _, _, rfl, rfl, _, _, _, _, _, _, rfl, rfl, rfl⟩) (by intro z; cases z)
  obtain ⟨ds5, v5, b5⟩ := FunD.binds (ps := ["self", "many", "hold", "late", "begin"]) F_Up_DinitD 3 1 (by intro z; cases z) rfl (by
      intro T D doc pm an cdv ct us its ks l1 l2 l3
      match us, its, ks, l1, l2, l3 with
      | [_, _, _], [_], [_, _], _, _, _ => exact ⟨_, rfl, _, _, _, _, _, _, rfl, rfl, _, _, _, _, _, _, rfl, rfl, rfl⟩) (by intro z; cases z)
  obtain ⟨ds6, v6, b6⟩ := FunD.binds0 (ps := ["self", "many", "late", "begin"]) F_Down_DinitD 2 (by intro z; cases z) rfl (by
      intro D doc pm an cdv ct us ks l1 l2
      match us, ks, l1, l2 with
      | [_, _], [_, _], _, _ => exact ⟨_, _, _, _, _, _, rfl, rfl, _, _, _, _, _, _, rfl, rfl, rfl⟩)
  obtain ⟨its7, mv7, kb7⟩ := FunD.kbinds (ps := ["self", "many", "hold", "late", "begin"]) F_Up_DinitD 1 ["hold", "many"] [("late", .int 0), ("begin", .int 0)] (fun us its mv ws => us ++ (ws.drop 1 ++ (ws.take 1 ++ mv))) (by intro z; cases z) (by intro z; cases z) (fun _ h => h)
      (fun r1 r2 r3 r4 => r1.append ((r4.drop 1).append ((vals_take1 r4).append r3))) (by
      intro T D doc pm an cdv ct us its mv ws l1 l2 l3 l4
      match us, its, mv, ws, l1, l2, l3, l4 with
      | [_], [_], [_, _], [_, _], _, _, _, _ => exact ⟨_, rfl, _, _, _, _, _, _, rfl, rfl, _, _, _, _, _, _, rfl, rfl, rfl⟩)
  refine ⟨d_law, fun s v => bL s [v] rfl, fun base _ _ => ?_⟩
  have T_Up : NodeC K (He.ga K "Up") := ⟨c_Up, n_Up_made, n_Up_late_by, n_Up_begin_at⟩
  have T_Down : NodeC K (He.ga K "Down") := ⟨c_Down, n_Down_made, n_Down_late_by, n_Down_begin_at⟩
  have G0 : FnOk P w K mg base CX0 1 _ d_is_whole ["thing"] (spWhole K) := ok_whole F_is_whole z_isinstance z_int z_bool
  have G1 : FnOk P w K mg base CX0 2 _ d_is_whole_within ["thing", "least", "most"] (spWithin K) := ok_within F_is_whole_within G0 g_is_whole F_is_whole.kp b_is_whole
  have G2 : FnOk P w K mg base CX0 1 _ d_need ["holds", "field"] spNeed := ok_need F_need
  have G5 : FnOk P w K mg base CX0 1 _ d_is_truth ["thing"] spTruth := ok_truth F_is_truth
  have G7 : FnOk P w K mg base CX0 1 _ d__law_draw ["_law_pot_here", "_law_base"] spDraw := ok_draw F__law_draw
  have G8 : FnOk P w K mg base CX0 2 _ d__law_number ["_law_pot_here"] spNumber := ok_number F__law_number F__law_draw g__law_draw z_range
  have NI_Up : FnOk P w K mg base CX0 3 _ d_Node_DinitD ["self", "arguments", "late", "begin"] (spNodeInit K (He.ga K "Up")) := ok_nodeInit F_Node_DinitD G2 g_need F_need.kp b_need G1 g_is_whole_within F_is_whole_within.kp b_is_whole_within z_MOST_LATE z_MOST_BEGIN T_Up
  have NI_Down : FnOk P w K mg base CX0 3 _ d_Node_DinitD ["self", "arguments", "late", "begin"] (spNodeInit K (He.ga K "Down")) := ok_nodeInit F_Node_DinitD G2 g_need F_need.kp b_need G1 g_is_whole_within F_is_whole_within.kp b_is_whole_within z_MOST_LATE z_MOST_BEGIN T_Down
  have I_Up := ok_upInit (P := P) (w := w) (mg := mg) (base := base) F_Up_DinitD G2 g_need F_need.kp b_need G1 g_is_whole_within F_is_whole_within.kp b_is_whole_within G5 g_is_truth F_is_truth.kp b_is_truth NI_Up G_Node (baseB_ok cx) b_Node_DinitD z_MOST_RATE T_Up n_Up_many n_Up_hold
  have I_Down := ok_downInit (P := P) (w := w) (mg := mg) (base := base) F_Down_DinitD G2 g_need F_need.kp b_need G1 g_is_whole_within F_is_whole_within.kp b_is_whole_within NI_Down G_Node (baseB_ok cx) b_Node_DinitD z_MOST_RATE T_Down n_Down_many
  have GM : FnOk P w K mg base CX0 6 _ d__law_made ["_law_pot_here"] (spMade K (He.ga K "Up") (He.ga K "Down")) := ok_made F__law_made G7 g__law_draw F__law_draw.kp b__law_draw mk_Up I_Up G_Up b4 v4 b5 v5 kb7 mk_Down I_Down G_Down b6 v6
  have W_Up : FnOk P w K mg base CX0 1 _ d_Up_work ["self", "kept", "rows"] (spUWork K ((He.ga K "Up"), true)) := ok_upWork F_Up_work T_Up n_Up_many n_Up_hold
  have R_Up : FnOk P w K mg base CX0 2 _ d_run_firing ["node", "memory", "rows"] (spFiring0 K (He.ga K "Up") (spUWork K ((He.ga K "Up"), true))) := ok_firing0 (k := 0) F_run_firing c_Up W_Up m_Up_work b_Up_work (wide_uWork _ _)
  have tk_Up := ok_upTakes (P := P) (w := w) (mg := mg) (base := base) (C := (He.ga K "Up")) F_Up_takes 
  have gv_Up := ok_upGives (P := P) (w := w) (mg := mg) (base := base) (C := (He.ga K "Up")) F_Up_gives T_Up n_Up_many
  have fr_Up := ok_upFresh (P := P) (w := w) (mg := mg) (base := base) F_Up_fresh T_Up
  have fi_Up := ok_upFire F_Up_fire R_Up g_run_firing F_run_firing.kp b_run_firing
  have W_Down : FnOk P w K mg base CX0 1 _ d_Down_work ["self", "kept", "rows"] (spUWork K ((He.ga K "Down"), false)) := ok_downWork F_Down_work 
  have R_Down : FnOk P w K mg base CX0 2 _ d_run_firing ["node", "memory", "rows"] (spFiring0 K (He.ga K "Down") (spUWork K ((He.ga K "Down"), false))) := ok_firing0 (k := 0) F_run_firing c_Down W_Down m_Down_work b_Down_work (wide_uWork _ _)
  have tk_Down := ok_downTakes (P := P) (w := w) (mg := mg) (base := base) (C := (He.ga K "Down")) F_Down_takes T_Down n_Down_many
  have gv_Down := ok_downGives (P := P) (w := w) (mg := mg) (base := base) (C := (He.ga K "Down")) F_Down_gives 
  have fr_Down := ok_downFresh (P := P) (w := w) (mg := mg) (base := base) F_Down_fresh T_Down
  have fi_Down := ok_downFire F_Down_fire R_Down g_run_firing F_run_firing.kp b_run_firing
  have hT : ∀ A, A ∈ AsU (He.ga K "Up") (He.ga K "Down") → MethC P w K mg base 1 "takes" ["self"] (spUTakes K A) A.1 := fun A hA => by
    unfold AsU at hA
    simp only [List.mem_cons, List.not_mem_nil, or_false] at hA
    rcases hA with rfl | rfl
    · exact ⟨_, _, c_Up, m_Up_takes, tk_Up, b_Up_takes⟩
    · exact ⟨_, _, c_Down, m_Down_takes, tk_Down, b_Down_takes⟩
  have hG : ∀ A, A ∈ AsU (He.ga K "Up") (He.ga K "Down") → MethC P w K mg base 1 "gives" ["self"] (spUGives A) A.1 := fun A hA => by
    unfold AsU at hA
    simp only [List.mem_cons, List.not_mem_nil, or_false] at hA
    rcases hA with rfl | rfl
    · exact ⟨_, _, c_Up, m_Up_gives, gv_Up, b_Up_gives⟩
    · exact ⟨_, _, c_Down, m_Down_gives, gv_Down, b_Down_gives⟩
  have hF : ∀ A, A ∈ AsU (He.ga K "Up") (He.ga K "Down") → MethC P w K mg base 1 "fresh" ["self"] (spUFresh K A) A.1 := fun A hA => by
    unfold AsU at hA
    simp only [List.mem_cons, List.not_mem_nil, or_false] at hA
    rcases hA with rfl | rfl
    · exact ⟨_, _, c_Up, m_Up_fresh, fr_Up, b_Up_fresh⟩
    · exact ⟨_, _, c_Down, m_Down_fresh, fr_Down, b_Down_fresh⟩
  have hI : ∀ A, A ∈ AsU (He.ga K "Up") (He.ga K "Down") → MethC P w K mg base 3 "fire" ["self", "memory", "rows"] (spUFire K A) A.1 := fun A hA => by
    unfold AsU at hA
    simp only [List.mem_cons, List.not_mem_nil, or_false] at hA
    rcases hA with rfl | rfl
    · exact ⟨_, _, c_Up, m_Up_fire, fi_Up, b_Up_fire⟩
    · exact ⟨_, _, c_Down, m_Down_fire, fi_Down, b_Down_fire⟩
  exact ok_law F_law (ok_cell F__law_cell z_len) g__law_cell F__law_cell.kp b__law_cell (ok_pot F__law_pot z_max) g__law_pot F__law_pot.kp b__law_pot G7 g__law_draw F__law_draw.kp b__law_draw G8 g__law_number F__law_number.kp b__law_number GM g__law_made F__law_made.kp b__law_made hT hG hF hI z_range z_max z_min z_len z_int z_list z_repr
end Sw
open PySem PySem.W PySem.Calls PyProof.Rows
theorem PySem.Challenge.cw_sampleweave_k16_up_and_down_holds : PySem.Challenge.rw_sampleweave_k16_up_and_down.Holds := by
  w_on; o_law
  refine HandSHeadRun.head_any (r := OpenLaw.row PySem.Challenge.rw_sampleweave_k16_up_and_down) (q := view (OpenLaw.row PySem.Challenge.rw_sampleweave_k16_up_and_down).prog [25]) (H := Sw.hk) (ob := Sw.ob) (M := 9000) (loose := Sw.loose) (d := HandSHeadRun.topDef (OpenLaw.row PySem.Challenge.rw_sampleweave_k16_up_and_down).prog 25) (kwd := []) Sw.ob_eq
    (by kernel_rfl) (fun s => by kernel_rfl) Sw.run (by kernel_rfl) (by kernel_rfl) (by kernel_rfl) (by rfl) (by first | assumption | decide +kernel) (by decide +kernel) ⟨rfl, rfl, rfl, rfl, rfl, by decide +kernel⟩ ?hw ?hc
  case hw => w_witness2
  case hc =>
    refine L2.walk_goes (l := PySem.Challenge.rw_sampleweave_k16_up_and_down) (n := 63) (k := 8) (x := "_law_script") (CX := L2.CX0) rfl (by decide) (by kernel_rfl) ⟨rfl, by decide, by decide⟩ ?F (fun _ _ _ _ z => z)
    intro w mg fa h Y G hmg0
    obtain ⟨K, KX, cx, c⟩ := Y
    have hmg : mg ("law" : PySem.Str) = some (.ref fa) := by
      have e : (HandSHeadRun.topDef (OpenLaw.row PySem.Challenge.rw_sampleweave_k16_up_and_down).prog 25).name = ("law" : PySem.Str) := by kernel_rfl
      rw [← e]
      exact hmg0
    obtain ⟨fd, hb, hF⟩ := Sw.facts (P := (PySem.Challenge.rw_sampleweave_k16_up_and_down).prog) (w := w) KX G hmg cx c
    exact ⟨K, fd, Sw.spLaw K, KX, hb, fun H a ns hl _ hS => ⟨a, ns, rfl, hS, hl, fun _ => rfl⟩, hF⟩
