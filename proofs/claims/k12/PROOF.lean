import PyProof.Rows.All
import Wide.All
import OpenK.AllK
import Wide.FinOn
import KE.KStateDown
import Lean
import HandS.Base
import HandS.Call
import HandS.List
import HandS.Comp
import HandS.Ends
import HandS.Dict
import HandS.Iter
import HandS.Exc
import HandS.TryOnly
import HandS.ExcOwn
import HandS.Words
import HandS.WordsList
import HandS.WordsDict
import HandS.WordsExc
import HandS.Wide
import HandS.IsInst
import HandS.ExcIs
import HandS.Defaults
import HandS.More
import HandS.Star
import HandS.ClsMeth
import HandS.MakeKw
import HandS.MakeKwOnly
import HandS.Conv
import HandS.TupMul
import HandS.TupLe
import HandS.Flow
import HandS.Zip
import HandS.CallLocal
import HandS.Head0
import HandS.Head1
import HandS.Head2
import HandS.HeadEnd
import HandS.HeadHook1
import HandS.HeadHook2
import PyProof.ReprLen
import HandS.Walk
import HandS.TupAny
import HandS.Style
import HandS.Codes
import PySem.Challenge.RW_sampleweave_k12_plain_nodes
set_option Elab.async false
set_option linter.all false
set_option maxRecDepth 100000
set_option maxHeartbeats 0
namespace L2
open PySem PySem.Spec PyProof.Rows
/-! ## Own words, 1: defs that are called where no repr is under way -/
/-- as FnOk, but called only while no guard (a repr under way) is around -/
structure FnG (P : Program) (w : World) (K : PySem.W.Frag) (mg : Str → Option Value) (base : Heap) (CX : CXT) (k : Nat) (f : Addr) (fd : FuncData) (ps : List Str) (sp : Sp) : Prop where
  size : ∀ vs H Q E, sp vs H Q E → vs.length = ps.length
  goes : ∀ (A : Around) (outer : List Env) (s : Shared) (H : Hp) (args : Args) (us : List Value) (vs : List V) (Q : VK) (E : XK), Room k A → A.guards = some [] → Env0 P w K mg base A outer s H →
    BindsTo s fd args (ps.zip us) → Vals vs us → sp vs H Q E → codeAny (model P w) A (.call (.ref f) args) (CR CX outer P w H s Q E) s
section
variable {P : Program} {w : World} {K : PySem.W.Frag} {mg : Str → Option Value} {base : Heap} {CX : CXT} {k : Nat} {f : Addr} {fd : FuncData} {ps N : List Str} {sp : Sp} {x qual : Str} {params : Arguments} {body : List Stmt} {scope : Scope} {dvs : List V} {kws : List (Str × V)}
/-- a def's body, where the guards are known -/
theorem FunD.okG (F : FunD K x qual params body scope dvs kws f fd) (S : FnScope N ps scope) (size : ∀ vs H Q E, sp vs H Q E → vs.length = ps.length)
    (does : ∀ (cdv : Value) (A : Around) (outer : List Env) (s : Shared) (H : Hp) (vs : List V) (Q : VK) (E : XK), Room k (A.deeper (envOfC qual scope s.heap.objs.size f cdv)) → A.guards = some [] → sp vs H Q E →
      ∃ t, PSs (cxOf CX P w K mg base N qual scope f cdv A outer s H E) body t ∧ t { nx := fun _ H' => Q .non H', rt := Q } (start N vs) H) : FnG P w K mg base CX (k + 1) f fd ps sp := by
  obtain ⟨oc, od, dV, kV, doc, pm, an, cdv, ct, osl, rfl, lk, hcd, _, _⟩ := F.ex
  refine ⟨size, fun A outer s H args us vs Q E room guard env bind rel prom => ?_⟩
  have only : StX.Bnd CX P w K mg base (PySem.W.fnOf x qual params body scope dV kV doc pm an cdv ct) args ps A outer s H E (fun vs' H' => vs' = vs ∧ H' = H) :=
    fun A' Ex Q' h' => bind _ _ _ _ (h' s H vs us env Un.refl rfl (fun _ _ z => z) rel (size _ _ _ _ prom) ⟨rfl, rfl⟩)
  refine StX.run_bnd (k := k) lk hcd S room env only fun s2 H2 vs2 same room2 => ?_
  obtain ⟨rfl, rfl⟩ := same
  exact does cdv A outer s2 H2 vs2 Q E room2 guard prom
/-- a plain def is one of these too -/
theorem FnOk.toG (F : FnOk P w K mg base CX k f fd ps sp) : FnG P w K mg base CX k f fd ps sp := ⟨F.len, fun A outer s H args us vs Q E room _ env bind rel prom => F.run A outer s H args us vs Q E room env bind rel prom⟩
end
section
variable {X : Cx} {CX : CXT} {k i : Nat} {f : Addr} {fd : FuncData} {ps : List Str} {sp : Sp} {dvs : List V} {ds : List Value} {E : XK} {x : Str} {p pos : Pos} {e : Expr} {es : List Expr} {t : TA}
theorem goes_fn {pins : List (Addr × Obj)} {σ : St} {H : Hp} {s : Shared} {Q : VK} {us : List Value} {vs : List V} (F : FnG X.prog X.w X.K X.mg X.base CX k f fd ps sp) (room : Room k X.A) (guard : X.A.guards = some []) (hb : Binds X.K fd ps ds) (hd : Vals dvs ds)
    (hx : Passes CX X E) (I : Inv X pins σ H s) (rel : Vals vs us) (prom : sp (vs ++ dvs) H Q E) : wpAny (model X.prog X.w) X.A (call (.ref f) us) (EP X pins σ Q) X.xe s := by
  have both := rel.append hd
  have many : (us ++ ds).length = ps.length := both.length.symm.trans (F.size _ _ _ _ prom)
  refine wpAny_call (codeAny_mono (F.goes X.A X.stack s H ⟨us, []⟩ (us ++ ds) (vs ++ dvs) Q E room guard I.env0 (hb s us I.kIn many) both prom) ?_)
  rintro (_ | u | _ | _ | _ ) s' z
  all_goals first
    | exact hx pins σ H s _ s' I z
    | exact I.after z
    | exact z.elim
theorem pe_callG (F : FnG X.prog X.w X.K X.mg X.base CX k f fd ps sp) (room : Room k X.A) (guard : X.A.guards = some []) (hg : Gl X x) (hm : X.mg x = some (.ref f)) (hk : PySem.W.keepIn X.K (.ref f) = true) (hb : Binds X.K fd ps ds) (hd : Vals dvs ds)
    (hx : Passes CX X E) (ha : PA X (e :: es) t) (hdb : (x == ("__debug__" : Str)) = false := by decide) (he : starEach (e :: es) X.env = (false, eval e X.env) :: starEach es X.env := by rfl)
    (hpl : (backTo pos (starEach es X.env)).any (·.1) = false := by rfl) : PE X (.Call (.Name x p) (e :: es) [] pos) (tCall sp dvs E t) := by
  refine ⟨fun pins s σ H Q I h => wpAny_Call_Name_kw (ld_glob I hg hm ?_ hdb)⟩
  exact PySem.W.callWith_K (h₀ := X.base) I.ok.mod.kin hk (thn (ha.run pos pins s σ H _ I h) fun us s1 ⟨vs, H1, I1, r, q⟩ => ⟨I1.kIn, goes_fn F room guard hb hd hx I1 r q⟩) he hpl
end
/-- the law's call, its def being one of these -/
theorem law_goes {P : Program} {w : World} {K : PySem.W.Frag} {mg mb : Str → Option Value} {CX : CXT} {k : Nat} {fa a : Addr} {fd : FuncData} {x : Str} {sp : Sp} {s₁ : Shared} {vs : List Value} {ns : List Int}
    (inK : K.In s₁.heap) (glob : s₁.heap.Ns mainGlobals mg) (blt : s₁.heap.Ns builtinsNs mb) (boot : ∀ x : Str, x ≠ "__name__" → mb x = bootBuiltins x) (lim : s₁.heap.NoLimit) (gens : s₁.gens = #[])
    (scr : s₁.heap.get? a = some { cls := .type "list", data := .seq vs.toArray }) (nums : IntsAre vs ns) (few : ns.length ≤ sizeLine) (room : Room k callerA)
    (F : ∀ base : Heap, K.In base → base.Ns mainGlobals mg → FnG P w K mg base CX k fa fd [x] sp) (bind : ∀ (s : Shared) (u : Value), BindsTo s fd ⟨[u], []⟩ [(x, u)])
    (prom : ∀ H : Hp, Only H → SqL K H a (ns.map V.int) → sp [.ref a] H (fun v _ => v = .bl true) fun _ _ _ => False) (none_out : ∀ H e s', CX [] H s₁ (fun _ _ _ => False) e s' → False) :
    codeAny (model P w) callerA (.call (.ref fa) ⟨[.ref a], []⟩) (fun r s' => r = .ok (.ret (.bool true)) ∧ OldK s₁.heap s'.heap ∧ s'.os = s₁.os ∧ AllBare s'.gens) s₁ := by
  have rel := vals_ints nums
  have from_heap : ∀ H : Hp, (∀ b, H b = none ∨ (b = a ∧ K.lookup a = none ∧ H b = some (.frz { cls := .type "list", data := .seq vs.toArray } (.lst (ns.map V.int))))) → SqL K H a (ns.map V.int) →
      codeAny (model P w) callerA (.call (.ref fa) ⟨[.ref a], []⟩) (fun r s' => r = .ok (.ret (.bool true)) ∧ OldK s₁.heap s'.heap ∧ s'.os = s₁.os ∧ AllBare s'.gens) s₁ := by
    intro H which seen
    have small : Only H := fun b => (which b).imp id fun z => ⟨_, _, z.2.2⟩
    have space : ∀ {b : Addr} {m : Str → Option Value}, s₁.heap.Ns b m → (hidT s₁.heap H).Ns b m := by
      rintro b m ⟨o, es, ep, e, d, r⟩
      refine ⟨o, es, ep, hidT_get e ((which b).resolve_right fun ⟨eb, _⟩ => ?_), d, r⟩
      rw [eb, scr] at e
      cases e
      cases d
    have written : K.In (hidT s₁.heap H) := fun b o e => hidT_get (inK b o e) ((which b).resolve_right fun ⟨eb, n, _⟩ => by
      rw [eb, n] at e
      cases e)
    have fits : HOk P w H s₁.heap := fun b u z => by
      rcases which b with n | ⟨rfl, _, n⟩
      · rw [n] at z
        cases z
      · rw [n] at z
        cases z
        exact ⟨scr, by rw [List.length_map]; exact few, vs, _, rel, scr⟩
    obtain ⟨mc, c1, c2⟩ := lim
    have env : Env0 P w K mg (hidT s₁.heap H) callerA [] s₁ H :=
      ⟨rfl, ⟨written, space glob, ⟨mb, space blt, boot⟩, mc, space c1, c2⟩, fun _ _ e => of_hidT e, Nat.le_of_eq (hidT_size _ _), trivial, fun _ z => (List.not_mem_nil z).elim, fits, .of_eq gens⟩
    refine codeAny_mono ((F _ written (space glob)).goes callerA [] s₁ H ⟨[.ref a], []⟩ [.ref a] [.ref a] _ _ room rfl env (bind s₁ (.ref a)) (.cons rfl .nil) (prom H small seen)) ?_
    intro res s' z
    match res, z with
    | .error e, z => exact (none_out H e s' z).elim
    | .ok .next, z => exact z.elim
    | .ok .brk, z => exact z.elim
    | .ok .cont, z => exact z.elim
    | .ok (.ret u), z =>
      obtain ⟨v, H', os, bare, un, fits', rv, (rfl : v = V.bl true)⟩ := z
      obtain rfl : u = Value.bool true := rv
      refine ⟨rfl, OldK.of_keep fun b o e => ?_, os, bare⟩
      rcases which b with n | ⟨_, _, n⟩
      · exact un.keep b o e n (fun z => (List.not_mem_nil z).elim) List.not_mem_nil
      · obtain ⟨e1, _⟩ := fits b _ n
        obtain ⟨e2, _⟩ := fits' b _ (un.frzs b _ _ n)
        rw [e] at e1
        cases e1
        exact e2
  by_cases own : K.lookup a = none
  · refine from_heap (fun b => if b = a then some (.frz { cls := .type "list", data := .seq vs.toArray } (.lst (ns.map V.int))) else none) (fun b => ?_) (.inl (.inr ⟨_, if_pos rfl⟩))
    by_cases eb : b = a
    · exact .inr ⟨eb, own, if_pos eb⟩
    · exact .inl (if_neg eb)
  · obtain ⟨o, own⟩ := Option.ne_none_iff_exists'.mp own
    have e := inK a o own
    rw [scr] at e
    cases e
    exact from_heap (fun _ => none) (fun _ => .inl rfl) (.inr ⟨_, vs.toArray, _, own, rfl, rfl, rfl, by rw [List.size_toArray, nums.length]; exact few, by simpa using rel⟩)
theorem walk_goes {l : PySem.W.OpenLaw} {n k : Nat} {q : Program} {loose : List Str} {XP : (Str → Option Value) → Heap → Prop} {YP : World → Heap → Prop} {d : DefRec} {CX : CXT} {x : Str}
    (most : l.most = some n) (few : n ≤ sizeLine) (nodef : d.params.defaults = []) (room : Room k callerA)
    (F : ∀ (w : World) (mg : Str → Option Value) (fa : Addr) (h : Heap), YP w h → h.Ns mainGlobals mg → mg d.name = some (.ref fa) →
      ∃ (K : PySem.W.Frag) (fd : FuncData) (sp : Sp), K.In h ∧ (∀ (s : Shared) (u : Value), BindsTo s fd ⟨[u], []⟩ [(x, u)]) ∧
        (∀ (H : Hp) (a : Addr) (ns : List Int), ns.length ≤ n → Only H → SqL K H a (ns.map V.int) → sp [.ref a] H (fun v _ => v = .bl true) fun _ _ _ => False) ∧
        ∀ base : Heap, K.In base → base.Ns mainGlobals mg → FnG l.prog w K mg base CX k fa fd [x] sp)
    (none_out : ∀ (H : Hp) (s : Shared) (e : Value) (s' : Shared), CX [] H s (fun _ _ _ => False) e s' → False) : PySem.W.WalkO q loose XP YP l.row.toRowW d [] (fun f vs => PySem.call f vs) := by
  refine Att.attach_call most nodef ?_
  intro w s₀ s₁ mg mb fa o pm cd doc a vs ns G Y ho hd hcd named obj nums len gens
  obtain ⟨K, fd, sp, inK, bind, prom, does⟩ := F w mg fa _ Y G.T.g named
  exact law_goes inK G.T.g G.T.b G.T.builtins G.T.nolimit gens obj nums (Nat.le_trans len few) room does bind (fun H hO hS => prom H a ns len hO hS) fun H e s' => none_out H s₁ e s'
end L2
namespace L2
open PySem PySem.Spec PyProof.Rows
/-! ## Own words, 2: repr of data; a base class's def called by the class's name -/
section
variable {X : Cx}
/-- repr(x), x a list or a tuple of data -/
def rReprD (K : PySem.W.Frag) : List V → Hp → VK → Prop := fun xs H Q => ∃ (a : Addr) (d : PyData) (S : Str), xs = [.ref a] ∧ Dp K H (.ref a) d ∧ SeqAt.shaped d = true ∧ d.showable = true ∧ d.shown.length ≤ sizeLine ∧ d.shown = S ∧ Q (.str S) H
theorem call_reprD (guard : X.A.guards = some []) (units : X.A.units + 66 < cLine) : CallR X (.builtin "repr") (rReprD X.K) := by
  intro pins s σ H xs us Q I r h
  obtain ⟨a, d, S, rfl, dp, sh, sw, sz, rfl, q⟩ := h
  obtain ⟨u, rfl, ru⟩ := vals1 r
  obtain rfl : u = Value.ref a := ru
  obtain ⟨as, rd⟩ := Dp.reads I d _ _ dp rfl
  have dep := SeqAt.depth_of_shaped sh
  exact repr_of_reads' rd sw (PyData.noDict_hsm (PyData.hasDict_of_canLay d (SeqAt.canLay_of_shaped sh))) guard (by omega) (fun _ _ e => e) (fun h' u tk hk => ⟨.str d.shown, H, I.kept (t' := tk) hk, ⟨u, rfl⟩, q⟩) sz
/-- C.m(e, ..), C a class of one's own by name, m a def of its body -/
structure BaseM (K : PySem.W.Frag) (C : Addr) (m : Str) (f : Addr) : Prop where
  rd : PySem.W.readsIn K C (.type "type") = true
  ga : PySem.W.specialIn K (.ref C) "__getattribute__" = some (some (.builtin "type.__getattribute__"))
  at_ : PySem.W.findCls K (.ref C) (.type "type") m = some (.val (.ref f))
  kp : PySem.W.keepIn K (.ref f) = true
variable {CX : CXT} {k : Nat} {f C : Addr} {fd : FuncData} {ps : List Str} {sp : Sp} {dvs : List V} {ds : List Value} {E : XK} {x m : Str} {p pos apos : Pos} {e o : Expr} {es : List Expr} {ta : TE} {t : TA}
def tBase (C : Addr) (sp : Sp) (dvs : List V) (E : XK) (ta : TE) (t : TA) : TE := fun σ H Q => ta σ H fun x H1 => x = .ref C ∧ t σ H1 fun vs H2 => sp (vs ++ dvs) H2 Q E
theorem pe_base {pl : Sem Bool} (ho : PE X o ta) (b : BaseM X.K C m f) (F : FnOk X.prog X.w X.K X.mg X.base CX k f fd ps sp) (room : Room k X.A) (hb : Binds X.K fd ps ds) (hd : Vals dvs ds) (hx : Passes CX X E) (ha : PA X (e :: es) t)
    (hst : starEach (e :: es) X.env = (false, eval e X.env) :: starEach es X.env := by rfl) (hpl : (backTo pos (starEach es X.env)).any (·.1) = false := by rfl)
    (ht : eval (.Call (.Attribute o m apos) (e :: es) [] pos) X.env = (do
      let ov ← eval o X.env
      standAt apos.atName
      let (f, first) ← holding [ov] (getMethod ov m pl)
      callWith pos f first (backTo pos (starEach (e :: es) X.env)) (backToKw pos (keywordEach [] X.env))) := by rfl) :
    PE X (.Call (.Attribute o m apos) (e :: es) [] pos) (tBase C sp dvs E ta t) := by
  refine ⟨fun pins s σ H Q I h => ?_⟩
  refine PySem.W.methodCall_KW (pl := pl) (thn (ho.run pins s σ H _ I h) fun u s1 ⟨x, H1, I1, rx, ex, q⟩ => ?_) ht
  subst ex
  obtain rfl : u = Value.ref C := rx
  refine PySem.W.method_cls I1.kIn b.ga (PySem.W.cls_value I1.kIn b.rd b.at_ rfl ?_)
  have I2 := I1.tok (s1.toks + 1)
  exact PySem.W.callWith_K (first := []) (h₀ := X.base) I.ok.mod.kin b.kp (thn (ha.run pos pins _ σ H1 _ I2 q) fun us s2 ⟨vs, H2, I3, r, q2⟩ => ⟨I3.kIn, run_fn F room hb hd hx I3 r q2⟩) hst hpl
end
/-! ### how long a repr is -/
theorem shown_sum {B : Nat} : ∀ ds : List PyData, (∀ d ∈ ds, d.shown.length ≤ B) → ((PyData.shownAll ds).map (·.length)).sum ≤ B * ds.length
  | [], _ => by rw [PyData.shownAll]; exact Nat.zero_le _
  | d :: ds, h => by
    have h1 := h d List.mem_cons_self
    have h2 := shown_sum ds fun z hz => h z (List.mem_cons_of_mem _ hz)
    rw [PyData.shownAll, List.map_cons, List.sum_cons, List.length_cons, Nat.mul_succ]
    omega
theorem shown_list {B : Nat} {ds : List PyData} (h : ∀ d ∈ ds, d.shown.length ≤ B) : (PyData.shown (.list ds)).length ≤ (B + 2) * ds.length + 3 := by
  have h1 := shown_sum ds h
  have h2 := listText_len_le (PyData.shownAll ds)
  rw [PyData.shownAll_length] at h2
  rw [PyData.shown, Nat.add_mul]
  omega
theorem shown_tuple {B : Nat} {ds : List PyData} (h : ∀ d ∈ ds, d.shown.length ≤ B) : (PyData.shown (.tuple ds)).length ≤ (B + 2) * ds.length + 3 := by
  have h1 := shown_sum ds h
  have h2 := tupleText_len_le (PyData.shownAll ds)
  rw [PyData.shownAll_length] at h2
  rw [PyData.shown, Nat.add_mul]
  omega
theorem shown_num {i : Int} (h : i.natAbs.log2 < 1920) : (PyData.shown (.int i)).length ≤ 1921 := by
  exact int_text_len_1921 h
theorem log2_of {i : Int} {b : Nat} (h : i.natAbs < 2 ^ b) (h0 : 0 < b) (h1 : b ≤ 1920) : i.natAbs.log2 < 1920 := Nat.lt_of_lt_of_le (PySem.Flt.log2_lt_of h0 h) h1
end L2
namespace L2
open PySem PySem.Spec PyProof.Rows
/-! ## Own words, 3: a method called in a try; a local that holds one of some defs -/
section
variable {X : Cx} {CX : CXT} {k i : Nat} {f C : Addr} {fd : FuncData} {ps : List Str} {sp : Sp} {E : St → XK} {x m : Str} {p pos apos : Pos} {e o : Expr} {es : List Expr} {ta : TE} {t : TA}
def tMethT (C : Addr) (m : Str) (sp : Sp) (E : St → XK) (ta : TE) (t : TA) : TE := fun σ H Q => ta σ H fun x H1 => ∃ a dx fs, x = .ref a ∧ H1 a = some (.ins C dx fs) ∧ fs.lookup m = none ∧ t σ H1 fun vs H2 => sp (x :: vs) H2 Q (E σ)
theorem pe_methT {pl : Sem Bool} (ho : PE X o ta) (c : Cls X.K C) (hm : Meth X.K C m f) (F : FnOk X.prog X.w X.K X.mg X.base CX k f fd ps sp) (room : Room k X.A) (hb : Binds X.K fd ps []) (hx : ∀ σ, PassesAt CX X σ (E σ)) (ha : PA X (e :: es) t)
    (hst : starEach (e :: es) X.env = (false, eval e X.env) :: starEach es X.env := by rfl) (hpl : (backTo pos (starEach es X.env)).any (·.1) = false := by rfl)
    (ht : eval (.Call (.Attribute o m apos) (e :: es) [] pos) X.env = (do
      let ov ← eval o X.env
      standAt apos.atName
      let (f, first) ← holding [ov] (getMethod ov m pl)
      callWith pos f first (backTo pos (starEach (e :: es) X.env)) (backToKw pos (keywordEach [] X.env))) := by rfl) :
    PE X (.Call (.Attribute o m apos) (e :: es) [] pos) (tMethT C m sp E ta t) := by
  refine ⟨fun pins s σ H Q I h => ?_⟩
  refine PySem.W.methodCall_KW (pl := pl) (thn (ho.run pins s σ H _ I h) fun u s1 ⟨x, H1, I1, rx, a, dx, fs, ex, ea, l, q⟩ => ?_) ht
  subst ex
  obtain rfl : u = Value.ref a := rx
  refine getmeth_ok I1 ea c hm l (PySem.W.callWith_K (first := [.ref a]) (h₀ := X.base) I.ok.mod.kin hm.kp (thn (ha.run pos pins s1 σ H1 _ I1 q) fun us s2 ⟨vs, H2, I2, r, q2⟩ => ⟨I2.kIn, ?_⟩) hst hpl)
  exact run_fnS (us := .ref a :: us) (vs := .ref a :: vs) F room hb (hx σ) I2 (.cons rfl r) q2
/-- the i-th slot holds one of these defs, all of one promise -/
def tOneOf (i : Nat) (fs : List Addr) (sp : Sp) (t : TA) : TE := fun σ H Q => ∃ f, f ∈ fs ∧ σ[i]? = some (some (.ref f)) ∧ t σ H fun vs H1 => sp vs H1 Q E0
theorem pe_oneOf {fs : List Addr} (F : ∀ f, f ∈ fs → ∃ fd ps, FnG X.prog X.w X.K X.mg X.base CX0 k f fd ps sp ∧ PySem.W.keepIn X.K (.ref f) = true ∧ Binds X.K fd ps []) (room : Room k X.A) (guard : X.A.guards = some []) (hN : X.N[i]? = some x) (hv : Vis X.env.scope x) (ha : PA X (e :: es) t)
    (hdb : (x == ("__debug__" : Str)) = false := by decide) (hcd : (x == ("__classdict__" : Str)) = false := by decide) (he : starEach (e :: es) X.env = (false, eval e X.env) :: starEach es X.env := by rfl)
    (hpl : (backTo pos (starEach es X.env)).any (·.1) = false := by rfl) : PE X (.Call (.Name x p) (e :: es) [] pos) (tOneOf i fs sp t) := by
  refine ⟨fun pins s σ H Q I h => ?_⟩
  obtain ⟨f, hf, hs, q0⟩ := h
  obtain ⟨fd, ps, G, kp, hb⟩ := F f hf
  have look := (pe_var (pos := p) hN hv hdb hcd).run pins s σ H (fun v H1 => v = .ref f ∧ H1 = H) I ⟨.ref f, hs, rfl, rfl⟩
  refine wpAny_Call_Name_kw (thn look fun u s1 ⟨v, H1, I1, r1, ev, eH⟩ => ?_)
  subst ev eH
  obtain rfl : u = Value.ref f := r1
  refine PySem.W.callWith_K (h₀ := X.base) I.ok.mod.kin kp (thn (ha.run pos pins s1 σ _ _ I1 q0) fun us s2 ⟨vs, H2, I2, r, q⟩ => ⟨I2.kIn, ?_⟩) he hpl
  exact goes_fn (dvs := []) (E := E0) G room guard hb .nil pass0 I2 r (by rw [List.append_nil]; exact q)
end
end L2
namespace L2
open PySem PySem.Spec PyProof.Rows
/-! ## Own words, 4: a tuple times 0 or 1 -/
theorem tup_once (l : Addr) (items : Array Value) (n : Nat) (dd : Option Addr) (sl : Array (Option Value)) (u : Tok) :
    Meets (Builtin.«tuple.__mul__» ⟨[.ref l, .int 1 u], []⟩) (fun _ R s => s.heap.get? l = some { cls := .type "tuple", dict := dd, data := .seq items n, slots := sl } ∧ R (.ok (.ret (Value.ref l))) s) :=
  .of_wp fun prog w A R s h => by
    obtain ⟨hp, g, d, tk, os⟩ := s
    obtain ⟨at_, h⟩ := h
    have f1 := AutoSeq1.idx_int
    wp_walk using wpAny_loadPart' at_
    exact ⟨_, rfl, h⟩
theorem tup_never (l : Addr) (items : Array Value) (n : Nat) (dd : Option Addr) (sl : Array (Option Value)) (u : Tok) (c1 : items.isEmpty = false) :
    Meets (Builtin.«tuple.__mul__» ⟨[.ref l, .int 0 u], []⟩) (fun _ R s => s.heap.get? l = some { cls := .type "tuple", dict := dd, data := .seq items n, slots := sl } ∧ R (.ok (.ret (Value.ref s.heap.objs.size))) { s with heap := s.heap.push { cls := Value.type "tuple", data := Data.seq #[] }, toks := s.toks }) :=
  .of_wp fun prog w A R s h => by
    obtain ⟨hp, g, d, tk, os⟩ := s
    obtain ⟨at_, h⟩ := h
    have f1 := AutoSeq1.idx_int
    wp_walk using wpAny_loadPart' at_
    exact ⟨_, rfl, h⟩
/-- t * k, t a tuple that holds something, k from 0 on -/
def rTimes (K : PySem.W.Frag) : R2 := fun x y H Q => ∃ (l : Addr) (k : Nat) (xs : List V), x = .ref l ∧ y = .int (k : Int) ∧ SqT K H l xs ∧ xs ≠ [] ∧ k ≤ 1000 ∧ xs.length ≤ 1000 ∧ (k = 1 → Q (.ref l) H) ∧ (k ≠ 1 → ∀ p, H p = none → Q (.ref p) (upd H p (.tup (List.replicate k xs).flatten)))
theorem op_times {X : Cx} : OpR X (binaryOp .Mult) (rTimes X.K) := by
  intro pins s σ H x y v u Q I rx ry h
  obtain ⟨l, k, xs, rfl, rfl, hT, hne, h2, hz, q1, qn⟩ := h
  by_cases two : 2 ≤ k
  · exact op_repT pins s σ H _ _ v u Q I rx ry ⟨l, (k : Int), xs, rfl, rfl, hT, hne, by omega, by omega, hz, fun p hp => qn (by omega) p hp⟩
  · cases rx
    obtain ⟨t, rfl⟩ := ry
    obtain ⟨its, r, ⟨⟨cls, dd, data, sl⟩, ho, hc, n, hd⟩, hs⟩ := I.tuple hT
    simp only at hc hd
    subst hc hd
    have which : k = 0 ∨ k = 1 := by omega
    rcases which with rfl | rfl
    · have some_ : its.toArray.isEmpty = false := by
        cases its with
        | nil =>
          have e := r.length
          cases xs with
          | nil => exact absurd rfl hne
          | cons _ _ => cases e
        | cons _ _ => rfl
      refine wpAny_binaryOp_repeat_ref (T := "tuple") (U := "int") (by decide) ⟨_, ho, rfl⟩ (fun s' => typeIs_int s' 0 t) noFill_tuple_mul F.fills_int_mul F.slot_int_rmul repeat_tuple F.slot_int_index.lookup ?_
      refine call_meets F.slot_int_rmul (typeIs_int s 0 t) F.entry_int_rmul (F.args_int_rmul_2 _ _) (int_rmul_tuple 0 t l its.toArray n dd sl) ⟨ho, rfl, ⟨_, ho, rfl⟩, ?_⟩
      refine call_meets F.slot_tuple_mul ⟨_, ho, rfl⟩ F.entry_tuple_mul (F.args_tuple_mul_2 _ _) (tup_never l its.toArray n dd sl t some_) ⟨ho, ?_⟩
      have fresh := I.hok.fresh (Nat.le_refl s.heap.objs.size)
      refine ⟨.ref s.heap.objs.size, _, I.laid (t' := s.toks) (o := .tup []) (fun b ob q => Heap.get?_push_of_some _ q) (Nat.le_refl _) ?_, rfl, qn (by decide) _ fresh⟩
      exact ⟨Nat.zero_le _, [], .nil, IsTup.new _ _⟩
    · refine wpAny_binaryOp_repeat_ref (T := "tuple") (U := "int") (by decide) ⟨_, ho, rfl⟩ (fun s' => typeIs_int s' 1 t) noFill_tuple_mul F.fills_int_mul F.slot_int_rmul repeat_tuple F.slot_int_index.lookup ?_
      refine call_meets F.slot_int_rmul (typeIs_int s 1 t) F.entry_int_rmul (F.args_int_rmul_2 _ _) (int_rmul_tuple 1 t l its.toArray n dd sl) ⟨ho, rfl, ⟨_, ho, rfl⟩, ?_⟩
      refine call_meets F.slot_tuple_mul ⟨_, ho, rfl⟩ F.entry_tuple_mul (F.args_tuple_mul_2 _ _) (tup_once l its.toArray n dd sl t) ⟨ho, ?_⟩
      exact ⟨.ref l, H, I, rfl, q1 rfl⟩
end L2
namespace L2
open PySem PySem.Spec PyProof.Rows
/-! ## Own words, 5: one of two promises; the call of a value -/
section
variable {P : Program} {w : World} {K : PySem.W.Frag} {mg : Str → Option Value} {base : Heap} {CX : CXT} {k : Nat} {f : Addr} {fd : FuncData} {ps : List Str} {sp sp' : Sp}
theorem FnG.or (F : FnG P w K mg base CX k f fd ps sp) (F' : FnG P w K mg base CX k f fd ps sp') : FnG P w K mg base CX k f fd ps (fun vs H Q E => sp vs H Q E ∨ sp' vs H Q E) := by
  refine ⟨fun vs H Q E h => h.elim (F.size vs H Q E) (F'.size vs H Q E), fun A outer s H args us vs Q E room guard env bind rel h => ?_⟩
  rcases h with h | h
  · exact F.goes A outer s H args us vs Q E room guard env bind rel h
  · exact F'.goes A outer s H args us vs Q E room guard env bind rel h
theorem FnOk.or (F : FnOk P w K mg base CX k f fd ps sp) (F' : FnOk P w K mg base CX k f fd ps sp') : FnOk P w K mg base CX k f fd ps (fun vs H Q E => sp vs H Q E ∨ sp' vs H Q E) := by
  refine ⟨fun vs H Q E h => h.elim (F.len vs H Q E) (F'.len vs H Q E), fun A outer s H args us vs Q E room env bind rel h => ?_⟩
  rcases h with h | h
  · exact F.run A outer s H args us vs Q E room env bind rel h
  · exact F'.run A outer s H args us vs Q E room env bind rel h
end
section
variable {X : Cx} {k : Nat} {sp : Sp} {pos : Pos} {fe e : Expr} {es : List Expr} {tf : TE} {t : TA}
def tCallOf (fs : List Addr) (sp : Sp) (tf : TE) (t : TA) : TE := fun σ H Q => tf σ H fun y H1 => ∃ f, f ∈ fs ∧ y = .ref f ∧ t σ H1 fun vs H2 => sp vs H2 Q E0
theorem pe_callOf {fs : List Addr} (hf : PE X fe tf) (F : ∀ f, f ∈ fs → ∃ fd ps, FnOk X.prog X.w X.K X.mg X.base CX0 k f fd ps sp ∧ PySem.W.keepIn X.K (.ref f) = true ∧ Binds X.K fd ps []) (room : Room k X.A) (ha : PA X (e :: es) t)
    (ht : eval (.Call fe (e :: es) [] pos) X.env = (do callWith pos (← eval fe X.env) [] (backTo pos (starEach (e :: es) X.env)) (backToKw pos (keywordEach [] X.env))) := by rfl)
    (he : starEach (e :: es) X.env = (false, eval e X.env) :: starEach es X.env := by rfl) (hpl : (backTo pos (starEach es X.env)).any (·.1) = false := by rfl) : PE X (.Call fe (e :: es) [] pos) (tCallOf fs sp tf t) := by
  refine ⟨fun pins s σ H Q I h => ?_⟩
  refine Call_ (thn (hf.run pins s σ H _ I h) fun u s1 ⟨y, H1, I1, ry, f, hm, ey, q⟩ => ?_) ht
  subst ey
  obtain rfl : u = Value.ref f := ry
  obtain ⟨fd, ps, G, kp, hb⟩ := F f hm
  refine PySem.W.callWith_K (h₀ := X.base) I.ok.mod.kin kp (thn (ha.run pos pins s1 σ H1 _ I1 q) fun us s2 ⟨vs, H2, I2, r, q2⟩ => ⟨I2.kIn, ?_⟩) he hpl
  exact run_fn (dvs := []) (E := E0) G room hb .nil pass0 I2 r (by rw [List.append_nil]; exact q2)
end
end L2
namespace L2
open PySem PySem.Spec PyProof.Rows
/-! ## Own words, 6: a method of an object of one of some sorts; isinstance against a base class -/
/-- a sort's method and its promise -/
structure MethC (P : Program) (w : World) (K : PySem.W.Frag) (mg : Str → Option Value) (base : Heap) (k : Nat) (m : Str) (ps : List Str) (sp : Sp) (C : Addr) : Prop where
  ex : ∃ f fd, Cls K C ∧ Meth K C m f ∧ FnOk P w K mg base CX0 k f fd ps sp ∧ Binds K fd ps []
section
variable {X : Cx} {k : Nat} {α : Type 1} {As : List α} {cl : α → Addr} {sp : α → Sp} {m : Str} {ps : List Str} {pos apos : Pos} {o e : Expr} {es : List Expr} {ta : TE} {t : TA}
def tMethOf (As : List α) (cl : α → Addr) (m : Str) (sp : α → Sp) (ta : TE) (t : TA) : TE := fun σ H Q => ta σ H fun x H1 => ∃ (A : α) (a dx : Addr) (fs : List (Str × V)), A ∈ As ∧ x = .ref a ∧ H1 a = some (.ins (cl A) dx fs) ∧ fs.lookup m = none ∧ t σ H1 fun vs H2 => sp A (x :: vs) H2 Q E0
theorem pe_methOf {pl : Sem Bool} (he : PE X o ta) (F : ∀ A, A ∈ As → MethC X.prog X.w X.K X.mg X.base k m ps (sp A) (cl A)) (hr : Room k X.A) (ha : PA X (e :: es) t)
    (hst : starEach (e :: es) X.env = (false, eval e X.env) :: starEach es X.env := by rfl) (hpl : (backTo pos (starEach es X.env)).any (·.1) = false := by rfl)
    (ht : eval (.Call (.Attribute o m apos) (e :: es) [] pos) X.env = (do
      let ov ← eval o X.env
      standAt apos.atName
      let (f, first) ← holding [ov] (getMethod ov m pl)
      callWith pos f first (backTo pos (starEach (e :: es) X.env)) (backToKw pos (keywordEach [] X.env))) := by rfl) :
    PE X (.Call (.Attribute o m apos) (e :: es) [] pos) (tMethOf As cl m sp ta t) := by
  refine ⟨fun pins s σ H Q I h => ?_⟩
  refine PySem.W.methodCall_KW (pl := pl) (thn (he.run pins s σ H _ I h) fun u s1 ⟨x, H1, I1, rx, A, a, dx, fs, hA, ex, ea, l, q⟩ => ?_) ht
  subst ex
  obtain rfl : u = Value.ref a := rx
  obtain ⟨f, fd, c, hm, G, hb⟩ := (F A hA).ex
  refine getmeth_ok I1 ea c hm l ?_
  refine PySem.W.callWith_K (first := [.ref a]) (h₀ := X.base) I.ok.mod.kin hm.kp (thn (ha.run pos pins s1 σ H1 _ I1 q) fun us s2 ⟨vs, H2, I2, r, q2⟩ => ⟨I2.kIn, ?_⟩) hst hpl
  exact run_fn (us := .ref a :: us) (vs := .ref a :: vs) (dvs := []) (E := E0) G hr hb .nil pass0 I2 (.cons rfl r) (by rw [List.append_nil]; exact q2)
theorem pe_methOf0 {pl : Sem Bool} (he : PE X o ta) (F : ∀ A, A ∈ As → MethC X.prog X.w X.K X.mg X.base k m ps (sp A) (cl A)) (hr : Room k X.A)
    (ht : eval (.Call (.Attribute o m apos) [] [] pos) X.env = (do
      let ov ← eval o X.env
      standAt apos.atName
      let (f, first) ← holding [ov] (getMethod ov m pl)
      callWith pos f first (backTo pos (starEach [] X.env)) (backToKw pos (keywordEach [] X.env))) := by rfl) :
    PE X (.Call (.Attribute o m apos) [] [] pos) (tMethOf As cl m sp ta tNil) := by
  refine ⟨fun pins s σ H Q I h => ?_⟩
  refine PySem.W.methodCall_KW (pl := pl) (thn (he.run pins s σ H _ I h) fun u s1 ⟨x, H1, I1, rx, A, a, dx, fs, hA, ex, ea, l, q⟩ => ?_) ht
  subst ex
  obtain rfl : u = Value.ref a := rx
  obtain ⟨f, fd, c, hm, G, hb⟩ := (F A hA).ex
  refine getmeth_ok I1 ea c hm l ?_
  exact PySem.W.callWith_K0 (first := [.ref a]) I1.kIn hm.kp (run_fn (us := [.ref a]) (vs := [.ref a]) (dvs := []) (E := E0) G hr hb .nil pass0 I1 (.cons rfl .nil) q)
end
section
variable {P : Program} {w : World} {K : PySem.W.Frag} {mg : Str → Option Value} {base : Heap} {CX : CXT} {k : Nat} {f : Addr} {fd : FuncData} {ps : List Str} {α : Type 1} {As : List α} {sp : α → Sp}
theorem FnG.any (F : ∀ A, A ∈ As → FnG P w K mg base CX k f fd ps (sp A)) : FnG P w K mg base CX k f fd ps (fun vs H Q E => ∃ A, A ∈ As ∧ sp A vs H Q E) :=
  ⟨fun vs H Q E ⟨A, hA, h⟩ => (F A hA).size vs H Q E h, fun A outer s H args us vs Q E room guard env bind rel ⟨B, hB, h⟩ => (F B hB).goes A outer s H args us vs Q E room guard env bind rel h⟩
end
/-- what isinstance(o, CN) asks of o's class -/
structure InsC (K : PySem.W.Frag) (C CN : Addr) : Prop where
  ha : PySem.W.findIn K (.ref C) "__class__" = some (some (.builtin "object.__class__"))
  hn : PySem.W.specialIn K (.builtin "object.__class__") "__get__" = some (some (.builtin "getset_descriptor.__get__"))
  tk : PySem.W.takesIn K (.builtin "object.__class__") = some true
  mr : PySem.W.mroIn K C (.type "object") = some true
  kit : PySem.W.kitOne K (.ref C) (.ref CN) = some true
def insB (K : PySem.W.Frag) (C CN : Addr) : Bool :=
  decide (PySem.W.findIn K (.ref C) "__class__" = some (some (.builtin "object.__class__"))) && (decide (PySem.W.specialIn K (.builtin "object.__class__") "__get__" = some (some (.builtin "getset_descriptor.__get__"))) &&
  (decide (PySem.W.takesIn K (.builtin "object.__class__") = some true) && (decide (PySem.W.mroIn K C (.type "object") = some true) && decide (PySem.W.kitOne K (.ref C) (.ref CN) = some true))))
theorem insB_ok {K : PySem.W.Frag} {C CN : Addr} (h : insB K C CN = true) : InsC K C CN := by
  obtain ⟨h1, h⟩ := He.ba h
  obtain ⟨h2, h⟩ := He.ba h
  obtain ⟨h3, h⟩ := He.ba h
  obtain ⟨h4, h5⟩ := He.ba h
  exact ⟨of_decide_eq_true h1, of_decide_eq_true h2, of_decide_eq_true h3, of_decide_eq_true h4, of_decide_eq_true h5⟩
theorem InsC.ty {K : PySem.W.Frag} {C CN a dx : Addr} {H : Hp} {fs : List (Str × V)} (i : InsC K C CN) (c : Cls K C) (h : H a = some (.ins C dx fs)) : TyX K H (.ref a) (.ref C) := .base (.ins h c i.ha i.hn i.tk i.mr)
end L2
namespace Sw
open PySem PySem.Spec PyProof.Rows L2
/-! ### 1. the text by places -/
def top (i : Nat) : Stmt := PySem.Challenge.pw_sampleweave_k12_plain_nodes.main.body.getD i (.Pass ⟨0, 0, 0, 0⟩)
abbrev FnP (K : PySem.W.Frag) (x : Str) (st : Stmt) (f : Addr) (fd : FuncData) : Prop := FunD K x x (defArgs st) (defBody st) (defScope st) [] [] f fd
abbrev sNodeInit : Stmt := inClass (top 14) 0
abbrev sWhole : Stmt := top 5
abbrev sWithin : Stmt := top 6
abbrev sNeed : Stmt := top 7
abbrev sFiring : Stmt := top 9
abbrev sCell : Stmt := top 22
abbrev sPot : Stmt := top 23
abbrev sDraw : Stmt := top 24
abbrev sNumber : Stmt := top 25
abbrev sStreams : Stmt := top 26
abbrev sSpec : Stmt := top 27
abbrev sMade : Stmt := top 28
abbrev sRounded : Stmt := top 29
abbrev sGiven : Stmt := top 30
abbrev sIsTold : Stmt := top 31
abbrev sLRight : Stmt := top 32
abbrev sLaw : Stmt := top 33
abbrev sGainInit : Stmt := inClass (top 15) 0
abbrev sGainTakes : Stmt := inClass (top 15) 1
abbrev sGainGives : Stmt := inClass (top 15) 2
abbrev sGainFresh : Stmt := inClass (top 15) 5
abbrev sGainFire : Stmt := inClass (top 15) 6
abbrev sGainWork : Stmt := inClass (top 15) 7
abbrev sMixInit : Stmt := inClass (top 16) 0
abbrev sMixTakes : Stmt := inClass (top 16) 1
abbrev sMixGives : Stmt := inClass (top 16) 2
abbrev sMixFresh : Stmt := inClass (top 16) 5
abbrev sMixFire : Stmt := inClass (top 16) 6
abbrev sMixWork : Stmt := inClass (top 16) 7
abbrev sTimesInit : Stmt := inClass (top 17) 0
abbrev sTimesTakes : Stmt := inClass (top 17) 1
abbrev sTimesGives : Stmt := inClass (top 17) 2
abbrev sTimesFresh : Stmt := inClass (top 17) 5
abbrev sTimesFire : Stmt := inClass (top 17) 6
abbrev sTimesWork : Stmt := inClass (top 17) 7
abbrev sClipInit : Stmt := inClass (top 18) 0
abbrev sClipTakes : Stmt := inClass (top 18) 1
abbrev sClipGives : Stmt := inClass (top 18) 2
abbrev sClipFresh : Stmt := inClass (top 18) 5
abbrev sClipFire : Stmt := inClass (top 18) 6
abbrev sClipWork : Stmt := inClass (top 18) 7
abbrev sShareInit : Stmt := inClass (top 19) 0
abbrev sShareTakes : Stmt := inClass (top 19) 1
abbrev sShareGives : Stmt := inClass (top 19) 2
abbrev sShareFresh : Stmt := inClass (top 19) 5
abbrev sShareFire : Stmt := inClass (top 19) 6
abbrev sShareWork : Stmt := inClass (top 19) 7
abbrev sChooseInit : Stmt := inClass (top 20) 0
abbrev sChooseTakes : Stmt := inClass (top 20) 1
abbrev sChooseGives : Stmt := inClass (top 20) 2
abbrev sChooseFresh : Stmt := inClass (top 20) 5
abbrev sChooseFire : Stmt := inClass (top 20) 6
abbrev sChooseWork : Stmt := inClass (top 20) 7
/-! ### 2. pots -/
/-- all but what stands at p is as it was -/
def Kept (p : Addr) (H H' : Hp) : Prop := ∀ b o, b ≠ p → H b = some o → H' b = some o
theorem Kept.refl {p : Addr} {H : Hp} : Kept p H H := fun _ _ _ h => h
theorem Kept.trans {p : Addr} {H H1 H2 : Hp} (a : Kept p H H1) (b : Kept p H1 H2) : Kept p H H2 := fun c o n h => b c o n (a c o n h)
theorem Kept.upd {p : Addr} {H H1 : Hp} {o : HO} (a : Kept p H H1) : Kept p H (upd H1 p o) := fun c o n h => by
  rw [upd_ne n]
  exact a c o n h
theorem Kept.new {p q : Addr} {H H1 : Hp} {o : HO} (a : Kept p H H1) (h : H1 q = none) : Kept p H (L2.upd H1 q o) := fun c o n e => by
  have e1 := a c o n e
  rw [upd_ne (ne_of_none e1 h)]
  exact e1
theorem Kept.same {p : Addr} {H H1 : Hp} (a : Same H H1) : Kept p H H1 := fun c o _ e => a c o e
/-- behind a heap in which nothing stood at p -/
theorem Same.kept {p : Addr} {H0 H H1 : Hp} (s : Same H0 H) (h : H0 p = none) (k : Kept p H H1) : Same H0 H1 := fun b o e =>
  k b o (fun z => by rw [z, h] at e; cases e) (s b o e)
theorem Same.new {H H1 : Hp} {q : Addr} {o : HO} (a : Same H H1) (h : H1 q = none) : Same H (upd H1 q o) := fun c u e => by
  have e1 := a c u e
  rw [upd_ne (ne_of_none e1 h)]
  exact e1
/-- a pot: two numbers from 0 on, the second one small -/
def PotAt (H : Hp) (p : Addr) : Prop := ∃ a b : Int, 0 ≤ a ∧ 0 ≤ b ∧ b < 2147483647 ∧ H p = some (.lst [.int a, .int b])
theorem PotAt.keep {H H1 : Hp} {p : Addr} (h : PotAt H p) (s : Same H H1) : PotAt H1 p := by
  obtain ⟨a, b, h1, h2, h3, h4⟩ := h
  exact ⟨a, b, h1, h2, h3, s _ _ h4⟩
/-! ### 3. promises -/
def spCell (K : PySem.W.Frag) : Sp := fun vs H Q _ => ∃ (a : Addr) (ns : List Int) (k : Nat), vs = [.ref a, .int (k : Int)] ∧ SqL K H a (ns.map V.int) ∧ ∀ c : Int, Q (.int c) H
def spPot : Sp := fun vs H Q _ => ∃ c : Int, vs = [.int c] ∧ ∀ (p : Addr) (H' : Hp), H p = none → Same H H' → PotAt H' p → Q (.ref p) H'
def spDraw : Sp := fun vs H Q _ => ∃ (p : Addr) (m : Int), vs = [.ref p, .int m] ∧ PotAt H p ∧ 0 < m ∧ m < 2 ^ 64 ∧ ∀ (d : Int) (H' : Hp), 0 ≤ d → d < m → Kept p H H' → PotAt H' p → Q (.int d) H'
def spNumber : Sp := fun vs H Q _ => ∃ p : Addr, vs = [.ref p] ∧ PotAt H p ∧ ∀ (d : Int) (H' : Hp), -(10 ^ 56) < d → d < 10 ^ 56 → Kept p H H' → PotAt H' p → Q (.int d) H'
section
variable {P : Program} {w : World} {K : PySem.W.Frag} {mg : Str → Option Value} {base : Heap} {f f1 f2 f3 f4 f5 f6 C CW CN : Addr} {fd fd1 fd2 fd3 fd4 fd5 fd6 : FuncData}
theorem scCell : FnScope ["_law_script", "_law_k"] ["_law_script", "_law_k"] (defScope sCell) := ⟨rfl, rfl, rfl, by decide +kernel, rfl, by decide +kernel, by decide +kernel⟩
theorem ok_cell (F : FnP K "_law_cell" sCell f fd) (gLen : mg "len" = none) : FnOk P w K mg base CX0 1 f fd ["_law_script", "_law_k"] (spCell K) := by
  refine F.ok scCell (fun vs H Q E h => ?_) (fun cdv A outer s H vs Q E hr h => ?_)
  · obtain ⟨a, ns, k, rfl, _⟩ := h
    rfl
  · obtain ⟨a, ns, k, rfl, hS, kk⟩ := h
    refine ⟨_, PSs.nox (pss_one (ps_ret (pe_ifExp (pt_cmpR op_lt (pv 1) (pe_callB call_len_seq (by rfl) gLen PySem.boot_len (pa_cons (pv 0) pa_nil)) (nomark _)) (pe_ix ix_list (pv 0) (pv 1) (fun _ _ => rfl)) pe_int))), ?_⟩
    refine ⟨_, rfl, _, rfl, a, _, rfl, .inl hS, _, _, rfl, rfl, _, rfl, ?_⟩
    refine ite2 (fun h => ?_) (fun _ => kk 0)
    have h1 := of_decide_eq_true h
    rw [List.length_map] at h1
    have h2 : k < ns.length := by omega
    refine ⟨_, rfl, _, rfl, a, _, _, V.int (ns[k]), rfl, rfl, hS, atI_nat ?_, kk _⟩
    rw [List.getElem?_map, List.getElem?_eq_getElem h2]
    rfl
theorem scPot : FnScope ["_law_cell_here"] ["_law_cell_here"] (defScope sPot) := ⟨rfl, rfl, rfl, by decide +kernel, rfl, by decide +kernel, by decide +kernel⟩
theorem ok_pot (F : FnP K "_law_pot" sPot f fd) (gMax : mg "max" = none) : FnOk P w K mg base CX0 1 f fd ["_law_cell_here"] spPot := by
  refine F.ok scPot (fun vs H Q E h => ?_) (fun cdv A outer s H vs Q E hr h => ?_)
  · obtain ⟨c, rfl, _⟩ := h
    rfl
  · obtain ⟨c, rfl, kk⟩ := h
    refine ⟨_, PSs.nox (pss_one (ps_ret (pe_lst (pa_cons (pe_callB (call_max2 rfl) (by rfl) gMax (by decide +kernel) (pa_cons pe_int (pa_cons (pe_op op_sub (pv 0) (pe_op op_pow pe_int pe_int)) pa_nil)))
      (pa_cons (pe_op op_mod (pe_op op_add (pe_op op_mul (pe_op op_mod (pv 0) pe_int) pe_int) pe_int) pe_int) pa_nil))))), ?_⟩
    refine ⟨_, rfl, _, _, rfl, rfl, ⟨by decide, by decide, by decide⟩, _, _, rfl, rfl, _, _, rfl, ?_⟩
    have q0 := Int.emod_nonneg c (show (2147483629 : Int) ≠ 0 by decide)
    have q1 := Int.emod_lt_of_pos c (show (0 : Int) < 2147483629 by decide)
    refine ⟨_, rfl, _, _, rfl, rfl, (by show (0 : Int) < _; decide), _, _, rfl, rfl, .inr ⟨by decide, by decide⟩, _, _, rfl, rfl, _, _, rfl, rfl, (by show (0 : Int) < _; decide), ?_⟩
    refine ⟨(by show 2 ≤ sizeLine; decide), fun p hp => kk p _ hp (Same.new (Same.refl _) hp) ⟨_, _, ?_, ?_, ?_, upd_same⟩⟩
    · split
      · omega
      · decide
    · exact Int.emod_nonneg _ (by decide)
    · exact Int.emod_lt_of_pos _ (by decide)
theorem scDraw : FnScope ["_law_pot_here", "_law_many", "_law_digit"] ["_law_pot_here", "_law_many"] (defScope sDraw) := ⟨rfl, rfl, rfl, by decide +kernel, rfl, by decide +kernel, by decide +kernel⟩
theorem div_wide {i m : Int} (h0 : 0 < m) (h1 : m < 2 ^ 64) : CDivW i m := wide_div (b := 64) h0 (by omega) (by decide) (by decide)
theorem ok_draw (F : FnP K "_law_draw" sDraw f fd) : FnOk P w K mg base CX0 1 f fd ["_law_pot_here", "_law_many"] spDraw := by
  refine F.ok scDraw (fun vs H Q E h => ?_) (fun cdv A outer s H vs Q E hr h => ?_)
  · obtain ⟨p, m, rfl, _⟩ := h
    rfl
  · obtain ⟨p, m, rfl, ⟨a, b, a0, b0, b1, hp⟩, m0, m1, kk⟩ := h
    refine ⟨_, PSs.nox (pss_cons (ps_if (pt_cmpR op_gt (pe_ix ix_list (pv 0) pe_int (fun _ _ => rfl)) pe_int (nomark _))
        (pss_cons (ps_set (i := 2) scDraw.nd rfl (Or.inl rfl) (pe_op op_mod (pe_ix ix_list (pv 0) pe_int (fun _ _ => rfl)) (pv 1)))
          (pss_cons (ps_asg (pe_op op_fdivW (pe_ix ix_list (pv 0) pe_int (fun _ _ => rfl)) (pv 1)) (pg_sub (pv 0) pe_int set_list (by intro _; rfl)))
            (pss_one (ps_ret (pv 2))))) pss_nil)
      (pss_cons (ps_asg (pe_op op_mod (pe_op op_add (pe_op op_mul (pe_ix ix_list (pv 0) pe_int (fun _ _ => rfl)) pe_int) pe_int) pe_int) (pg_sub (pv 0) pe_int set_list (by intro _; rfl)))
        (pss_one (ps_ret (pe_op op_mod (pe_op op_fdiv (pe_op op_mod (pe_op op_mul (pe_ix ix_list (pv 0) pe_int (fun _ _ => rfl)) (pe_ix ix_list (pv 0) pe_int (fun _ _ => rfl))) pe_int) pe_int) (pv 1)))))), ?_⟩
    refine ⟨_, rfl, p, _, _, _, rfl, rfl, SqL.of hp, atI_nat (j := 0) rfl, _, _, rfl, rfl, _, rfl, ?_⟩
    refine ite2 (fun h => ?_) (fun _ => ?_)
    · refine ⟨_, rfl, p, _, _, _, rfl, rfl, SqL.of hp, atI_nat (j := 0) rfl, _, rfl, _, _, rfl, rfl, m0, ?_⟩
      refine ⟨_, rfl, p, _, _, _, rfl, rfl, SqL.of hp, atI_nat (j := 0) rfl, _, rfl, _, _, rfl, rfl, div_wide m0 m1, ?_⟩
      refine ⟨_, rfl, p, _, _, 0, rfl, rfl, hp, rfl, ?_⟩
      refine ⟨_, rfl, kk _ _ (Int.emod_nonneg _ (by omega)) (Int.emod_lt_of_pos _ m0) (Kept.upd Kept.refl) ⟨_, _, Int.ediv_nonneg a0 (by omega), b0, b1, upd_same⟩⟩
    · refine ⟨_, rfl, p, _, _, _, rfl, rfl, SqL.of hp, atI_nat (j := 1) rfl, _, _, rfl, rfl, .inr ⟨by decide, by decide⟩, _, _, rfl, rfl, _, _, rfl, rfl, (by show (0 : Int) < _; decide), ?_⟩
      refine ⟨_, rfl, p, _, _, 1, rfl, rfl, hp, rfl, ?_⟩
      have c0 := Int.emod_nonneg (b * 39373 + 8191) (show (2147483587 : Int) ≠ 0 by decide)
      have c1 := Int.emod_lt_of_pos (b * 39373 + 8191) (show (0 : Int) < 2147483587 by decide)
      have hq : (upd H p (.lst ([V.int a, V.int b].set 1 (V.int ((b * 39373 + 8191) % 2147483587))))) p = some (.lst [V.int a, V.int ((b * 39373 + 8191) % 2147483587)]) := upd_same
      refine ⟨_, rfl, p, _, _, _, rfl, rfl, SqL.of hq, atI_nat (j := 1) rfl, _, rfl, p, _, _, _, rfl, rfl, SqL.of hq, atI_nat (j := 1) rfl, _, _, rfl, rfl, .inl ⟨by omega, by omega⟩, ?_⟩
      refine ⟨_, _, rfl, rfl, (by show (0 : Int) < _; decide), _, _, rfl, rfl, ⟨by decide, by decide⟩, _, rfl, _, _, rfl, rfl, m0, ?_⟩
      exact kk _ _ (Int.emod_nonneg _ (by omega)) (Int.emod_lt_of_pos _ m0) (Kept.upd Kept.refl) ⟨_, _, a0, c0, by omega, hq⟩
theorem scNumber : FnScope ["_law_pot_here", "_law_way", "_law_found", "_law_k"] ["_law_pot_here"] (defScope sNumber) := ⟨rfl, rfl, rfl, by decide +kernel, rfl, by decide +kernel, by decide +kernel⟩
def tabM : List V := [.int 21, .int 21, .int 21, .int 3, .int 201, .int 2001, .int (10 ^ 9)]
def tabO : List V := [.int 10, .int 10, .int 5, .int 1, .int 100, .int 1000, .int 500000000]
theorem tab_at {d : Int} (h0 : 0 < d) (h8 : d < 8) : ∃ m o : Int, atI tabM (d - 1) = some (.int m) ∧ atI tabO (d - 1) = some (.int o) ∧ 0 < m ∧ m ≤ 10 ^ 9 ∧ 0 ≤ o ∧ o ≤ 10 ^ 9 := by
  have : d = 1 ∨ d = 2 ∨ d = 3 ∨ d = 4 ∨ d = 5 ∨ d = 6 ∨ d = 7 := by omega
  rcases this with rfl | rfl | rfl | rfl | rfl | rfl | rfl
  all_goals exact ⟨_, _, rfl, rfl, by decide, by decide, by decide, by decide⟩
theorem ten_step {x d : Int} {i : Nat} (h0 : 0 ≤ x) (h1 : x < 10 ^ (14 * i)) (d0 : 0 ≤ d) (d1 : d < 10 ^ 14) : x * 10 ^ 14 + d < 10 ^ (14 * (i + 1)) := by
  rw [show 14 * (i + 1) = 14 * i + 14 by omega, Int.pow_add]
  generalize hy : (10 : Int) ^ (14 * i) = y at *
  omega
theorem ok_number (F : FnP K "_law_number" sNumber f fd) (FD : FnP K "_law_draw" sDraw f1 fd1) (gDraw : mg "_law_draw" = some (.ref f1)) (gRange : mg "range" = none) : FnOk P w K mg base CX0 2 f fd ["_law_pot_here"] spNumber := by
  have GD : FnOk P w K mg base CX0 1 f1 fd1 ["_law_pot_here", "_law_many"] spDraw := ok_draw FD
  have bD : Binds K fd1 ["_law_pot_here", "_law_many"] [] := FD.bindsN fun _ _ _ _ _ _ us hl => match us, hl with | [_, _], _ => rfl
  refine F.ok scNumber (fun vs H Q E h => ?_) (fun cdv A outer s H vs Q E hr h => ?_)
  · obtain ⟨p, rfl, _⟩ := h
    rfl
  · obtain ⟨p, rfl, hp, kk⟩ := h
    refine ⟨_, PSs.nox (pss_cons (ps_set (i := 1) scNumber.nd rfl (Or.inl rfl) (pe_call GD hr rfl gDraw FD.kp bD .nil pass0 (pa_cons (pv 0) (pa_cons pe_int pa_nil))))
      (pss_cons (ps_if (pt_cmpR op_eq (pv 1) pe_int (nomark _))
        (pss_cons (ps_set (i := 2) scNumber.nd rfl (Or.inl rfl) pe_int)
          (pss_cons (ps_for PassesOwn.never rfl (pi_range1 rfl gRange (pa_cons pe_int pa_nil)) (pg_name (i := 3) scNumber.nd rfl (Or.inl rfl))
              (pss_one (ps_set (i := 2) scNumber.nd rfl (Or.inl rfl) (pe_op op_add (pe_op op_mul (pv 2) (pe_op op_pow pe_int pe_int)) (pe_call GD hr rfl gDraw FD.kp bD .nil pass0 (pa_cons (pv 0) (pa_cons (pe_op op_pow pe_int pe_int) pa_nil)))))))
            (pss_one (ps_ret (pe_op op_mul (pv 2) (pe_op op_sub pe_int (pe_op op_mul pe_int (pe_call GD hr rfl gDraw FD.kp bD .nil pass0 (pa_cons (pv 0) (pa_cons pe_int pa_nil))))))))))
        pss_nil)
      (pss_one (ps_ret (pe_op op_sub (pe_call GD hr rfl gDraw FD.kp bD .nil pass0 (pa_cons (pv 0) (pa_cons (pe_ix ix_list
          (pe_lst (pa_cons pe_int (pa_cons pe_int (pa_cons pe_int (pa_cons pe_int (pa_cons pe_int (pa_cons pe_int (pa_cons (pe_op op_pow pe_int pe_int) pa_nil)))))))) (pe_op op_sub (pv 1) pe_int) (fun _ _ => rfl)) pa_nil)))
        (pe_ix ix_list (pe_lst (pa_cons pe_int (pa_cons pe_int (pa_cons pe_int (pa_cons pe_int (pa_cons pe_int (pa_cons pe_int (pa_cons pe_int pa_nil)))))))) (pe_op op_sub (pv 1) pe_int) (fun _ _ => rfl))))))), ?_⟩
    refine ⟨_, rfl, p, 8, rfl, hp, by decide, by decide, fun d H1 d0 d8 k1 hp1 => ?_⟩
    refine ⟨_, rfl, rfl, _, rfl, ?_⟩
    refine ite2 (fun h => ?_) (fun h => ?_)
    · refine ⟨4, rfl, by decide, by decide, for_range (n := 4) (fun i σ H' => ∃ (x : Int) (v : Option V), σ = [some (.ref p), some (.int d), some (.int x), v] ∧ 0 ≤ x ∧ x < 10 ^ (14 * i) ∧ Kept p H H' ∧ PotAt H' p)
        ⟨0, none, rfl, by decide, by decide, k1, hp1⟩ ?_ ?_⟩
      · rintro i σ H' hi ⟨x, v, rfl, x0, x1, k2, hp2⟩
        refine ⟨_, rfl, _, _, rfl, rfl, ⟨by decide, by decide, by decide⟩, _, _, rfl, rfl, .inr ⟨by decide, by decide⟩, ?_⟩
        refine ⟨_, rfl, _, _, rfl, rfl, ⟨by decide, by decide, by decide⟩, p, _, rfl, hp2, by decide, by decide, fun e H3 e0 e1 k3 hp3 => ?_⟩
        exact ⟨_, _, rfl, rfl, x * 10 ^ 14 + e, _, rfl, by omega, ten_step x0 x1 e0 e1, k2.trans k3, hp3⟩
      · rintro σ H' ⟨x, v, rfl, x0, x1, k2, hp2⟩
        refine ⟨_, rfl, _, rfl, p, 2, rfl, hp2, by decide, by decide, fun e H3 e0 e1 k3 hp3 => ?_⟩
        refine ⟨_, _, rfl, rfl, .inl ⟨by decide, by decide⟩, _, _, rfl, rfl, _, _, rfl, rfl, .inr ⟨by omega, by omega⟩, ?_⟩
        have : e = 0 ∨ e = 1 := by omega
        have x2 : x < 10 ^ 56 := x1
        refine kk _ _ ?_ ?_ (k2.trans k3) hp3
        · rcases this with rfl | rfl <;> omega
        · rcases this with rfl | rfl <;> omega
    · have dn : d ≠ 0 := fun z => h (decide_eq_true (by rw [z]))
      obtain ⟨m, o, e1, e2, m0, m1, o0, o1⟩ := tab_at (d := d) (by omega) d8
      refine ⟨_, rfl, _, _, rfl, rfl, ⟨by decide, by decide, by decide⟩, (by show 7 ≤ sizeLine; decide), fun l hl => ?_⟩
      refine ⟨_, rfl, _, _, rfl, rfl, l, _, _, _, rfl, rfl, SqL.of upd_same, e1, ?_⟩
      have hp2 : PotAt (upd H1 l (.lst tabM)) p := hp1.keep (Same.new (Same.refl _) hl)
      refine ⟨p, m, rfl, hp2, m0, by omega, fun e H3 e0 e1' k3 hp3 => ?_⟩
      refine ⟨(by show 7 ≤ sizeLine; decide), fun l2 hl2 => ?_⟩
      refine ⟨_, rfl, _, _, rfl, rfl, l2, _, _, _, rfl, rfl, SqL.of upd_same, e2, _, _, rfl, rfl, ?_⟩
      exact kk _ _ (by omega) (by omega) (((k1.new hl).trans k3).new hl2) (hp3.keep (Same.new (Same.refl _) hl2))
end
/-! ### is_whole, is_whole_within -/
def NoInt (K : PySem.W.Frag) (H : Hp) (v : V) : Prop := (∃ b, v = .bl b) ∨ ∃ T : String, TyX K H v (.type T) ∧ kitB T "int" = some false
def OddV (K : PySem.W.Frag) (H : Hp) (v : V) : Prop := (∃ i : Int, v = .int i ∧ (i < 0 ∨ 400 < i)) ∨ NoInt K H v
def spWhole (K : PySem.W.Frag) : Sp := fun vs H Q _ => ∃ v : V, vs = [v] ∧ ((∃ i : Int, v = .int i ∧ Q (.bl true) H) ∨ (NoInt K H v ∧ Q (.bl false) H))
def spWithin (K : PySem.W.Frag) : Sp := fun vs H Q _ => ∃ (v : V) (lo hi : Int), vs = [v, .int lo, .int hi] ∧ ((∃ i : Int, v = .int i ∧ Q (.bl (decide (lo ≤ i ∧ i ≤ hi))) H) ∨ (NoInt K H v ∧ Q (.bl false) H))
section
variable {P : Program} {w : World} {K : PySem.W.Frag} {mg : Str → Option Value} {base : Heap} {f f1 f2 f3 f4 f5 f6 C CW CN : Addr} {fd fd1 fd2 fd3 fd4 fd5 fd6 : FuncData}
theorem scWhole : FnScope ["thing"] ["thing"] (defScope sWhole) := ⟨rfl, rfl, rfl, by decide +kernel, rfl, by decide +kernel, by decide +kernel⟩
theorem ok_whole (F : FnP K "is_whole" sWhole f fd) (gIs : mg "isinstance" = none) (gInt : mg "int" = none) (gBool : mg "bool" = none) : FnOk P w K mg base CX0 1 f fd ["thing"] (spWhole K) := by
  refine F.ok scWhole (fun vs H Q E h => ?_) (fun cdv A outer s H vs Q E hr h => ?_)
  · obtain ⟨v, rfl, _⟩ := h
    rfl
  · obtain ⟨v, rfl, h⟩ := h
    refine ⟨_, PSs.nox (pss_one (ps_ret (pe_and (pe_callB call_isi (by rfl) gIs boot_isinstance (pa_cons (pv 0) (pa_cons (pe_bltn (v := .ty "int") rfl gInt PyProof.Rows.boot_int rfl) pa_nil)))
      (pe_one (pe_not (pe_callB call_isi (by rfl) gIs boot_isinstance (pa_cons (pv 0) (pa_cons (pe_bltn (v := .ty "bool") rfl gBool PyProof.Rows.boot_bool rfl) pa_nil)))))))), ?_⟩
    rcases h with ⟨i, rfl, k⟩ | ⟨⟨b, rfl⟩ | ⟨T, ty, ki⟩, k⟩
    · refine ⟨_, rfl, _, _, _, _, true, rfl, ClsV.ty _, TyX.base (TyOf.int i), kit_ty (by decide +kernel), _, rfl, iteT ?_⟩
      exact ⟨_, rfl, _, _, _, _, false, rfl, ClsV.ty _, TyX.base (TyOf.int i), kit_ty (by decide +kernel), _, rfl, k⟩
    · refine ⟨_, rfl, _, _, _, _, true, rfl, ClsV.ty _, TyX.base (TyOf.bl b), kit_ty (by decide +kernel), _, rfl, iteT ?_⟩
      exact ⟨_, rfl, _, _, _, _, true, rfl, ClsV.ty _, TyX.base (TyOf.bl b), kit_ty (by decide +kernel), _, rfl, k⟩
    · exact ⟨_, rfl, _, _, _, _, false, rfl, ClsV.ty _, ty, kit_ty ki, _, rfl, iteF k⟩
theorem scWithin : FnScope ["thing", "least", "most"] ["thing", "least", "most"] (defScope sWithin) := ⟨rfl, rfl, rfl, by decide +kernel, rfl, by decide +kernel, by decide +kernel⟩
theorem ok_within (F : FnP K "is_whole_within" sWithin f fd) (GI : FnOk P w K mg base CX0 1 f1 fd1 ["thing"] (spWhole K)) (gI : mg "is_whole" = some (.ref f1)) (kI : PySem.W.keepIn K (.ref f1) = true) (bI : Binds K fd1 ["thing"] []) : FnOk P w K mg base CX0 2 f fd ["thing", "least", "most"] (spWithin K) := by
  refine F.ok scWithin (fun vs H Q E h => ?_) (fun cdv A outer s H vs Q E hr h => ?_)
  · obtain ⟨v, lo, hi, rfl, _⟩ := h
    rfl
  · obtain ⟨v, lo, hi, rfl, h⟩ := h
    refine ⟨_, PSs.nox (pss_one (ps_ret (pe_and (pe_call GI hr rfl gI kI bI .nil pass0 (pa_cons (pv 0) pa_nil)) (pe_one (pe_chain op_le op_le (pv 1) (pv 0) (pv 2)))))), ?_⟩
    rcases h with ⟨i, rfl, k⟩ | ⟨no, k⟩
    · refine ⟨_, rfl, _, rfl, .inl ⟨i, rfl, _, rfl, iteT ?_⟩⟩
      refine ⟨_, rfl, _, rfl, _, _, rfl, rfl, _, rfl, ?_⟩
      refine ite2 (fun h => ?_) (fun h => ?_)
      · refine ⟨_, rfl, _, _, rfl, rfl, ?_⟩
        have e : decide (lo ≤ i ∧ i ≤ hi) = decide (i ≤ hi) := decide_eq_decide.mpr ⟨fun z => z.2, fun z => ⟨of_decide_eq_true h, z⟩⟩
        rw [e] at k
        exact k
      · have e : decide (lo ≤ i ∧ i ≤ hi) = false := decide_eq_false fun z => h (decide_eq_true z.1)
        rw [e] at k
        exact k
    · exact ⟨_, rfl, _, rfl, .inr ⟨no, _, rfl, iteF k⟩⟩
end
/-! ### lists of ints as data -/
theorem dp_ints {K : PySem.W.Frag} {H : Hp} : ∀ ns : List Int, DpAll K H (ns.map V.int) (ns.map PyData.int)
  | [] => .nil
  | n :: ns => .cons (.int n) (dp_ints ns)
theorem lay_ints : ∀ ns : List Int, PyData.canLayAll0 (ns.map PyData.int) = true
  | [] => rfl
  | n :: ns => by
    rw [List.map_cons, PyData.canLayAll0, lay_ints ns]
    rfl
theorem depth_ints : ∀ ns : List Int, PyData.depthAll (ns.map PyData.int) = 0
  | [] => by rw [List.map_nil, PyData.depthAll]
  | n :: ns => by
    rw [List.map_cons, PyData.depthAll, depth_ints ns, PyData.depth]
    rfl
theorem shaped_ints (ns : List Int) : SeqAt.shaped (.list (ns.map PyData.int)) = true := by
  unfold SeqAt.shaped
  rw [PyData.canLay0, lay_ints, PyData.depth, depth_ints]
  rfl
theorem eqv_ints (ns : List Int) : PyData.eqv (.list (ns.map PyData.int)) (.list (ns.map PyData.int)) = true := by
  refine SeqAt.eqv_refl _ ?_
  rw [PyData.canLay0]
  exact lay_ints ns
theorem dp_at {K : PySem.W.Frag} {H : Hp} {a : Addr} {ns : List Int} (h : H a = some (.lst (ns.map V.int))) : Dp K H (.ref a) (.list (ns.map PyData.int)) := .lst (SqL.of h) (dp_ints ns)
/-! ### need, Node.__init__, run_firing -/
abbrev FnM (K : PySem.W.Frag) (x q : Str) (st : Stmt) (f : Addr) (fd : FuncData) : Prop := FunD K x q (defArgs st) (defBody st) (defScope st) [] [] f fd
theorem Same.tup {K : PySem.W.Frag} {H H1 : Hp} {a : Addr} {xs : List V} (s : Same H H1) (h : SqT K H a xs) : SqT K H1 a xs := by
  rcases h with (h | ⟨o, h⟩) | h
  · exact .inl (.inl (s _ _ h))
  · exact .inl (.inr ⟨o, s _ _ h⟩)
  · exact .inr h
theorem Kept.at {p b : Addr} {H H1 : Hp} {o u : HO} (k : Kept p H H1) (hp : H p = some u) (hb : H b = some o) (n : o ≠ u) : H1 b = some o := k b o (fun z => n (by rw [z, hp] at hb; exact (Option.some.inj hb).symm)) hb
theorem Kept.tup {K : PySem.W.Frag} {p a : Addr} {H H1 : Hp} {xs : List V} (k : Kept p H H1) (hp : PotAt H p) (h : SqT K H a xs) : SqT K H1 a xs := by
  obtain ⟨x, y, _, _, _, hp⟩ := hp
  rcases h with (h | ⟨o, h⟩) | h
  · exact .inl (.inl (k.at hp h (fun z => by cases z)))
  · exact .inl (.inr ⟨o, k.at hp h (fun z => by cases z)⟩)
  · exact .inr h
/-- an instance of the class at C, with these fields -/
def InsAt (H : Hp) (p C : Addr) (fs : List (Str × V)) : Prop := ∃ dx, H p = some (.ins C dx fs)
theorem InsAt.keep {H H1 : Hp} {p C : Addr} {fs : List (Str × V)} (h : InsAt H p C fs) (s : Same H H1) : InsAt H1 p C fs := by
  obtain ⟨dx, h⟩ := h
  exact ⟨dx, s _ _ h⟩
theorem InsAt.kept {H H1 : Hp} {p q C : Addr} {fs : List (Str × V)} (h : InsAt H p C fs) (k : Kept q H H1) (hq : PotAt H q) : InsAt H1 p C fs := by
  obtain ⟨dx, h⟩ := h
  obtain ⟨x, y, _, _, _, hq⟩ := hq
  exact ⟨dx, k.at hq h (fun z => by cases z)⟩
def spNeed : Sp := fun vs H Q _ => ∃ v : V, vs = [.bl true, v] ∧ Q .non H
/-- what all sorts keep -/
def nodeF (tm : Addr) (l b : Int) (fs : List (Str × V)) : List (Str × V) := putF "begin_at" (.int b) (putF "late_by" (.int l) (putF "made" (.ref tm) fs))
def spNodeInit (K : PySem.W.Frag) (C : Addr) : Sp := fun vs H Q _ => ∃ (p t dx : Addr) (fs : List (Str × V)) (xs : List V) (l b : Int), vs = [.ref p, .ref t, .int l, .int b] ∧ H p = some (.ins C dx fs) ∧ SqT K H t xs ∧ (0 ≤ l ∧ l ≤ 99) ∧ (0 ≤ b ∧ b ≤ 9999) ∧
  fs.length < 900 ∧ xs.length ≤ 1000 ∧ ∀ tm, H tm = none → Q .non (upd (upd H tm (.tup (xs ++ [.int l, .int b]))) p (.ins C dx (nodeF tm l b fs)))
structure NodeC (K : PySem.W.Frag) (C : Addr) : Prop where
  cl : Cls K C
  nM : NoAttr K C "made"
  nL : NoAttr K C "late_by"
  nB : NoAttr K C "begin_at"
theorem putF_le (f : Str) (v : V) : ∀ fs : List (Str × V), (putF f v fs).length ≤ fs.length + 1
  | [] => Nat.le_refl _
  | (g, x) :: r => by
    unfold putF
    split
    · exact Nat.le_succ _
    · exact Nat.succ_le_succ (putF_le f v r)
section
variable {P : Program} {w : World} {K : PySem.W.Frag} {mg : Str → Option Value} {base : Heap} {f f1 f2 f3 f4 f5 f6 C CW CN : Addr} {fd fd1 fd2 fd3 fd4 fd5 fd6 : FuncData}
theorem scNeed : FnScope ["holds", "field"] ["holds", "field"] (defScope sNeed) := ⟨rfl, rfl, rfl, by decide +kernel, rfl, by decide +kernel, by decide +kernel⟩
theorem ok_need (F : FnP K "need" sNeed f fd) : FnOk P w K mg base CX0 1 f fd ["holds", "field"] spNeed := by
  refine F.ok scNeed (fun vs H Q E h => ?_) (fun cdv A outer s H vs Q E hr h => ?_)
  · obtain ⟨v, rfl, _⟩ := h
    rfl
  · obtain ⟨v, rfl, k⟩ := h
    refine ⟨_, PSs.nox (pss_one (ps_if (pt_not (pt_val (pv 0))) pss_never pss_nil)), ?_⟩
    exact ⟨_, rfl, _, rfl, iteF k⟩
theorem scNodeInit : FnScope ["self", "arguments", "late", "begin"] ["self", "arguments", "late", "begin"] (defScope sNodeInit) := ⟨rfl, rfl, rfl, by decide +kernel, rfl, by decide +kernel, by decide +kernel⟩
theorem ok_nodeInit (F : FnM K "__init__" "Node.__init__" sNodeInit f fd) (GN : FnOk P w K mg base CX0 1 f1 fd1 ["holds", "field"] spNeed) (gN : mg "need" = some (.ref f1)) (kN : PySem.W.keepIn K (.ref f1) = true) (bN : Binds K fd1 ["holds", "field"] [])
    (GW : FnOk P w K mg base CX0 2 f2 fd2 ["thing", "least", "most"] (spWithin K)) (gW : mg "is_whole_within" = some (.ref f2)) (kW : PySem.W.keepIn K (.ref f2) = true) (bW : Binds K fd2 ["thing", "least", "most"] [])
    (gML : ∃ t, mg "MOST_LATE" = some (.int 99 t)) (gMB : ∃ t, mg "MOST_BEGIN" = some (.int 9999 t)) (T : NodeC K C) : FnOk P w K mg base CX0 3 f fd ["self", "arguments", "late", "begin"] (spNodeInit K C) := by
  obtain ⟨tL, gL⟩ := gML
  obtain ⟨tB, gB⟩ := gMB
  refine F.ok scNodeInit (fun vs H Q E h => ?_) (fun cdv A outer s H vs Q E hr h => ?_)
  · obtain ⟨p, t, dx, fs, xs, l, b, rfl, _⟩ := h
    rfl
  · obtain ⟨p, t, dx, fs, xs, l, b, rfl, hp, ht, hl, hb, hfs, hxs, k⟩ := h
    have hr1 : Room 1 _ := hr.mono (by decide)
    refine ⟨_, PSs.nox (pss_cons (ps_expr (pe_call GN hr1 rfl gN kN bN .nil pass0 (pa_cons (pe_call GW hr rfl gW kW bW .nil pass0 (pa_cons (pv 2) (pa_cons pe_int (pa_cons (pe_glob (v := .int 99) rfl gL ⟨_, rfl⟩) pa_nil)))) (pa_cons pe_str pa_nil))))
      (pss_cons (ps_expr (pe_call GN hr1 rfl gN kN bN .nil pass0 (pa_cons (pe_call GW hr rfl gW kW bW .nil pass0 (pa_cons (pv 3) (pa_cons pe_int (pa_cons (pe_glob (v := .int 9999) rfl gB ⟨_, rfl⟩) pa_nil)))) (pa_cons pe_str pa_nil))))
      (pss_cons (ps_fld (pv 0) (pe_tup (StX.pa_star (pv 1) (pa_cons (pv 2) (pa_cons (pv 3) pa_nil)))) rfl)
      (pss_cons (ps_fld (pv 0) (pv 2) rfl) (pss_one (ps_fld (pv 0) (pv 3) rfl)))))), ?_⟩
    refine ⟨_, rfl, _, 0, 99, rfl, .inl ⟨l, rfl, ?_⟩⟩
    rw [show decide ((0 : Int) ≤ l ∧ l ≤ 99) = true from decide_eq_true hl]
    refine ⟨_, rfl, ?_⟩
    refine ⟨_, rfl, _, 0, 9999, rfl, .inl ⟨b, rfl, ?_⟩⟩
    rw [show decide ((0 : Int) ≤ b ∧ b ≤ 9999) = true from decide_eq_true hb]
    refine ⟨_, rfl, ?_⟩
    refine ⟨_, rfl, t, xs, rfl, .inl ht, _, rfl, _, rfl, ?_, fun tm htm => ?_⟩
    · rw [List.length_append]
      exact Nat.le_trans (Nat.add_le_add_right hxs _) (by show 1000 + 2 ≤ sizeLine; decide)
    have npt : p ≠ tm := ne_of_none hp htm
    have l1 := putF_le "made" (.ref tm) fs
    have l2 := putF_le "late_by" (.int l) (putF "made" (.ref tm) fs)
    refine ⟨_, rfl, p, C, dx, _, rfl, (by rw [upd_ne npt]; exact hp), T.cl, T.nM, by omega, ?_⟩
    refine ⟨_, rfl, _, rfl, p, C, dx, _, rfl, upd_same, T.cl, T.nL, by omega, ?_⟩
    refine ⟨_, rfl, _, rfl, p, C, dx, _, rfl, upd_same, T.cl, T.nB, by omega, ?_⟩
    rw [upd_upd, upd_upd]
    exact k tm htm
end
/-! ### run_firing, for an instance of the class at C whose gives() is 1 and whose work keeps spW -/
def spGives1 (C : Addr) : Sp := fun vs H Q _ => ∃ (p dx : Addr) (fs : List (Str × V)), vs = [.ref p] ∧ H p = some (.ins C dx fs) ∧ Q (.int 1) H
/-- what a firing tells: a tuple of (mutes, behind) and the list of what is given, all of it new but what is behind -/
def Told (H : Hp) (Q : VK) (m : Int) (bh gv : V) : Hp → Prop := fun H1 => ∀ (q t : Addr) (H2 : Hp), Same H1 H2 → H q = none → H2 q = some (.tup [.ref t, gv]) → H2 t = some (.tup [.int m, bh]) → Q (.ref q) H2
def spFiring (K : PySem.W.Frag) (C : Addr) (spW : Sp) : Sp := fun vs H Q _ => ∃ (p tm : Addr) (fs : List (Str × V)) (m : Int) (kept rows : V), vs = [.ref p, .ref tm, rows] ∧ InsAt H p C fs ∧ fs.lookup ("gives" : Str) = none ∧ fs.lookup ("work" : Str) = none ∧ SqT K H tm [.int m, kept] ∧
  ((0 < m ∧ ∀ (l : Addr) (H1 : Hp), Same H H1 → H l = none → H1 l = some (.lst [.int 0]) → Told H Q (m - 1) kept (.ref l) H1) ∨
   (¬ 0 < m ∧ spW [.ref p, kept, rows] H (fun v H1 => ∃ (z : Addr) (bh gv : V), v = .ref z ∧ Same H H1 ∧ SqT K H1 z [bh, gv] ∧ Told H Q m bh gv H1) E0))
/-- what is promised of more is promised of less -/
def Wide1 (sp : Sp) : Prop := ∀ (vs : List V) (H : Hp) (Q Q' : VK) (E : XK), (∀ v H', Q v H' → Q' v H') → sp vs H Q E → sp vs H Q' E
section
variable {P : Program} {w : World} {K : PySem.W.Frag} {mg : Str → Option Value} {base : Heap} {f f1 f2 f3 f4 f5 f6 C CW CN : Addr} {fd fd1 fd2 fd3 fd4 fd5 fd6 : FuncData}
theorem scFiring : FnScope ["node", "memory", "rows", "mutes", "kept", "behind", "given"] ["node", "memory", "rows"] (defScope sFiring) := ⟨rfl, rfl, rfl, by decide +kernel, rfl, by decide +kernel, by decide +kernel⟩
theorem ok_firing {spW : Sp} {k : Nat} (F : FnP K "run_firing" sFiring f fd) (c : Cls K C) (GG : FnOk P w K mg base CX0 1 f1 fd1 ["self"] (spGives1 C)) (mG : Meth K C "gives" f1) (bG : Binds K fd1 ["self"] [])
    (GW : FnOk P w K mg base CX0 (k + 1) f2 fd2 ["self", "kept", "rows"] spW) (mW : Meth K C "work" f2) (bW : Binds K fd2 ["self", "kept", "rows"] []) (wd : Wide1 spW) : FnOk P w K mg base CX0 (k + 2) f fd ["node", "memory", "rows"] (spFiring K C spW) := by
  refine F.ok scFiring (fun vs H Q E h => ?_) (fun cdv A outer s H vs Q E hr h => ?_)
  · obtain ⟨p, tm, fs, m, kept, rows, rfl, _⟩ := h
    rfl
  · obtain ⟨p, tm, fs, m, kept, rows, rfl, hp, nG, nW, hm, h⟩ := h
    have hr1 : Room 1 _ := hr.mono (by omega)
    refine ⟨_, PSs.nox (pss_cons (ps_asg (pv 1) (pg_tup rfl (pgs_cons (pg_name (i := 3) scFiring.nd rfl (Or.inl rfl)) (pgs_cons (pg_name (i := 4) scFiring.nd rfl (Or.inl rfl)) pgs_nil))))
      (pss_cons (ps_if (pt_cmpR op_gt (pv 3) pe_int (nomark _))
        (pss_one (ps_ret (pe_tup (pa_cons (pe_tup (pa_cons (pe_op op_sub (pv 3) pe_int) (pa_cons (pv 4) pa_nil))) (pa_cons (pe_op op_rep (pe_lst (pa_cons pe_int pa_nil)) (pe_meth0 (pv 0) c mG GG hr1 bG .nil pass0)) pa_nil))))) pss_nil)
      (pss_cons (ps_asg (pe_meth (pv 0) c mW GW hr bW .nil pass0 (pa_cons (pv 4) (pa_cons (pv 2) pa_nil))) (pg_tup rfl (pgs_cons (pg_name (i := 5) scFiring.nd rfl (Or.inl rfl)) (pgs_cons (pg_name (i := 6) scFiring.nd rfl (Or.inl rfl)) pgs_nil))))
      (pss_one (ps_ret (pe_tup (pa_cons (pe_tup (pa_cons (pv 3) (pa_cons (pv 5) pa_nil))) (pa_cons (pv 6) pa_nil)))))))), ?_⟩
    refine ⟨_, rfl, tm, _, rfl, hm, rfl, _, _, rfl, _, _, rfl, rfl, ?_⟩
    refine ⟨_, rfl, _, _, rfl, rfl, _, rfl, ?_⟩
    rcases h with ⟨m0, h⟩ | ⟨m0, h⟩
    · refine ite2 (fun _ => ?_) (fun z => absurd (decide_eq_true m0) z)
      refine ⟨_, rfl, _, _, rfl, rfl, _, rfl, (by show 2 ≤ sizeLine; decide), fun t ht => ?_⟩
      refine ⟨(by show 1 ≤ sizeLine; decide), fun l0 hl0 => ?_⟩
      have s2 := Same.new (o := .lst [V.int 0]) (Same.new (o := .tup [V.int (m - 1), kept]) (Same.refl H) ht) hl0
      obtain ⟨dx, hp2⟩ := hp.keep s2
      refine ⟨_, rfl, p, dx, fs, rfl, hp2, nG, p, dx, fs, rfl, hp2, ?_⟩
      refine ⟨l0, 1, _, rfl, rfl, upd_same, by decide, by decide, by show 1 * 1 ≤ sizeLine; decide, fun l hl => ?_⟩
      refine ⟨(by show 2 ≤ sizeLine; decide), fun q hq => ?_⟩
      have s3 := Same.new (o := .lst [V.int 0]) s2 hl
      have ht1 : (upd H t (.tup [V.int (m - 1), kept])) t = some (.tup [V.int (m - 1), kept]) := upd_same
      have ht2 := Same.new (o := .lst [V.int 0]) (Same.new (o := .lst [V.int 0]) (Same.refl _) hl0) hl _ _ ht1
      refine h l _ s3 (s2.free hl) upd_same q t _ (Same.new (Same.refl _) hq) (s3.free hq) upd_same ?_
      exact Same.new (Same.refl _) hq _ _ ht2
    · refine ite2 (fun z => absurd (of_decide_eq_true z) m0) (fun _ => ?_)
      obtain ⟨dx, hp2⟩ := hp
      refine ⟨_, rfl, p, dx, fs, rfl, hp2, nW, _, rfl, _, rfl, ?_⟩
      refine wd _ _ _ _ _ (fun v H1 hv => ?_) h
      obtain ⟨z, bh, gv, rfl, s1, hz, told⟩ := hv
      refine ⟨z, _, rfl, hz, rfl, _, _, rfl, _, _, rfl, rfl, ?_⟩
      refine ⟨_, rfl, _, rfl, (by show 2 ≤ sizeLine; decide), fun t ht => ?_⟩
      refine ⟨_, rfl, (by show 2 ≤ sizeLine; decide), fun q hq => ?_⟩
      have s2 := Same.new (o := .tup [V.int m, bh]) (Same.refl H1) ht
      refine told q t _ (Same.new s2 hq) ((s1.trans s2).free hq) upd_same ?_
      exact Same.new (Same.refl _) hq _ _ upd_same
end
/-! ### Gain -/
def Num (n : Int) : Prop := -(10 ^ 56) < n ∧ n < 10 ^ 56
theorem Num.lt {n : Int} (h : Num n) : n.natAbs < 2 ^ 200 := by
  unfold Num at h
  omega
theorem Num.mul {x y : Int} (h : Num x) (h' : Num y) : CMulW x y := wide_mul h.lt h'.lt (by decide) (by decide) (by decide)
/-- the fields of a gain -/
structure GainFs (fs : List (Str × V)) (by_ b : Int) : Prop where
  by_ : fs.lookup ("by" : Str) = some (.int by_)
  be : fs.lookup ("begin_at" : Str) = some (.int b)
  no : ∀ m : Str, m ≠ "by" → m ≠ "begin_at" → m ≠ "late_by" → m ≠ "made" → fs.lookup m = none
theorem nodeF_be (tm : Addr) (l b : Int) (fs : List (Str × V)) : (nodeF tm l b fs).lookup ("begin_at" : Str) = some (.int b) := by
  unfold nodeF
  rw [lookup_putF, if_pos rfl]
theorem nodeF_no {tm : Addr} {l b : Int} {fs : List (Str × V)} {m : Str} (h1 : m ≠ "begin_at") (h2 : m ≠ "late_by") (h3 : m ≠ "made") : (nodeF tm l b fs).lookup m = fs.lookup m := by
  unfold nodeF
  rw [lookup_putF, if_neg h1, lookup_putF, if_neg h2, lookup_putF, if_neg h3]
theorem gainFs_mk (tm : Addr) (l b by_ : Int) : GainFs (putF "by" (.int by_) (nodeF tm l b [])) by_ b := by
  refine ⟨?_, ?_, fun m h1 h2 h3 h4 => ?_⟩
  · rw [lookup_putF, if_pos rfl]
  · rw [lookup_putF, if_neg (by decide +kernel), nodeF_be]
  · rw [lookup_putF, if_neg h1, nodeF_no h2 h3 h4]
    rfl
/-- a gain's memory: m mute firings to come, where the factor stands, the factors that come next -/
def MemAt (K : PySem.W.Frag) (H : Hp) (v : V) (m st : Int) (cs : List Int) : Prop := ∃ q t c : Addr, v = .ref q ∧ SqT K H q [.int m, .ref t] ∧ SqT K H t [.int st, .ref c] ∧ SqT K H c (cs.map V.int)
theorem MemAt.keep {K : PySem.W.Frag} {H H1 : Hp} {v : V} {m st : Int} {cs : List Int} (h : MemAt K H v m st cs) (s : Same H H1) : MemAt K H1 v m st cs := by
  obtain ⟨q, t, c, e, h1, h2, h3⟩ := h
  exact ⟨q, t, c, e, Same.tup s h1, Same.tup s h2, Same.tup s h3⟩
theorem MemAt.kept {K : PySem.W.Frag} {H H1 : Hp} {p : Addr} {v : V} {m st : Int} {cs : List Int} (h : MemAt K H v m st cs) (k : Kept p H H1) (hp : PotAt H p) : MemAt K H1 v m st cs := by
  obtain ⟨q, t, c, e, h1, h2, h3⟩ := h
  exact ⟨q, t, c, e, k.tup hp h1, k.tup hp h2, k.tup hp h3⟩
def spGainInit (K : PySem.W.Frag) (C : Addr) : Sp := fun vs H Q _ => ∃ (p dx : Addr) (by_ l b : Int), vs = [.ref p, .int by_, .int l, .int b] ∧ H p = some (.ins C dx []) ∧ (0 ≤ l ∧ l ≤ 99) ∧ (0 ≤ b ∧ b ≤ 9999) ∧
  ∀ (fs : List (Str × V)) (H' : Hp), GainFs fs by_ b → Kept p H H' → H' p = some (.ins C dx fs) → Q .non H'
def spGainFresh (K : PySem.W.Frag) (C : Addr) : Sp := fun vs H Q _ => ∃ (p : Addr) (fs : List (Str × V)) (by_ b : Int), vs = [.ref p] ∧ InsAt H p C fs ∧ GainFs fs by_ b ∧ ∀ (v : V) (H' : Hp), Same H H' → MemAt K H' v b by_ [] → Q v H'
/-- where the factor stands behind a firing -/
def stHd (st : Int) (cs : List Int) : Int := cs.headD st
def spGainWork (K : PySem.W.Frag) : Sp := fun vs H Q _ => ∃ (p : V) (kt ct rt r0 : Addr) (st x : Int) (cs : List Int), vs = [p, .ref kt, .ref rt] ∧ SqT K H kt [.int st, .ref ct] ∧ SqT K H ct (cs.map V.int) ∧ SqL K H rt [.ref r0] ∧ SqL K H r0 [.int x] ∧
  Num x ∧ Num (stHd st cs) ∧ cs.length ≤ 1000 ∧ ∀ (z t c l : Addr) (H' : Hp), Same H H' → SqT K H' z [.ref t, .ref l] → SqT K H' t [.int (stHd st cs), .ref c] → SqT K H' c (cs.tail.map V.int) → H l = none → H' l = some (.lst [.int (x * stHd st cs)]) → Q (.ref z) H'
theorem wide_gainWork {K : PySem.W.Frag} : Wide1 (spGainWork K) := by
  rintro vs H Q Q' E hq ⟨p, kt, ct, rt, r0, st, x, cs, e, h1, h2, h3, h4, h5, h6, h7, k⟩
  exact ⟨p, kt, ct, rt, r0, st, x, cs, e, h1, h2, h3, h4, h5, h6, h7, fun z t c l H' a1 a2 a3 a4 a5 a6 => hq _ _ (k z t c l H' a1 a2 a3 a4 a5 a6)⟩
section
variable {P : Program} {w : World} {K : PySem.W.Frag} {mg : Str → Option Value} {base : Heap} {f f1 f2 f3 f4 f5 f6 C CW CN : Addr} {fd fd1 fd2 fd3 fd4 fd5 fd6 : FuncData}
theorem scGives : FnScope ["self"] ["self"] (defScope sGainGives) := ⟨rfl, rfl, rfl, by decide +kernel, rfl, by decide +kernel, by decide +kernel⟩
theorem ok_gives (F : FnM K "gives" "Gain.gives" sGainGives f fd) : FnOk P w K mg base CX0 1 f fd ["self"] (spGives1 C) := by
  refine F.ok scGives (fun vs H Q E h => ?_) (fun cdv A outer s H vs Q E hr h => ?_)
  · obtain ⟨p, dx, fs, rfl, _⟩ := h
    rfl
  · obtain ⟨p, dx, fs, rfl, hp, k⟩ := h
    exact ⟨_, PSs.nox (pss_one (ps_ret pe_int)), k⟩
theorem scGainInit : FnScope ["self", "by", "late", "begin"] ["self", "by", "late", "begin"] (defScope sGainInit) := ⟨rfl, rfl, rfl, by decide +kernel, rfl, by decide +kernel, by decide +kernel⟩
theorem ok_gainInit {kws : List (Str × V)} (F : FunD K "__init__" "Gain.__init__" (defArgs sGainInit) (defBody sGainInit) (defScope sGainInit) [] kws f fd) (GN : FnOk P w K mg base CX0 1 f1 fd1 ["holds", "field"] spNeed) (gN : mg "need" = some (.ref f1)) (kN : PySem.W.keepIn K (.ref f1) = true) (bN : Binds K fd1 ["holds", "field"] [])
    (GI : FnOk P w K mg base CX0 1 f2 fd2 ["thing"] (spWhole K)) (gI : mg "is_whole" = some (.ref f2)) (kI : PySem.W.keepIn K (.ref f2) = true) (bI : Binds K fd2 ["thing"] [])
    (GB : FnOk P w K mg base CX0 3 f3 fd3 ["self", "arguments", "late", "begin"] (spNodeInit K C)) (gB : mg "Node" = some (.ref CN)) (mB : BaseM K CN "__init__" f3) (bB : Binds K fd3 ["self", "arguments", "late", "begin"] [])
    (T : NodeC K C) (nBy : NoAttr K C "by") : FnOk P w K mg base CX0 4 f fd ["self", "by", "late", "begin"] (spGainInit K C) := by
  refine F.ok scGainInit (fun vs H Q E h => ?_) (fun cdv A outer s H vs Q E hr h => ?_)
  · obtain ⟨p, dx, by_, l, b, rfl, _⟩ := h
    rfl
  · obtain ⟨p, dx, by_, l, b, rfl, hp, hl, hb, k⟩ := h
    have hr1 : Room 1 _ := hr.mono (by decide)
    refine ⟨_, PSs.nox (pss_cons (ps_expr (pe_call GN hr1 rfl gN kN bN .nil pass0 (pa_cons (pe_call GI hr1 rfl gI kI bI .nil pass0 (pa_cons (pv 1) pa_nil)) (pa_cons pe_str pa_nil))))
      (pss_cons (ps_expr (pe_base (pe_glob (v := .ref CN) rfl gB rfl) mB GB hr bB .nil pass0 (pa_cons (pv 0) (pa_cons (pe_tup (pa_cons (pv 1) pa_nil)) (pa_cons (pv 2) (pa_cons (pv 3) pa_nil))))))
      (pss_one (ps_fld (pv 0) (pv 1) rfl)))), ?_⟩
    refine ⟨_, rfl, _, rfl, .inl ⟨by_, rfl, _, rfl, ?_⟩⟩
    refine ⟨rfl, _, rfl, _, rfl, (by show 1 ≤ sizeLine; decide), fun t ht => ?_⟩
    have hp1 := Same.new (o := .tup [V.int by_]) (Same.refl _) ht _ _ hp
    refine ⟨_, rfl, _, rfl, p, t, dx, [], [.int by_], l, b, rfl, hp1, .inl (.inl upd_same), hl, hb, by decide, by show 1 ≤ 1000; decide, fun tm htm => ?_⟩
    refine ⟨_, rfl, _, rfl, p, C, dx, _, rfl, upd_same, T.cl, nBy, ?_, ?_⟩
    · unfold nodeF
      have l1 := putF_le "made" (.ref tm) []
      have l2 := putF_le "late_by" (.int l) (putF "made" (.ref tm) [])
      have l3 := putF_le "begin_at" (.int b) (putF "late_by" (.int l) (putF "made" (.ref tm) []))
      have l0 : ([] : List (Str × V)).length = 0 := rfl
      omega
    · rw [upd_upd]
      exact k _ _ (gainFs_mk tm l b by_) (Kept.upd (Kept.new (Kept.new Kept.refl ht) htm)) upd_same
theorem scGainFresh : FnScope ["self"] ["self"] (defScope sGainFresh) := ⟨rfl, rfl, rfl, by decide +kernel, rfl, by decide +kernel, by decide +kernel⟩
theorem ok_gainFresh (F : FnM K "fresh" "Gain.fresh" sGainFresh f fd) (T : NodeC K C) (nBy : NoAttr K C "by") : FnOk P w K mg base CX0 1 f fd ["self"] (spGainFresh K C) := by
  refine F.ok scGainFresh (fun vs H Q E h => ?_) (fun cdv A outer s H vs Q E hr h => ?_)
  · obtain ⟨p, fs, by_, b, rfl, _⟩ := h
    rfl
  · obtain ⟨p, fs, by_, b, rfl, ⟨dx, hp⟩, hf, k⟩ := h
    refine ⟨_, PSs.nox (pss_one (ps_ret (pe_tup (pa_cons (pe_fld (pv 0) rfl) (pa_cons (pe_tup (pa_cons (pe_fld (pv 0) rfl) (pa_cons (pe_tup pa_nil) pa_nil))) pa_nil))))), ?_⟩
    refine ⟨_, rfl, p, C, dx, _, _, rfl, hp, T.cl, T.nB, hf.be, ?_⟩
    refine ⟨_, rfl, p, C, dx, _, _, rfl, hp, T.cl, nBy, hf.by_, (by show 0 ≤ sizeLine; decide), fun c hc => ?_⟩
    refine ⟨(by show 2 ≤ sizeLine; decide), fun t ht => ?_⟩
    refine ⟨(by show 2 ≤ sizeLine; decide), fun q hq => ?_⟩
    refine k _ _ (Same.new (Same.new (Same.new (Same.refl _) hc) ht) hq) ⟨q, t, c, rfl, .inl (.inl upd_same), .inl (.inl (Same.new (Same.refl _) hq _ _ upd_same)), .inl (.inl ?_)⟩
    exact Same.new (Same.new (Same.refl _) ht) hq _ _ upd_same
theorem scGainFire : FnScope ["self", "memory", "rows"] ["self", "memory", "rows"] (defScope sGainFire) := ⟨rfl, rfl, rfl, by decide +kernel, rfl, by decide +kernel, by decide +kernel⟩
theorem ok_gainFire {sp : Sp} {k : Nat} (F : FnM K "fire" "Gain.fire" sGainFire f fd) (GF : FnOk P w K mg base CX0 k f1 fd1 ["node", "memory", "rows"] (spFiring K C sp)) (gF : mg "run_firing" = some (.ref f1)) (kF : PySem.W.keepIn K (.ref f1) = true) (bF : Binds K fd1 ["node", "memory", "rows"] []) :
    FnOk P w K mg base CX0 (k + 1) f fd ["self", "memory", "rows"] (spFiring K C sp) := by
  refine F.ok scGainFire (fun vs H Q E h => ?_) (fun cdv A outer s H vs Q E hr h => ?_)
  · obtain ⟨p, tm, fs, m, kept, rows, rfl, _⟩ := h
    rfl
  · obtain ⟨p, tm, fs, m, kept, rows, rfl, h⟩ := h
    refine ⟨_, PSs.nox (pss_one (ps_ret (pe_call GF hr rfl gF kF bF .nil pass0 (pa_cons (pv 0) (pa_cons (pv 1) (pa_cons (pv 2) pa_nil)))))), ?_⟩
    exact ⟨_, rfl, _, rfl, _, rfl, p, tm, fs, m, kept, rows, rfl, h⟩
theorem scGainWork : FnScope ["self", "kept", "rows", "stands", "coming"] ["self", "kept", "rows"] (defScope sGainWork) := ⟨rfl, rfl, rfl, by decide +kernel, rfl, by decide +kernel, by decide +kernel⟩
theorem ok_gainWork (F : FnM K "work" "Gain.work" sGainWork f fd) : FnOk P w K mg base CX0 1 f fd ["self", "kept", "rows"] (spGainWork K) := by
  refine F.ok scGainWork (fun vs H Q E h => ?_) (fun cdv A outer s H vs Q E hr h => ?_)
  · obtain ⟨p, kt, ct, rt, r0, st, x, cs, rfl, _⟩ := h
    rfl
  · obtain ⟨p, kt, ct, rt, r0, st, x, cs, rfl, h1, h2, h3, h4, nx, ns, lc, k⟩ := h
    refine ⟨_, PSs.nox (pss_cons (ps_asg (pv 1) (pg_tup rfl (pgs_cons (pg_name (i := 3) scGainWork.nd rfl (Or.inl rfl)) (pgs_cons (pg_name (i := 4) scGainWork.nd rfl (Or.inl rfl)) pgs_nil))))
      (pss_cons (ps_if (pt_truth (pv 4) (by intro _; rfl)) (pss_one (ps_set (i := 3) scGainWork.nd rfl (Or.inl rfl) (pe_ix ix_tup (pv 4) pe_int (fun _ _ => rfl)))) pss_nil)
      (pss_one (ps_ret (pe_tup (pa_cons (pe_tup (pa_cons (pv 3) (pa_cons (pe_slice sl_tupA (pv 4) (po_some pe_int) po_none) pa_nil)))
        (pa_cons (pe_lst (pa_cons (pe_op op_mulW (pe_ix ix_list (pe_ix ix_list (pv 2) pe_int (fun _ _ => rfl)) pe_int (fun _ _ => rfl)) (pv 3)) pa_nil)) pa_nil))))))), ?_⟩
    refine ⟨_, rfl, kt, _, rfl, h1, rfl, _, _, rfl, _, _, rfl, rfl, ?_⟩
    -- the rest, wherever the factor stands
    have rest : ∀ (H1 : Hp) (c : Addr), Same H H1 → SqT K H1 c (cs.tail.map V.int) → ∀ t, H1 t = none → ∀ l, (upd H1 t (.tup [.int (stHd st cs), .ref c])) l = none → ∀ z, (upd (upd H1 t (.tup [.int (stHd st cs), .ref c])) l (.lst [.int (x * stHd st cs)])) z = none →
        Q (.ref z) (upd (upd (upd H1 t (.tup [.int (stHd st cs), .ref c])) l (.lst [.int (x * stHd st cs)])) z (.tup [.ref t, .ref l])) := by
      intro H1 c s1 hc t ht l hl z hz
      have s2 := Same.new (o := .tup [.int (stHd st cs), .ref c]) s1 ht
      have s3 := Same.new (o := .lst [.int (x * stHd st cs)]) s2 hl
      refine k z t c l _ (Same.new s3 hz) (.inl (.inl upd_same)) (.inl (.inl ?_)) ?_ (s2.free hl) ?_
      · exact Same.new (Same.new (Same.refl _) hl) hz _ _ upd_same
      · exact Same.tup (Same.new (Same.new (Same.new (Same.refl _) ht) hl) hz) hc
      · exact Same.new (Same.refl _) hz _ _ upd_same
    cases cs with
    | nil =>
      refine ⟨_, rfl, false, .inr (.inl ⟨_, h2, rfl⟩), iteF ?_⟩
      refine ⟨_, rfl, _, rfl, _, rfl, ct, _, rfl, h2, fun _ => ?_, fun z => ?_⟩
      · refine ⟨(by show 2 ≤ sizeLine; decide), fun t ht => ?_⟩
        refine ⟨_, rfl, rt, _, _, _, rfl, rfl, Same.seq (Same.new (Same.refl _) ht) h3, atI_nat (j := 0) rfl, r0, _, _, _, rfl, rfl, Same.seq (Same.new (Same.refl _) ht) h4, atI_nat (j := 0) rfl, _, rfl, _, _, rfl, rfl, nx.mul ns, (by show 1 ≤ sizeLine; decide), fun l hl => ?_⟩
        exact ⟨(by show 2 ≤ sizeLine; decide), fun z hz => rest H ct (Same.refl _) h2 t ht l hl z hz⟩
      · exact absurd ⟨rfl, rfl⟩ z
    | cons c0 cr =>
      refine ⟨_, rfl, true, .inr (.inl ⟨_, h2, rfl⟩), iteT ?_⟩
      refine ⟨_, rfl, ct, _, _, _, rfl, rfl, h2, atI_nat (j := 0) rfl, ?_⟩
      have e1 : HT.sIx ((c0 :: cr).map V.int).length 0 (some 1) = 1 := by
        show HT.sIx ((c0 :: cr).map V.int).length 0 (some ((1 : Nat) : Int)) = 1
        rw [HT.sIx_nat, List.length_map, List.length_cons]
        omega
      refine ⟨_, rfl, _, rfl, _, rfl, ct, _, rfl, h2, fun z => ?_, fun _ c hc => ?_⟩
      · have z1 := z.1
        rw [e1] at z1
        cases z1
      · have ec : cutV ((c0 :: cr).map V.int) (some 1) none = cr.map V.int := by
          unfold cutV
          rw [e1, HT.sIx_none]
          show (cr.map V.int).take ((cr.map V.int).length + 1 - 1) = _
          rw [Nat.add_sub_cancel, List.take_length]
        rw [ec]
        have s1 := Same.new (o := .tup (cr.map V.int)) (Same.refl H) hc
        refine ⟨(by show 2 ≤ sizeLine; decide), fun t ht => ?_⟩
        have s2 := Same.new (o := .tup [V.int c0, V.ref c]) s1 ht
        refine ⟨_, rfl, rt, _, _, _, rfl, rfl, s2.seq h3, atI_nat (j := 0) rfl, r0, _, _, _, rfl, rfl, s2.seq h4, atI_nat (j := 0) rfl, _, rfl, _, _, rfl, rfl, nx.mul ns, (by show 1 ≤ sizeLine; decide), fun l hl => ?_⟩
        exact ⟨(by show 2 ≤ sizeLine; decide), fun z hz => rest _ c s1 (.inl (.inl upd_same)) t ht l hl z hz⟩
end
end Sw
namespace Sw
open PySem PySem.Spec PyProof.Rows L2
/-! ### lists side by side; what stands outside a few addresses -/
def Al {α β : Type} (R : α → β → Prop) : List α → List β → Prop
  | [], [] => True
  | a :: as, b :: bs => R a b ∧ Al R as bs
  | _, _ => False
theorem Al.len {α β : Type} {R : α → β → Prop} : ∀ {as : List α} {bs : List β}, Al R as bs → as.length = bs.length
  | [], [], _ => rfl
  | a :: as, b :: bs, h => by rw [List.length_cons, List.length_cons, Al.len h.2]
  | [], b :: bs, h => h.elim
  | a :: as, [], h => h.elim
theorem Al.get {α β : Type} {R : α → β → Prop} : ∀ {as : List α} {bs : List β} {i : Nat} {a : α}, Al R as bs → as[i]? = some a → ∃ b, bs[i]? = some b ∧ R a b
  | [], [], i, a, _, h => by simp at h
  | c :: as, b :: bs, 0, a, h, e => by
    have : c = a := by simpa using e
    exact ⟨b, rfl, this ▸ h.1⟩
  | c :: as, b :: bs, i + 1, a, h, e => by
    obtain ⟨b', e', r⟩ := Al.get h.2 (show as[i]? = some a by simpa using e)
    exact ⟨b', by simpa using e', r⟩
  | [], b :: bs, i, a, h, _ => h.elim
  | c :: as, [], i, a, h, _ => h.elim
theorem Al.snoc {α β : Type} {R : α → β → Prop} {a : α} {b : β} (r : R a b) : ∀ {as : List α} {bs : List β}, Al R as bs → Al R (as ++ [a]) (bs ++ [b])
  | [], [], _ => ⟨r, trivial⟩
  | c :: as, d :: bs, h => ⟨h.1, Al.snoc r h.2⟩
  | [], d :: bs, h => h.elim
  | c :: as, [], h => h.elim
theorem Al.imp {α β : Type} {R R' : α → β → Prop} (f : ∀ a b, R a b → R' a b) : ∀ {as : List α} {bs : List β}, Al R as bs → Al R' as bs
  | [], [], _ => trivial
  | c :: as, d :: bs, h => ⟨f _ _ h.1, Al.imp f h.2⟩
  | [], d :: bs, h => h.elim
  | c :: as, [], h => h.elim
def KD (D : List Addr) (H H' : Hp) : Prop := ∀ b o, b ∉ D → H b = some o → H' b = some o
theorem KD.trans {D : List Addr} {H H1 H2 : Hp} (a : KD D H H1) (b : KD D H1 H2) : KD D H H2 := fun c o n e => b c o n (a c o n e)
theorem KD.same {D : List Addr} {H H1 : Hp} (a : Same H H1) : KD D H H1 := fun c o _ e => a c o e
theorem KD.kept {D : List Addr} {p : Addr} {H H1 : Hp} (a : Kept p H H1) (h : p ∈ D) : KD D H H1 := fun c o n e => a c o (fun z => n (z ▸ h)) e
theorem KD.upd {D : List Addr} {p : Addr} {H : Hp} {o : HO} (h : p ∈ D) : KD D H (L2.upd H p o) := fun c u n e => by
  have ne : c ≠ p := fun z => n (by rw [z]; exact h)
  rw [upd_ne ne]
  exact e
def Lsts (D : List Addr) (H : Hp) : Prop := ∀ d ∈ D, ∃ xs, H d = some (.lst xs)
theorem KD.tup {K : PySem.W.Frag} {D : List Addr} {H H1 : Hp} {a : Addr} {xs : List V} (k : KD D H H1) (l : Lsts D H) (h : SqT K H a xs) : SqT K H1 a xs := by
  have out : ∀ o, H a = some o → (∀ ys, o ≠ .lst ys) → a ∉ D := fun o e n m => by
    obtain ⟨ys, q⟩ := l a m
    rw [e] at q
    exact n ys (Option.some.inj q)
  rcases h with (h | ⟨o, h⟩) | h
  · exact .inl (.inl (k _ _ (out _ h (fun ys z => by cases z)) h))
  · exact .inl (.inr ⟨o, k _ _ (out _ h (fun ys z => by cases z)) h⟩)
  · exact .inr h
theorem KD.ins {D : List Addr} {H H1 : Hp} {a C : Addr} {fs : List (Str × V)} (k : KD D H H1) (l : Lsts D H) (h : InsAt H a C fs) : InsAt H1 a C fs := by
  obtain ⟨dx, h⟩ := h
  refine ⟨dx, k _ _ (fun m => ?_) h⟩
  obtain ⟨ys, q⟩ := l a m
  rw [h] at q
  cases q
/-- a row of a firing: a list of lists of one sample -/
def RowAt (D : List Addr) (H : Hp) (e : Addr) (xs : List Int) : Prop := e ∉ D ∧ ∃ rs : List Addr, H e = some (.lst (rs.map V.ref)) ∧ Al (fun r x => r ∉ D ∧ H r = some (.lst [.int x])) rs xs
theorem RowAt.keep {D : List Addr} {H H1 : Hp} {e : Addr} {xs : List Int} (h : RowAt D H e xs) (k : KD D H H1) : RowAt D H1 e xs := by
  obtain ⟨h1, rs, h2, h3⟩ := h
  exact ⟨h1, rs, k _ _ h1 h2, h3.imp fun r x ⟨a, b⟩ => ⟨a, k _ _ a b⟩⟩
theorem Same.past {H0 H : Hp} {q : Addr} {o : HO} (k : Same H0 H) (h : H0 q = none) : Same H0 (L2.upd H q o) := fun b u e => by
  rw [upd_ne (ne_of_none e h)]
  exact k b u e
theorem row_head {D : List Addr} {H : Hp} {e : Addr} {xs : List Int} (h : RowAt D H e xs) (h1 : 1 ≤ xs.length) : ∃ (rs : List Addr) (r : Addr), H e = some (.lst (rs.map V.ref)) ∧ (rs.map V.ref)[0]? = some (.ref r) ∧ H r = some (.lst [.int (xs.headD 0)]) := by
  obtain ⟨_, rs, h2, al⟩ := h
  match rs, xs, al, h1 with
  | r :: rs, x :: xs, al, _ => exact ⟨_, r, h2, rfl, al.1.2⟩
  | [], x :: xs, al, _ => exact al.elim
  | _, [], _, h1 => exact absurd h1 (by decide)
theorem row_next {D : List Addr} {H : Hp} {e : Addr} {xs : List Int} (h : RowAt D H e xs) (h1 : 2 ≤ xs.length) : ∃ (rs : List Addr) (r : Addr), H e = some (.lst (rs.map V.ref)) ∧ (rs.map V.ref)[1]? = some (.ref r) ∧ H r = some (.lst [.int (xs.getD 1 0)]) := by
  obtain ⟨_, rs, h2, al⟩ := h
  match rs, xs, al, h1 with
  | r :: r' :: rs, x :: y :: xs, al, _ => exact ⟨_, r', h2, rfl, al.2.1.2⟩
  | [], x :: y :: xs, al, _ => exact al.elim
  | [r], x :: y :: xs, al, _ => exact al.2.elim
  | _, [], _, h1 => exact absurd h1 (by decide)
  | _, [x], _, h1 => exact absurd h1 (show ¬ 2 ≤ 1 by decide)
theorem RowAt.same {H H1 : Hp} {e : Addr} {xs : List Int} {D : List Addr} (h : RowAt D H e xs) (s : Same H H1) : RowAt D H1 e xs := h.keep (KD.same s)
theorem ix_listK {X : Cx} {K : PySem.W.Frag} (h : X.K = K) : IxR X (rIxL K) := by
  subst h
  exact ix_list
theorem made_same {C x dx : Addr} {H H' : Hp} (nx : H x = none) (nd : H dx = none) (ne : dx ≠ x) (k : Kept x (upd (upd H dx (.own x)) x (.ins C dx [])) H') : Same H H' :=
  Same.kept (Same.new (Same.new (Same.refl H) nd) (by rw [upd_ne ne.symm]; exact nx)) nx k
/-! ### rows as data -/
def rowD (xs : List Int) : PyData := .list (xs.map fun x => .list [.int x])
theorem lay_rows : ∀ xs : List Int, PyData.canLayAll0 (xs.map fun x => PyData.list [.int x]) = true
  | [] => rfl
  | n :: ns => by
    rw [List.map_cons, PyData.canLayAll0, lay_rows ns]
    rfl
theorem depth_rows : ∀ xs : List Int, PyData.depthAll (xs.map fun x => PyData.list [.int x]) ≤ 1
  | [] => by rw [List.map_nil, PyData.depthAll]; exact Nat.zero_le _
  | n :: ns => by
    rw [List.map_cons, PyData.depthAll]
    have h := depth_rows ns
    have e : PyData.depth (PyData.list [.int n]) = 1 := by
      rw [PyData.depth]
      rfl
    rw [e]
    omega
theorem row_shaped (xs : List Int) : SeqAt.shaped (rowD xs) = true := by
  unfold SeqAt.shaped rowD
  rw [PyData.canLay0, lay_rows, PyData.depth]
  have h := depth_rows xs
  simp
  omega
theorem row_eqv (xs : List Int) : PyData.eqv (rowD xs) (rowD xs) = true := by
  refine SeqAt.eqv_refl _ ?_
  unfold rowD
  rw [PyData.canLay0]
  exact lay_rows xs
theorem dp_cells {K : PySem.W.Frag} {D : List Addr} {H : Hp} : ∀ {rs : List Addr} {xs : List Int}, Al (fun r x => r ∉ D ∧ H r = some (.lst [.int x])) rs xs → DpAll K H (rs.map V.ref) (xs.map fun x => .list [.int x])
  | [], [], _ => .nil
  | r :: rs, x :: xs, h => .cons (dp_at (ns := [x]) h.1.2) (dp_cells h.2)
  | [], x :: xs, h => h.elim
  | r :: rs, [], h => h.elim
theorem dp_row {K : PySem.W.Frag} {D : List Addr} {H : Hp} {e : Addr} {xs : List Int} (h : RowAt D H e xs) : Dp K H (.ref e) (rowD xs) := by
  obtain ⟨_, rs, h1, al⟩ := h
  exact .lst (SqL.of h1) (dp_cells al)
theorem call_list_ofK {X : Cx} {K : PySem.W.Frag} (h : X.K = K) : CallR X (.type "list") (fun xs H Q => ∃ p ys, xs = [.ref p] ∧ (SqL K H p ys ∨ SqT K H p ys) ∧ ∀ l, H l = none → Q (.ref l) (upd H l (.lst ys))) := by
  subst h
  exact call_list_of
theorem one_dp {K : PySem.W.Frag} {H : Hp} {l : Addr} {x : Int} (h : H l = some (.lst [.int x])) : Dp K H (.ref l) (.list [.int x]) := dp_at (ns := [x]) h
theorem oneD_show {x : Int} (h : x.natAbs.log2 < 1920) : (PyData.list [.int x]).showable = true := by
  simp [PyData.showable, PyData.showableAll, h]
theorem oneD_len {x : Int} (h : x.natAbs.log2 < 1920) : (PyData.list [.int x]).shown.length ≤ sizeLine := by
  refine Nat.le_trans (shown_list (B := 1921) fun d hd => ?_) (by show (1921 + 2) * 1 + 3 ≤ sizeLine; decide)
  rcases List.mem_cons.mp hd with rfl | hd
  · exact shown_num h
  · cases hd
theorem oneD_shaped (x : Int) : SeqAt.shaped (PyData.list [.int x]) = true := shaped_ints [x]
def onesD (m : Nat) : PyData := .tuple (List.replicate m (.int 1))
theorem ones_ok {m : Nat} (h : m = 2 ∨ m = 1) : SeqAt.shaped (onesD m) = true ∧ PyData.eqv (onesD m) (onesD m) = true := by
  rcases h with rfl | rfl
  · exact ⟨by decide +kernel, by decide +kernel⟩
  · exact ⟨by decide +kernel, by decide +kernel⟩
theorem dp_ones {K : PySem.W.Frag} {H : Hp} : ∀ m, DpAll K H (List.replicate m (V.int 1)) (List.replicate m (PyData.int 1))
  | 0 => .nil
  | m + 1 => .cons (.int 1) (dp_ones m)
theorem flat_ones : ∀ m : Nat, (List.replicate m [V.int 1]).flatten = List.replicate m (V.int 1)
  | 0 => rfl
  | m + 1 => by
    rw [List.replicate_succ, List.flatten_cons, flat_ones m]
    rfl
def rTimesS (K : PySem.W.Frag) : R2 := fun x y H Q => ∃ (l : Addr) (k : Nat) (xs : List V), x = .ref l ∧ y = .int (k : Int) ∧ SqT K H l xs ∧ xs ≠ [] ∧ k ≤ 1000 ∧ xs.length ≤ 1000 ∧ ∀ (q : Addr) (H' : Hp), Same H H' → SqT K H' q (List.replicate k xs).flatten → Q (.ref q) H'
theorem op_timesS {X : Cx} : OpR X (binaryOp .Mult) (rTimesS X.K) := by
  intro pins s σ H x y v u Q I rx ry ⟨l, k, xs, e1, e2, h1, h2, h3, h4, q⟩
  refine op_times pins s σ H x y v u Q I rx ry ⟨l, k, xs, e1, e2, h1, h2, h3, h4, fun e => q l H (Same.refl _) ?_, fun e p hp => q p _ (Same.new (Same.refl _) hp) (.inl (.inl upd_same))⟩
  rw [e]
  simpa using h1
/-! ### the plain sorts -/
inductive Wk
  | gain (by_ : Int)
  | mix (m : Nat)
  | times
  | clip (lo hi : Int)
  | share (by_ : Int)
  | choose
def manyW : Wk → Nat
  | .gain _ => 1
  | .mix m => m
  | .times => 2
  | .clip _ _ => 1
  | .share _ => 1
  | .choose => 3
def dueW : Wk → List Int → Int
  | .gain b, xs => xs.headD 0 * b
  | .mix _, xs => xs.sum
  | .times, xs => xs.getD 0 0 * xs.getD 1 0
  | .clip lo hi, xs => if (if xs.headD 0 < hi then xs.headD 0 else hi) > lo then (if xs.headD 0 < hi then xs.headD 0 else hi) else lo
  | .share b, xs => xs.headD 0 / b
  | .choose, xs => if 0 < xs.headD 0 then xs.getD 1 0 else xs.getD 2 0
def okW : Wk → Prop
  | .gain b => Num b
  | .mix m => 1 ≤ m ∧ m ≤ 8
  | .times => True
  | .clip lo hi => Num lo ∧ lo ≤ hi ∧ hi < 2 * 10 ^ 56
  | .share b => 0 < b ∧ b ≤ 10 ^ 56
  | .choose => True
theorem tup_updL {K : PySem.W.Frag} {H : Hp} {q l : Addr} {xs ys : List V} {o : HO} (hl : H l = some (.lst ys)) (h : SqT K H q xs) : SqT K (L2.upd H l o) q xs :=
  KD.tup (D := [l]) (KD.upd List.mem_cons_self) (fun d hd => by
    rcases List.mem_cons.mp hd with rfl | hd
    · exact ⟨ys, hl⟩
    · cases hd) h
theorem ins_kept {H H1 : Hp} {p a C : Addr} {fs : List (Str × V)} (k : Kept p H H1) (hp : PotAt H p) (h : InsAt H a C fs) : InsAt H1 a C fs :=
  KD.ins (D := [p]) (KD.kept k List.mem_cons_self) (fun d hd => by
    rcases List.mem_cons.mp hd with rfl | hd
    · obtain ⟨x, y, _, _, _, e⟩ := hp
      exact ⟨_, e⟩
    · cases hd) h
structure Mp (K : PySem.W.Frag) (C : Addr) where
  ι : Type
  nd : ι → Addr
  wk : ι → Wk
  node : ι → Hp → Prop
  mem : ι → Hp → V → Prop
  ins : ∀ i H, node i H → ∃ fs, InsAt H (nd i) C fs ∧ ∀ m : Str, m ∈ (["takes", "gives", "fresh", "fire", "work"] : List Str) → fs.lookup m = none
  nodeS : ∀ i H H1, Same H H1 → node i H → node i H1
  memS : ∀ i H H1 v, Same H H1 → mem i H v → mem i H1 v
  okw : ∀ i H, node i H → okW (wk i)
  nodeK : ∀ (i : ι) (H H1 : Hp) (p : Addr), Kept p H H1 → PotAt H p → node i H → node i H1
  memL : ∀ (i : ι) (H : Hp) (v : V) (l : Addr) (ys : List V) (o : HO), H l = some (.lst ys) → mem i H v → mem i (L2.upd H l o) v
section
variable {K : PySem.W.Frag} {C : Addr} (M : Mp K C)
def spPTakes : Sp := fun vs H Q _ => ∃ i : M.ι, vs = [.ref (M.nd i)] ∧ M.node i H ∧ ∀ t H', Same H H' → SqT K H' t (List.replicate (manyW (M.wk i)) (.int 1)) → Q (.ref t) H'
def spPGives : Sp := fun vs H Q _ => ∃ i : M.ι, vs = [.ref (M.nd i)] ∧ M.node i H ∧ Q (.int 1) H
def spPFresh : Sp := fun vs H Q _ => ∃ i : M.ι, vs = [.ref (M.nd i)] ∧ M.node i H ∧ ∀ v H', Same H H' → M.mem i H' v → Q v H'
def spPFire : Sp := fun vs H Q _ => ∃ (i : M.ι) (row : List Int) (v : V) (r : Addr), vs = [.ref (M.nd i), v, .ref r] ∧ M.node i H ∧ M.mem i H v ∧ RowAt [] H r row ∧ row.length = manyW (M.wk i) ∧ (∀ x ∈ row, Num x) ∧
  ∀ (t l : Addr) (v' : V) (H' : Hp), Same H H' → H l = none → H' t = some (.tup [v', .ref l]) → M.mem i H' v' → H' l = some (.lst [.int (dueW (M.wk i) row)]) → Q (.ref t) H'
/-- the work of a sort that keeps nothing -/
def spPWork : Sp := fun vs H Q _ => ∃ (i : M.ι) (row : List Int) (r : Addr), vs = [.ref (M.nd i), .non, .ref r] ∧ M.node i H ∧ RowAt [] H r row ∧ row.length = manyW (M.wk i) ∧ (∀ x ∈ row, Num x) ∧
  ∀ (t l : Addr) (H' : Hp), Same H H' → H l = none → SqT K H' t [.non, .ref l] → H' l = some (.lst [.int (dueW (M.wk i) row)]) → Q (.ref t) H'
theorem wide_pWork : Wide1 (spPWork M) := by
  rintro vs H Q Q' E hq ⟨i, row, r, e, h1, h2, h3, h4, kk⟩
  exact ⟨i, row, r, e, h1, h2, h3, h4, fun t l H' a1 a2 a3 a4 => hq _ _ (kk t l H' a1 a2 a3 a4)⟩
end
structure PlFs (fs : List (Str × V)) (own : List (Str × Int)) (b : Int) : Prop where
  be : fs.lookup ("begin_at" : Str) = some (.int b)
  fld : ∀ (m : Str) (x : Int), own.lookup m = some x → fs.lookup m = some (.int x)
  no : ∀ m : Str, own.lookup m = none → m ≠ "begin_at" → m ≠ "late_by" → m ≠ "made" → fs.lookup m = none
theorem plFs_mk (tm : Addr) (l b : Int) : PlFs (nodeF tm l b []) [] b := by
  refine ⟨nodeF_be _ _ _ _, fun m x e => (by cases e), fun m _ h3 h4 h5 => ?_⟩
  rw [nodeF_no h3 h4 h5]
  rfl
theorem PlFs.put {fs : List (Str × V)} {own : List (Str × Int)} {b : Int} (h : PlFs fs own b) (m : Str) (x : Int) (n : m ≠ "begin_at") : PlFs (putF m (.int x) fs) ((m, x) :: own) b := by
  refine ⟨?_, fun m' x' e => ?_, fun m' e h3 h4 h5 => ?_⟩
  · rw [lookup_putF, if_neg (Ne.symm n)]
    exact h.be
  · rw [lookup_putF]
    rw [List.lookup_cons] at e
    by_cases z : m' = m
    · rw [if_pos z]
      rw [z, beq_self_eq_true] at e
      cases e
      rfl
    · rw [if_neg z]
      rw [beq_false_of_ne z] at e
      exact h.fld m' x' e
  · rw [lookup_putF]
    rw [List.lookup_cons] at e
    by_cases z : m' = m
    · rw [z, beq_self_eq_true] at e
      cases e
    · rw [if_neg z]
      rw [beq_false_of_ne z] at e
      exact h.no m' e h3 h4 h5
structure PI where
  nd : Addr
  wk : Wk
def plainM (K : PySem.W.Frag) (C : Addr) (own : Wk → Option (List (Str × Int))) (ho : ∀ wk o, own wk = some o → ∀ m : Str, m ∈ (["takes", "gives", "fresh", "fire", "work"] : List Str) → o.lookup m = none) : Mp K C where
  ι := PI
  nd := PI.nd
  wk := PI.wk
  node := fun i H => ∃ fs o, own i.wk = some o ∧ InsAt H i.nd C fs ∧ PlFs fs o 0 ∧ okW i.wk
  mem := fun i H v => ∃ q, v = .ref q ∧ SqT K H q [.int 0, .non]
  ins := fun i H ⟨fs, o, e, h, c, _⟩ => ⟨fs, h, fun m hm => by
    have : m = "takes" ∨ m = "gives" ∨ m = "fresh" ∨ m = "fire" ∨ m = "work" := by simpa using hm
    refine c.no m (ho _ _ e m hm) ?_ ?_ ?_
    all_goals
      rcases this with rfl | rfl | rfl | rfl | rfl
      all_goals decide +kernel⟩
  nodeS := fun i H H1 s ⟨fs, o, e, h, c, k⟩ => ⟨fs, o, e, h.keep s, c, k⟩
  memS := fun i H H1 v s ⟨q, e, h⟩ => ⟨q, e, Same.tup s h⟩
  okw := fun i H ⟨fs, o, e, h, c, k⟩ => k
  nodeK := fun i H H1 p kp hp ⟨fs, o, e, h, c, k⟩ => ⟨fs, o, e, ins_kept kp hp h, c, k⟩
  memL := fun i H v l ys o hl ⟨q, e, h⟩ => ⟨q, e, tup_updL hl h⟩
end Sw
namespace Sw
open PySem PySem.Spec PyProof.Rows L2
def noM (o : List (Str × Int)) : Prop := ∀ m : Str, m ∈ (["takes", "gives", "fresh", "fire", "work"] : List Str) → o.lookup m = none
theorem noM_nil : noM [] := fun m _ => rfl
theorem noM_cons {a : Str} {x : Int} {o : List (Str × Int)} (h : a ∉ (["takes", "gives", "fresh", "fire", "work"] : List Str)) (k : noM o) : noM ((a, x) :: o) := fun m hm => by
  rw [List.lookup_cons, beq_false_of_ne (fun z => h (by rw [← z]; exact hm))]
  exact k m hm
/-! ### Mix -/
def ownMix : Wk → Option (List (Str × Int))
  | .mix m => some [("many", (m : Int))]
  | _ => none
theorem ownMix_ok (wk : Wk) (o : List (Str × Int)) (e : ownMix wk = some o) : noM o := by
  unfold ownMix at e
  split at e
  · cases e
    exact noM_cons (by decide +kernel) (noM_nil)
  · cases e
abbrev mixM (K : PySem.W.Frag) (C : Addr) : Mp K C := plainM K C ownMix ownMix_ok
section
variable {P : Program} {w : World} {K : PySem.W.Frag} {mg : Str → Option Value} {base : Heap} {f f1 f2 f3 f4 f5 f6 C CN : Addr} {fd fd1 fd2 fd3 fd4 fd5 fd6 : FuncData}
theorem scMixGives : FnScope ["self"] ["self"] (defScope sMixGives) := ⟨rfl, rfl, rfl, by decide +kernel, rfl, by decide +kernel, by decide +kernel⟩
theorem ok_mixGives {sp : Sp} (hsp : ∀ vs H Q E, sp vs H Q E → vs.length = 1 ∧ Q (.int 1) H) (F : FnM K "gives" "Mix.gives" sMixGives f fd) : FnOk P w K mg base CX0 1 f fd ["self"] sp := by
  refine F.ok scMixGives (fun vs H Q E h => (hsp vs H Q E h).1) (fun cdv A outer s H vs Q E hr h => ?_)
  exact ⟨_, PSs.nox (pss_one (ps_ret pe_int)), (hsp vs H Q E h).2⟩
theorem scMixFresh : FnScope ["self"] ["self"] (defScope sMixFresh) := ⟨rfl, rfl, rfl, by decide +kernel, rfl, by decide +kernel, by decide +kernel⟩
theorem ok_mixFresh (F : FnM K "fresh" "Mix.fresh" sMixFresh f fd) (T : NodeC K C) : FnOk P w K mg base CX0 1 f fd ["self"] (spPFresh (mixM K C)) := by
  refine F.ok scMixFresh (fun vs H Q E h => ?_) (fun cdv A outer s H vs Q E hr h => ?_)
  · obtain ⟨i, rfl, _⟩ := h
    rfl
  · obtain ⟨i, rfl, ⟨fs, o, _, ⟨dx, hi⟩, c, _⟩, k⟩ := h
    refine ⟨_, PSs.nox (pss_one (ps_ret (pe_tup (pa_cons (pe_fld (pv 0) rfl) (pa_cons pe_non pa_nil))))), ?_⟩
    refine ⟨_, rfl, _, C, dx, _, _, rfl, hi, T.cl, T.nB, c.be, (by show 2 ≤ sizeLine; decide), fun q hq => ?_⟩
    exact k _ _ (Same.new (Same.refl _) hq) ⟨q, rfl, .inl (.inl upd_same)⟩
theorem scMixFire : FnScope ["self", "memory", "rows"] ["self", "memory", "rows"] (defScope sMixFire) := ⟨rfl, rfl, rfl, by decide +kernel, rfl, by decide +kernel, by decide +kernel⟩
theorem ok_mixFire (F : FnM K "fire" "Mix.fire" sMixFire f fd) (GF : FnOk P w K mg base CX0 2 f1 fd1 ["node", "memory", "rows"] (spFiring K C (spPWork (mixM K C)))) (gF : mg "run_firing" = some (.ref f1)) (kF : PySem.W.keepIn K (.ref f1) = true) (bF : Binds K fd1 ["node", "memory", "rows"] []) :
    FnOk P w K mg base CX0 3 f fd ["self", "memory", "rows"] (spPFire (mixM K C)) := by
  refine F.ok scMixFire (fun vs H Q E h => ?_) (fun cdv A outer s H vs Q E hr h => ?_)
  · obtain ⟨i, row, v, r, rfl, _⟩ := h
    rfl
  · obtain ⟨i, row, v, r, rfl, hn, ⟨q, rfl, hq⟩, hrow, hm, nums, kk⟩ := h
    obtain ⟨fs, hi, no⟩ := (mixM K C).ins i H hn
    refine ⟨_, PSs.nox (pss_one (ps_ret (pe_call GF hr rfl gF kF bF .nil pass0 (pa_cons (pv 0) (pa_cons (pv 1) (pa_cons (pv 2) pa_nil)))))), ?_⟩
    refine ⟨_, rfl, _, rfl, _, rfl, PI.nd i, q, fs, 0, .non, .ref r, rfl, hi, no _ (by decide +kernel), no _ (by decide +kernel), hq, .inr ⟨by decide, ?_⟩⟩
    refine ⟨i, row, r, rfl, hn, hrow, hm, nums, fun t l H1 s1 fr ht hl => ?_⟩
    refine ⟨t, _, _, rfl, s1, ht, fun t2 t3 H2 s2 _ h2 h3 => ?_⟩
    exact kk t2 l (.ref t3) H2 (s1.trans s2) fr h2 ⟨t3, rfl, .inl (.inl h3)⟩ (s2 _ _ hl)
end
/-! ### Times -/
def ownTimes : Wk → Option (List (Str × Int))
  | .times => some []
  | _ => none
theorem ownTimes_ok (wk : Wk) (o : List (Str × Int)) (e : ownTimes wk = some o) : noM o := by
  unfold ownTimes at e
  split at e
  · cases e
    exact noM_nil
  · cases e
abbrev timesM (K : PySem.W.Frag) (C : Addr) : Mp K C := plainM K C ownTimes ownTimes_ok
section
variable {P : Program} {w : World} {K : PySem.W.Frag} {mg : Str → Option Value} {base : Heap} {f f1 f2 f3 f4 f5 f6 C CN : Addr} {fd fd1 fd2 fd3 fd4 fd5 fd6 : FuncData}
theorem scTimesGives : FnScope ["self"] ["self"] (defScope sTimesGives) := ⟨rfl, rfl, rfl, by decide +kernel, rfl, by decide +kernel, by decide +kernel⟩
theorem ok_timesGives {sp : Sp} (hsp : ∀ vs H Q E, sp vs H Q E → vs.length = 1 ∧ Q (.int 1) H) (F : FnM K "gives" "Times.gives" sTimesGives f fd) : FnOk P w K mg base CX0 1 f fd ["self"] sp := by
  refine F.ok scTimesGives (fun vs H Q E h => (hsp vs H Q E h).1) (fun cdv A outer s H vs Q E hr h => ?_)
  exact ⟨_, PSs.nox (pss_one (ps_ret pe_int)), (hsp vs H Q E h).2⟩
theorem scTimesFresh : FnScope ["self"] ["self"] (defScope sTimesFresh) := ⟨rfl, rfl, rfl, by decide +kernel, rfl, by decide +kernel, by decide +kernel⟩
theorem ok_timesFresh (F : FnM K "fresh" "Times.fresh" sTimesFresh f fd) (T : NodeC K C) : FnOk P w K mg base CX0 1 f fd ["self"] (spPFresh (timesM K C)) := by
  refine F.ok scTimesFresh (fun vs H Q E h => ?_) (fun cdv A outer s H vs Q E hr h => ?_)
  · obtain ⟨i, rfl, _⟩ := h
    rfl
  · obtain ⟨i, rfl, ⟨fs, o, _, ⟨dx, hi⟩, c, _⟩, k⟩ := h
    refine ⟨_, PSs.nox (pss_one (ps_ret (pe_tup (pa_cons (pe_fld (pv 0) rfl) (pa_cons pe_non pa_nil))))), ?_⟩
    refine ⟨_, rfl, _, C, dx, _, _, rfl, hi, T.cl, T.nB, c.be, (by show 2 ≤ sizeLine; decide), fun q hq => ?_⟩
    exact k _ _ (Same.new (Same.refl _) hq) ⟨q, rfl, .inl (.inl upd_same)⟩
theorem scTimesFire : FnScope ["self", "memory", "rows"] ["self", "memory", "rows"] (defScope sTimesFire) := ⟨rfl, rfl, rfl, by decide +kernel, rfl, by decide +kernel, by decide +kernel⟩
theorem ok_timesFire (F : FnM K "fire" "Times.fire" sTimesFire f fd) (GF : FnOk P w K mg base CX0 2 f1 fd1 ["node", "memory", "rows"] (spFiring K C (spPWork (timesM K C)))) (gF : mg "run_firing" = some (.ref f1)) (kF : PySem.W.keepIn K (.ref f1) = true) (bF : Binds K fd1 ["node", "memory", "rows"] []) :
    FnOk P w K mg base CX0 3 f fd ["self", "memory", "rows"] (spPFire (timesM K C)) := by
  refine F.ok scTimesFire (fun vs H Q E h => ?_) (fun cdv A outer s H vs Q E hr h => ?_)
  · obtain ⟨i, row, v, r, rfl, _⟩ := h
    rfl
  · obtain ⟨i, row, v, r, rfl, hn, ⟨q, rfl, hq⟩, hrow, hm, nums, kk⟩ := h
    obtain ⟨fs, hi, no⟩ := (timesM K C).ins i H hn
    refine ⟨_, PSs.nox (pss_one (ps_ret (pe_call GF hr rfl gF kF bF .nil pass0 (pa_cons (pv 0) (pa_cons (pv 1) (pa_cons (pv 2) pa_nil)))))), ?_⟩
    refine ⟨_, rfl, _, rfl, _, rfl, PI.nd i, q, fs, 0, .non, .ref r, rfl, hi, no _ (by decide +kernel), no _ (by decide +kernel), hq, .inr ⟨by decide, ?_⟩⟩
    refine ⟨i, row, r, rfl, hn, hrow, hm, nums, fun t l H1 s1 fr ht hl => ?_⟩
    refine ⟨t, _, _, rfl, s1, ht, fun t2 t3 H2 s2 _ h2 h3 => ?_⟩
    exact kk t2 l (.ref t3) H2 (s1.trans s2) fr h2 ⟨t3, rfl, .inl (.inl h3)⟩ (s2 _ _ hl)
theorem scTimesTakes : FnScope ["self"] ["self"] (defScope sTimesTakes) := ⟨rfl, rfl, rfl, by decide +kernel, rfl, by decide +kernel, by decide +kernel⟩
theorem ok_timesTakes (F : FnM K "takes" "Times.takes" sTimesTakes f fd) : FnOk P w K mg base CX0 1 f fd ["self"] (spPTakes (timesM K C)) := by
  refine F.ok scTimesTakes (fun vs H Q E h => ?_) (fun cdv A outer s H vs Q E hr h => ?_)
  · obtain ⟨i, rfl, _⟩ := h
    rfl
  · obtain ⟨⟨nd, wk⟩, rfl, ⟨fs, o, e, hn⟩, k⟩ := h
    cases wk <;> first | cases e | skip
    refine ⟨_, PSs.nox (pss_one (ps_ret (pe_tup (pa_cons pe_int (pa_cons pe_int (pa_nil)))))), ?_⟩
    exact ⟨(by show 2 ≤ sizeLine; decide), fun t ht => k t _ (Same.new (Same.refl _) ht) (.inl (.inl upd_same))⟩
def spTimesInit (K : PySem.W.Frag) (C : Addr) : Sp := fun vs H Q _ => ∃ (p dx : Addr) (l b : Int), vs = [.ref p, .int l, .int b] ∧ H p = some (.ins C dx []) ∧ (0 ≤ l ∧ l ≤ 99) ∧ (0 ≤ b ∧ b ≤ 9999) ∧
  ∀ (fs : List (Str × V)) (H' : Hp), PlFs fs [] b → Kept p H H' → H' p = some (.ins C dx fs) → Q .non H'
theorem scTimesInit : FnScope ["self", "late", "begin"] ["self", "late", "begin"] (defScope sTimesInit) := ⟨rfl, rfl, rfl, by decide +kernel, rfl, by decide +kernel, by decide +kernel⟩
theorem ok_timesInit {dvs : List V} {kws : List (Str × V)} (F : FunD K "__init__" "Times.__init__" (defArgs sTimesInit) (defBody sTimesInit) (defScope sTimesInit) dvs kws f fd)
    (GB : FnOk P w K mg base CX0 3 f3 fd3 ["self", "arguments", "late", "begin"] (spNodeInit K C)) (gB : mg "Node" = some (.ref CN)) (mB : BaseM K CN "__init__" f3) (bB : Binds K fd3 ["self", "arguments", "late", "begin"] [])
    (T : NodeC K C) : FnOk P w K mg base CX0 4 f fd ["self", "late", "begin"] (spTimesInit K C) := by
  refine F.ok scTimesInit (fun vs H Q E h => ?_) (fun cdv A outer s H vs Q E hr h => ?_)
  · obtain ⟨p, dx, l, b, rfl, _⟩ := h
    rfl
  · obtain ⟨p, dx, l, b, rfl, hp, hl, hb, k⟩ := h
    refine ⟨_, PSs.nox (pss_one (ps_expr (pe_base (pe_glob (v := .ref CN) rfl gB rfl) mB GB hr bB .nil pass0 (pa_cons (pv 0) (pa_cons (pe_tup pa_nil) (pa_cons (pv 1) (pa_cons (pv 2) pa_nil))))))), ?_⟩
    refine ⟨rfl, _, rfl, (by show 0 ≤ sizeLine; decide), fun t ht => ?_⟩
    have hp4 := Same.new (o := .tup []) (Same.refl _) ht _ _ hp
    refine ⟨_, rfl, _, rfl, p, t, dx, [], [], l, b, rfl, hp4, .inl (.inl upd_same), hl, hb, by decide, by decide, fun tm htm => ?_⟩
    exact k _ _ (plFs_mk tm l b) (Kept.upd (Kept.new (Kept.new Kept.refl ht) htm)) upd_same
end
/-! ### Clip -/
def ownClip : Wk → Option (List (Str × Int))
  | .clip lo hi => some [("high", hi), ("low", lo)]
  | _ => none
theorem ownClip_ok (wk : Wk) (o : List (Str × Int)) (e : ownClip wk = some o) : noM o := by
  unfold ownClip at e
  split at e
  · cases e
    exact noM_cons (by decide +kernel) (noM_cons (by decide +kernel) (noM_nil))
  · cases e
abbrev clipM (K : PySem.W.Frag) (C : Addr) : Mp K C := plainM K C ownClip ownClip_ok
section
variable {P : Program} {w : World} {K : PySem.W.Frag} {mg : Str → Option Value} {base : Heap} {f f1 f2 f3 f4 f5 f6 C CN : Addr} {fd fd1 fd2 fd3 fd4 fd5 fd6 : FuncData}
theorem scClipGives : FnScope ["self"] ["self"] (defScope sClipGives) := ⟨rfl, rfl, rfl, by decide +kernel, rfl, by decide +kernel, by decide +kernel⟩
theorem ok_clipGives {sp : Sp} (hsp : ∀ vs H Q E, sp vs H Q E → vs.length = 1 ∧ Q (.int 1) H) (F : FnM K "gives" "Clip.gives" sClipGives f fd) : FnOk P w K mg base CX0 1 f fd ["self"] sp := by
  refine F.ok scClipGives (fun vs H Q E h => (hsp vs H Q E h).1) (fun cdv A outer s H vs Q E hr h => ?_)
  exact ⟨_, PSs.nox (pss_one (ps_ret pe_int)), (hsp vs H Q E h).2⟩
theorem scClipFresh : FnScope ["self"] ["self"] (defScope sClipFresh) := ⟨rfl, rfl, rfl, by decide +kernel, rfl, by decide +kernel, by decide +kernel⟩
theorem ok_clipFresh (F : FnM K "fresh" "Clip.fresh" sClipFresh f fd) (T : NodeC K C) : FnOk P w K mg base CX0 1 f fd ["self"] (spPFresh (clipM K C)) := by
  refine F.ok scClipFresh (fun vs H Q E h => ?_) (fun cdv A outer s H vs Q E hr h => ?_)
  · obtain ⟨i, rfl, _⟩ := h
    rfl
  · obtain ⟨i, rfl, ⟨fs, o, _, ⟨dx, hi⟩, c, _⟩, k⟩ := h
    refine ⟨_, PSs.nox (pss_one (ps_ret (pe_tup (pa_cons (pe_fld (pv 0) rfl) (pa_cons pe_non pa_nil))))), ?_⟩
    refine ⟨_, rfl, _, C, dx, _, _, rfl, hi, T.cl, T.nB, c.be, (by show 2 ≤ sizeLine; decide), fun q hq => ?_⟩
    exact k _ _ (Same.new (Same.refl _) hq) ⟨q, rfl, .inl (.inl upd_same)⟩
theorem scClipFire : FnScope ["self", "memory", "rows"] ["self", "memory", "rows"] (defScope sClipFire) := ⟨rfl, rfl, rfl, by decide +kernel, rfl, by decide +kernel, by decide +kernel⟩
theorem ok_clipFire (F : FnM K "fire" "Clip.fire" sClipFire f fd) (GF : FnOk P w K mg base CX0 2 f1 fd1 ["node", "memory", "rows"] (spFiring K C (spPWork (clipM K C)))) (gF : mg "run_firing" = some (.ref f1)) (kF : PySem.W.keepIn K (.ref f1) = true) (bF : Binds K fd1 ["node", "memory", "rows"] []) :
    FnOk P w K mg base CX0 3 f fd ["self", "memory", "rows"] (spPFire (clipM K C)) := by
  refine F.ok scClipFire (fun vs H Q E h => ?_) (fun cdv A outer s H vs Q E hr h => ?_)
  · obtain ⟨i, row, v, r, rfl, _⟩ := h
    rfl
  · obtain ⟨i, row, v, r, rfl, hn, ⟨q, rfl, hq⟩, hrow, hm, nums, kk⟩ := h
    obtain ⟨fs, hi, no⟩ := (clipM K C).ins i H hn
    refine ⟨_, PSs.nox (pss_one (ps_ret (pe_call GF hr rfl gF kF bF .nil pass0 (pa_cons (pv 0) (pa_cons (pv 1) (pa_cons (pv 2) pa_nil)))))), ?_⟩
    refine ⟨_, rfl, _, rfl, _, rfl, PI.nd i, q, fs, 0, .non, .ref r, rfl, hi, no _ (by decide +kernel), no _ (by decide +kernel), hq, .inr ⟨by decide, ?_⟩⟩
    refine ⟨i, row, r, rfl, hn, hrow, hm, nums, fun t l H1 s1 fr ht hl => ?_⟩
    refine ⟨t, _, _, rfl, s1, ht, fun t2 t3 H2 s2 _ h2 h3 => ?_⟩
    exact kk t2 l (.ref t3) H2 (s1.trans s2) fr h2 ⟨t3, rfl, .inl (.inl h3)⟩ (s2 _ _ hl)
theorem scClipTakes : FnScope ["self"] ["self"] (defScope sClipTakes) := ⟨rfl, rfl, rfl, by decide +kernel, rfl, by decide +kernel, by decide +kernel⟩
theorem ok_clipTakes (F : FnM K "takes" "Clip.takes" sClipTakes f fd) : FnOk P w K mg base CX0 1 f fd ["self"] (spPTakes (clipM K C)) := by
  refine F.ok scClipTakes (fun vs H Q E h => ?_) (fun cdv A outer s H vs Q E hr h => ?_)
  · obtain ⟨i, rfl, _⟩ := h
    rfl
  · obtain ⟨⟨nd, wk⟩, rfl, ⟨fs, o, e, hn⟩, k⟩ := h
    cases wk <;> first | cases e | skip
    refine ⟨_, PSs.nox (pss_one (ps_ret (pe_tup (pa_cons pe_int (pa_nil))))), ?_⟩
    exact ⟨(by show 1 ≤ sizeLine; decide), fun t ht => k t _ (Same.new (Same.refl _) ht) (.inl (.inl upd_same))⟩
end
/-! ### Share -/
def ownShare : Wk → Option (List (Str × Int))
  | .share b => some [("by", b)]
  | _ => none
theorem ownShare_ok (wk : Wk) (o : List (Str × Int)) (e : ownShare wk = some o) : noM o := by
  unfold ownShare at e
  split at e
  · cases e
    exact noM_cons (by decide +kernel) (noM_nil)
  · cases e
abbrev shareM (K : PySem.W.Frag) (C : Addr) : Mp K C := plainM K C ownShare ownShare_ok
section
variable {P : Program} {w : World} {K : PySem.W.Frag} {mg : Str → Option Value} {base : Heap} {f f1 f2 f3 f4 f5 f6 C CN : Addr} {fd fd1 fd2 fd3 fd4 fd5 fd6 : FuncData}
theorem scShareGives : FnScope ["self"] ["self"] (defScope sShareGives) := ⟨rfl, rfl, rfl, by decide +kernel, rfl, by decide +kernel, by decide +kernel⟩
theorem ok_shareGives {sp : Sp} (hsp : ∀ vs H Q E, sp vs H Q E → vs.length = 1 ∧ Q (.int 1) H) (F : FnM K "gives" "Share.gives" sShareGives f fd) : FnOk P w K mg base CX0 1 f fd ["self"] sp := by
  refine F.ok scShareGives (fun vs H Q E h => (hsp vs H Q E h).1) (fun cdv A outer s H vs Q E hr h => ?_)
  exact ⟨_, PSs.nox (pss_one (ps_ret pe_int)), (hsp vs H Q E h).2⟩
theorem scShareFresh : FnScope ["self"] ["self"] (defScope sShareFresh) := ⟨rfl, rfl, rfl, by decide +kernel, rfl, by decide +kernel, by decide +kernel⟩
theorem ok_shareFresh (F : FnM K "fresh" "Share.fresh" sShareFresh f fd) (T : NodeC K C) : FnOk P w K mg base CX0 1 f fd ["self"] (spPFresh (shareM K C)) := by
  refine F.ok scShareFresh (fun vs H Q E h => ?_) (fun cdv A outer s H vs Q E hr h => ?_)
  · obtain ⟨i, rfl, _⟩ := h
    rfl
  · obtain ⟨i, rfl, ⟨fs, o, _, ⟨dx, hi⟩, c, _⟩, k⟩ := h
    refine ⟨_, PSs.nox (pss_one (ps_ret (pe_tup (pa_cons (pe_fld (pv 0) rfl) (pa_cons pe_non pa_nil))))), ?_⟩
    refine ⟨_, rfl, _, C, dx, _, _, rfl, hi, T.cl, T.nB, c.be, (by show 2 ≤ sizeLine; decide), fun q hq => ?_⟩
    exact k _ _ (Same.new (Same.refl _) hq) ⟨q, rfl, .inl (.inl upd_same)⟩
theorem scShareFire : FnScope ["self", "memory", "rows"] ["self", "memory", "rows"] (defScope sShareFire) := ⟨rfl, rfl, rfl, by decide +kernel, rfl, by decide +kernel, by decide +kernel⟩
theorem ok_shareFire (F : FnM K "fire" "Share.fire" sShareFire f fd) (GF : FnOk P w K mg base CX0 2 f1 fd1 ["node", "memory", "rows"] (spFiring K C (spPWork (shareM K C)))) (gF : mg "run_firing" = some (.ref f1)) (kF : PySem.W.keepIn K (.ref f1) = true) (bF : Binds K fd1 ["node", "memory", "rows"] []) :
    FnOk P w K mg base CX0 3 f fd ["self", "memory", "rows"] (spPFire (shareM K C)) := by
  refine F.ok scShareFire (fun vs H Q E h => ?_) (fun cdv A outer s H vs Q E hr h => ?_)
  · obtain ⟨i, row, v, r, rfl, _⟩ := h
    rfl
  · obtain ⟨i, row, v, r, rfl, hn, ⟨q, rfl, hq⟩, hrow, hm, nums, kk⟩ := h
    obtain ⟨fs, hi, no⟩ := (shareM K C).ins i H hn
    refine ⟨_, PSs.nox (pss_one (ps_ret (pe_call GF hr rfl gF kF bF .nil pass0 (pa_cons (pv 0) (pa_cons (pv 1) (pa_cons (pv 2) pa_nil)))))), ?_⟩
    refine ⟨_, rfl, _, rfl, _, rfl, PI.nd i, q, fs, 0, .non, .ref r, rfl, hi, no _ (by decide +kernel), no _ (by decide +kernel), hq, .inr ⟨by decide, ?_⟩⟩
    refine ⟨i, row, r, rfl, hn, hrow, hm, nums, fun t l H1 s1 fr ht hl => ?_⟩
    refine ⟨t, _, _, rfl, s1, ht, fun t2 t3 H2 s2 _ h2 h3 => ?_⟩
    exact kk t2 l (.ref t3) H2 (s1.trans s2) fr h2 ⟨t3, rfl, .inl (.inl h3)⟩ (s2 _ _ hl)
theorem scShareTakes : FnScope ["self"] ["self"] (defScope sShareTakes) := ⟨rfl, rfl, rfl, by decide +kernel, rfl, by decide +kernel, by decide +kernel⟩
theorem ok_shareTakes (F : FnM K "takes" "Share.takes" sShareTakes f fd) : FnOk P w K mg base CX0 1 f fd ["self"] (spPTakes (shareM K C)) := by
  refine F.ok scShareTakes (fun vs H Q E h => ?_) (fun cdv A outer s H vs Q E hr h => ?_)
  · obtain ⟨i, rfl, _⟩ := h
    rfl
  · obtain ⟨⟨nd, wk⟩, rfl, ⟨fs, o, e, hn⟩, k⟩ := h
    cases wk <;> first | cases e | skip
    refine ⟨_, PSs.nox (pss_one (ps_ret (pe_tup (pa_cons pe_int (pa_nil))))), ?_⟩
    exact ⟨(by show 1 ≤ sizeLine; decide), fun t ht => k t _ (Same.new (Same.refl _) ht) (.inl (.inl upd_same))⟩
end
/-! ### Choose -/
def ownChoose : Wk → Option (List (Str × Int))
  | .choose => some []
  | _ => none
theorem ownChoose_ok (wk : Wk) (o : List (Str × Int)) (e : ownChoose wk = some o) : noM o := by
  unfold ownChoose at e
  split at e
  · cases e
    exact noM_nil
  · cases e
abbrev chooseM (K : PySem.W.Frag) (C : Addr) : Mp K C := plainM K C ownChoose ownChoose_ok
section
variable {P : Program} {w : World} {K : PySem.W.Frag} {mg : Str → Option Value} {base : Heap} {f f1 f2 f3 f4 f5 f6 C CN : Addr} {fd fd1 fd2 fd3 fd4 fd5 fd6 : FuncData}
theorem scChooseGives : FnScope ["self"] ["self"] (defScope sChooseGives) := ⟨rfl, rfl, rfl, by decide +kernel, rfl, by decide +kernel, by decide +kernel⟩
theorem ok_chooseGives {sp : Sp} (hsp : ∀ vs H Q E, sp vs H Q E → vs.length = 1 ∧ Q (.int 1) H) (F : FnM K "gives" "Choose.gives" sChooseGives f fd) : FnOk P w K mg base CX0 1 f fd ["self"] sp := by
  refine F.ok scChooseGives (fun vs H Q E h => (hsp vs H Q E h).1) (fun cdv A outer s H vs Q E hr h => ?_)
  exact ⟨_, PSs.nox (pss_one (ps_ret pe_int)), (hsp vs H Q E h).2⟩
theorem scChooseFresh : FnScope ["self"] ["self"] (defScope sChooseFresh) := ⟨rfl, rfl, rfl, by decide +kernel, rfl, by decide +kernel, by decide +kernel⟩
theorem ok_chooseFresh (F : FnM K "fresh" "Choose.fresh" sChooseFresh f fd) (T : NodeC K C) : FnOk P w K mg base CX0 1 f fd ["self"] (spPFresh (chooseM K C)) := by
  refine F.ok scChooseFresh (fun vs H Q E h => ?_) (fun cdv A outer s H vs Q E hr h => ?_)
  · obtain ⟨i, rfl, _⟩ := h
    rfl
  · obtain ⟨i, rfl, ⟨fs, o, _, ⟨dx, hi⟩, c, _⟩, k⟩ := h
    refine ⟨_, PSs.nox (pss_one (ps_ret (pe_tup (pa_cons (pe_fld (pv 0) rfl) (pa_cons pe_non pa_nil))))), ?_⟩
    refine ⟨_, rfl, _, C, dx, _, _, rfl, hi, T.cl, T.nB, c.be, (by show 2 ≤ sizeLine; decide), fun q hq => ?_⟩
    exact k _ _ (Same.new (Same.refl _) hq) ⟨q, rfl, .inl (.inl upd_same)⟩
theorem scChooseFire : FnScope ["self", "memory", "rows"] ["self", "memory", "rows"] (defScope sChooseFire) := ⟨rfl, rfl, rfl, by decide +kernel, rfl, by decide +kernel, by decide +kernel⟩
theorem ok_chooseFire (F : FnM K "fire" "Choose.fire" sChooseFire f fd) (GF : FnOk P w K mg base CX0 2 f1 fd1 ["node", "memory", "rows"] (spFiring K C (spPWork (chooseM K C)))) (gF : mg "run_firing" = some (.ref f1)) (kF : PySem.W.keepIn K (.ref f1) = true) (bF : Binds K fd1 ["node", "memory", "rows"] []) :
    FnOk P w K mg base CX0 3 f fd ["self", "memory", "rows"] (spPFire (chooseM K C)) := by
  refine F.ok scChooseFire (fun vs H Q E h => ?_) (fun cdv A outer s H vs Q E hr h => ?_)
  · obtain ⟨i, row, v, r, rfl, _⟩ := h
    rfl
  · obtain ⟨i, row, v, r, rfl, hn, ⟨q, rfl, hq⟩, hrow, hm, nums, kk⟩ := h
    obtain ⟨fs, hi, no⟩ := (chooseM K C).ins i H hn
    refine ⟨_, PSs.nox (pss_one (ps_ret (pe_call GF hr rfl gF kF bF .nil pass0 (pa_cons (pv 0) (pa_cons (pv 1) (pa_cons (pv 2) pa_nil)))))), ?_⟩
    refine ⟨_, rfl, _, rfl, _, rfl, PI.nd i, q, fs, 0, .non, .ref r, rfl, hi, no _ (by decide +kernel), no _ (by decide +kernel), hq, .inr ⟨by decide, ?_⟩⟩
    refine ⟨i, row, r, rfl, hn, hrow, hm, nums, fun t l H1 s1 fr ht hl => ?_⟩
    refine ⟨t, _, _, rfl, s1, ht, fun t2 t3 H2 s2 _ h2 h3 => ?_⟩
    exact kk t2 l (.ref t3) H2 (s1.trans s2) fr h2 ⟨t3, rfl, .inl (.inl h3)⟩ (s2 _ _ hl)
theorem scChooseTakes : FnScope ["self"] ["self"] (defScope sChooseTakes) := ⟨rfl, rfl, rfl, by decide +kernel, rfl, by decide +kernel, by decide +kernel⟩
theorem ok_chooseTakes (F : FnM K "takes" "Choose.takes" sChooseTakes f fd) : FnOk P w K mg base CX0 1 f fd ["self"] (spPTakes (chooseM K C)) := by
  refine F.ok scChooseTakes (fun vs H Q E h => ?_) (fun cdv A outer s H vs Q E hr h => ?_)
  · obtain ⟨i, rfl, _⟩ := h
    rfl
  · obtain ⟨⟨nd, wk⟩, rfl, ⟨fs, o, e, hn⟩, k⟩ := h
    cases wk <;> first | cases e | skip
    refine ⟨_, PSs.nox (pss_one (ps_ret (pe_tup (pa_cons pe_int (pa_cons pe_int (pa_cons pe_int (pa_nil))))))), ?_⟩
    exact ⟨(by show 3 ≤ sizeLine; decide), fun t ht => k t _ (Same.new (Same.refl _) ht) (.inl (.inl upd_same))⟩
def spChooseInit (K : PySem.W.Frag) (C : Addr) : Sp := fun vs H Q _ => ∃ (p dx : Addr) (l b : Int), vs = [.ref p, .int l, .int b] ∧ H p = some (.ins C dx []) ∧ (0 ≤ l ∧ l ≤ 99) ∧ (0 ≤ b ∧ b ≤ 9999) ∧
  ∀ (fs : List (Str × V)) (H' : Hp), PlFs fs [] b → Kept p H H' → H' p = some (.ins C dx fs) → Q .non H'
theorem scChooseInit : FnScope ["self", "late", "begin"] ["self", "late", "begin"] (defScope sChooseInit) := ⟨rfl, rfl, rfl, by decide +kernel, rfl, by decide +kernel, by decide +kernel⟩
theorem ok_chooseInit {dvs : List V} {kws : List (Str × V)} (F : FunD K "__init__" "Choose.__init__" (defArgs sChooseInit) (defBody sChooseInit) (defScope sChooseInit) dvs kws f fd)
    (GB : FnOk P w K mg base CX0 3 f3 fd3 ["self", "arguments", "late", "begin"] (spNodeInit K C)) (gB : mg "Node" = some (.ref CN)) (mB : BaseM K CN "__init__" f3) (bB : Binds K fd3 ["self", "arguments", "late", "begin"] [])
    (T : NodeC K C) : FnOk P w K mg base CX0 4 f fd ["self", "late", "begin"] (spChooseInit K C) := by
  refine F.ok scChooseInit (fun vs H Q E h => ?_) (fun cdv A outer s H vs Q E hr h => ?_)
  · obtain ⟨p, dx, l, b, rfl, _⟩ := h
    rfl
  · obtain ⟨p, dx, l, b, rfl, hp, hl, hb, k⟩ := h
    refine ⟨_, PSs.nox (pss_one (ps_expr (pe_base (pe_glob (v := .ref CN) rfl gB rfl) mB GB hr bB .nil pass0 (pa_cons (pv 0) (pa_cons (pe_tup pa_nil) (pa_cons (pv 1) (pa_cons (pv 2) pa_nil))))))), ?_⟩
    refine ⟨rfl, _, rfl, (by show 0 ≤ sizeLine; decide), fun t ht => ?_⟩
    have hp4 := Same.new (o := .tup []) (Same.refl _) ht _ _ hp
    refine ⟨_, rfl, _, rfl, p, t, dx, [], [], l, b, rfl, hp4, .inl (.inl upd_same), hl, hb, by decide, by decide, fun tm htm => ?_⟩
    exact k _ _ (plFs_mk tm l b) (Kept.upd (Kept.new (Kept.new Kept.refl ht) htm)) upd_same
end
end Sw
namespace Sw
open PySem PySem.Spec PyProof.Rows L2
theorem nodeF_le (tm : Addr) (l b : Int) (fs : List (Str × V)) : (nodeF tm l b fs).length ≤ fs.length + 3 := by
  unfold nodeF
  have l1 := putF_le "made" (.ref tm) fs
  have l2 := putF_le "late_by" (.int l) (putF "made" (.ref tm) fs)
  have l3 := putF_le "begin_at" (.int b) (putF "late_by" (.int l) (putF "made" (.ref tm) fs))
  omega
theorem row_third {D : List Addr} {H : Hp} {e : Addr} {xs : List Int} (h : RowAt D H e xs) (h1 : 3 ≤ xs.length) : ∃ (rs : List Addr) (r : Addr), H e = some (.lst (rs.map V.ref)) ∧ (rs.map V.ref)[2]? = some (.ref r) ∧ H r = some (.lst [.int (xs.getD 2 0)]) := by
  obtain ⟨_, rs, h2, al⟩ := h
  match rs, xs, al, h1 with
  | r :: r' :: r'' :: rs, x :: y :: z :: xs, al, _ => exact ⟨_, r'', h2, rfl, al.2.2.1.2⟩
  | [], x :: y :: z :: xs, al, _ => exact al.elim
  | [r], x :: y :: z :: xs, al, _ => exact al.2.elim
  | [r, r'], x :: y :: z :: xs, al, _ => exact al.2.2.elim
  | _, [], _, h1 => exact absurd h1 (by decide)
  | _, [x], _, h1 => exact absurd h1 (show ¬ 3 ≤ 1 by decide)
  | _, [x, y], _, h1 => exact absurd h1 (show ¬ 3 ≤ 2 by decide)
def spMixInit (K : PySem.W.Frag) (C : Addr) : Sp := fun vs H Q _ => ∃ (p dx : Addr) (m : Nat) (l b : Int), vs = [.ref p, .int (m : Int), .int l, .int b] ∧ H p = some (.ins C dx []) ∧ (1 ≤ m ∧ m ≤ 8) ∧ (0 ≤ l ∧ l ≤ 99) ∧ (0 ≤ b ∧ b ≤ 9999) ∧
  ∀ (fs : List (Str × V)) (H' : Hp), PlFs fs [("many", (m : Int))] b → Kept p H H' → H' p = some (.ins C dx fs) → Q .non H'
def spClipInit (K : PySem.W.Frag) (C : Addr) : Sp := fun vs H Q _ => ∃ (p dx : Addr) (lo hi l b : Int), vs = [.ref p, .int lo, .int hi, .int l, .int b] ∧ H p = some (.ins C dx []) ∧ lo ≤ hi ∧ (0 ≤ l ∧ l ≤ 99) ∧ (0 ≤ b ∧ b ≤ 9999) ∧
  ∀ (fs : List (Str × V)) (H' : Hp), PlFs fs [("high", hi), ("low", lo)] b → Kept p H H' → H' p = some (.ins C dx fs) → Q .non H'
def spShareInit (K : PySem.W.Frag) (C : Addr) : Sp := fun vs H Q _ => ∃ (p dx : Addr) (y l b : Int), vs = [.ref p, .int y, .int l, .int b] ∧ H p = some (.ins C dx []) ∧ 0 < y ∧ (0 ≤ l ∧ l ≤ 99) ∧ (0 ≤ b ∧ b ≤ 9999) ∧
  ∀ (fs : List (Str × V)) (H' : Hp), PlFs fs [("by", y)] b → Kept p H H' → H' p = some (.ins C dx fs) → Q .non H'
section
variable {P : Program} {w : World} {K : PySem.W.Frag} {mg : Str → Option Value} {base : Heap} {f f1 f2 f3 f4 f5 f6 C CN : Addr} {fd fd1 fd2 fd3 fd4 fd5 fd6 : FuncData}
theorem scMixTakes : FnScope ["self"] ["self"] (defScope sMixTakes) := ⟨rfl, rfl, rfl, by decide +kernel, rfl, by decide +kernel, by decide +kernel⟩
theorem ok_mixTakes (F : FnM K "takes" "Mix.takes" sMixTakes f fd) (T : NodeC K C) (nMany : NoAttr K C "many") : FnOk P w K mg base CX0 1 f fd ["self"] (spPTakes (mixM K C)) := by
  refine F.ok scMixTakes (fun vs H Q E h => ?_) (fun cdv A outer s H vs Q E hr h => ?_)
  · obtain ⟨i, rfl, _⟩ := h
    rfl
  · obtain ⟨⟨nd, wk⟩, rfl, ⟨fs, o, e, ⟨dx, hi⟩, c, ok⟩, k⟩ := h
    cases wk with
    | mix m =>
      cases e
      have ok : 1 ≤ m ∧ m ≤ 8 := ok
      refine ⟨_, PSs.nox (pss_one (ps_ret (pe_op op_timesS (pe_tup (pa_cons pe_int pa_nil)) (pe_fld (pv 0) rfl)))), ?_⟩
      refine ⟨(by show 1 ≤ sizeLine; decide), fun t ht => ?_⟩
      have s1 := Same.new (o := .tup [V.int 1]) (Same.refl H) ht
      refine ⟨_, rfl, nd, C, dx, _, _, rfl, s1 _ _ hi, T.cl, nMany, c.fld _ _ rfl, t, m, _, rfl, rfl, .inl (.inl upd_same), by simp, by omega, by decide, fun q H1 s2 hq => ?_⟩
      rw [flat_ones] at hq
      exact k q H1 (s1.trans s2) hq
    | _ => cases e
theorem scMixInit : FnScope ["self", "many", "late", "begin"] ["self", "many", "late", "begin"] (defScope sMixInit) := ⟨rfl, rfl, rfl, by decide +kernel, rfl, by decide +kernel, by decide +kernel⟩
theorem ok_mixInit {dvs : List V} {kws : List (Str × V)} (F : FunD K "__init__" "Mix.__init__" (defArgs sMixInit) (defBody sMixInit) (defScope sMixInit) dvs kws f fd) (GN : FnOk P w K mg base CX0 1 f1 fd1 ["holds", "field"] spNeed) (gN : mg "need" = some (.ref f1)) (kN : PySem.W.keepIn K (.ref f1) = true) (bN : Binds K fd1 ["holds", "field"] [])
    (GW : FnOk P w K mg base CX0 2 f2 fd2 ["thing", "least", "most"] (spWithin K)) (gW : mg "is_whole_within" = some (.ref f2)) (kW : PySem.W.keepIn K (.ref f2) = true) (bW : Binds K fd2 ["thing", "least", "most"] [])
    (GB : FnOk P w K mg base CX0 3 f3 fd3 ["self", "arguments", "late", "begin"] (spNodeInit K C)) (gB : mg "Node" = some (.ref CN)) (mB : BaseM K CN "__init__" f3) (bB : Binds K fd3 ["self", "arguments", "late", "begin"] [])
    (gMost : ∃ t, mg "MOST_MIXED" = some (.int 8 t)) (T : NodeC K C) (nMany : NoAttr K C "many") : FnOk P w K mg base CX0 4 f fd ["self", "many", "late", "begin"] (spMixInit K C) := by
  obtain ⟨tM, gM⟩ := gMost
  refine F.ok scMixInit (fun vs H Q E h => ?_) (fun cdv A outer s H vs Q E hr h => ?_)
  · obtain ⟨p, dx, m, l, b, rfl, _⟩ := h
    rfl
  · obtain ⟨p, dx, m, l, b, rfl, hp, hm, hl, hb, k⟩ := h
    have hr1 : Room 1 _ := hr.mono (by decide)
    have hr2 : Room 2 _ := hr.mono (by decide)
    refine ⟨_, PSs.nox (pss_cons (ps_expr (pe_call GN hr1 rfl gN kN bN .nil pass0 (pa_cons (pe_call GW hr2 rfl gW kW bW .nil pass0 (pa_cons (pv 1) (pa_cons pe_int (pa_cons (pe_glob (v := .int 8) rfl gM ⟨_, rfl⟩) pa_nil)))) (pa_cons pe_str pa_nil))))
      (pss_cons (ps_expr (pe_base (pe_glob (v := .ref CN) rfl gB rfl) mB GB hr bB .nil pass0 (pa_cons (pv 0) (pa_cons (pe_tup (pa_cons (pv 1) pa_nil)) (pa_cons (pv 2) (pa_cons (pv 3) pa_nil))))))
      (pss_one (ps_fld (pv 0) (pv 1) rfl)))), ?_⟩
    refine ⟨_, rfl, _, 1, 8, rfl, .inl ⟨m, rfl, ?_⟩⟩
    rw [show decide ((1 : Int) ≤ (m : Int) ∧ (m : Int) ≤ 8) = true from decide_eq_true (by omega)]
    refine ⟨_, rfl, ?_⟩
    refine ⟨rfl, _, rfl, _, rfl, (by show 1 ≤ sizeLine; decide), fun t ht => ?_⟩
    have hp1 := Same.new (o := .tup [V.int (m : Int)]) (Same.refl _) ht _ _ hp
    refine ⟨_, rfl, _, rfl, p, t, dx, [], [.int (m : Int)], l, b, rfl, hp1, .inl (.inl upd_same), hl, hb, by decide, by show 1 ≤ 1000; decide, fun tm htm => ?_⟩
    have ln := nodeF_le tm l b []
    have l0 : ([] : List (Str × V)).length = 0 := rfl
    refine ⟨_, rfl, _, rfl, p, C, dx, _, rfl, upd_same, T.cl, nMany, by omega, ?_⟩
    rw [upd_upd]
    exact k _ _ ((plFs_mk tm l b).put "many" m (by decide +kernel)) (Kept.upd (Kept.new (Kept.new Kept.refl ht) htm)) upd_same
theorem scShareInit : FnScope ["self", "by", "late", "begin"] ["self", "by", "late", "begin"] (defScope sShareInit) := ⟨rfl, rfl, rfl, by decide +kernel, rfl, by decide +kernel, by decide +kernel⟩
theorem ok_shareInit {dvs : List V} {kws : List (Str × V)} (F : FunD K "__init__" "Share.__init__" (defArgs sShareInit) (defBody sShareInit) (defScope sShareInit) dvs kws f fd) (GN : FnOk P w K mg base CX0 1 f1 fd1 ["holds", "field"] spNeed) (gN : mg "need" = some (.ref f1)) (kN : PySem.W.keepIn K (.ref f1) = true) (bN : Binds K fd1 ["holds", "field"] [])
    (GI : FnOk P w K mg base CX0 1 f2 fd2 ["thing"] (spWhole K)) (gI : mg "is_whole" = some (.ref f2)) (kI : PySem.W.keepIn K (.ref f2) = true) (bI : Binds K fd2 ["thing"] [])
    (GB : FnOk P w K mg base CX0 3 f3 fd3 ["self", "arguments", "late", "begin"] (spNodeInit K C)) (gB : mg "Node" = some (.ref CN)) (mB : BaseM K CN "__init__" f3) (bB : Binds K fd3 ["self", "arguments", "late", "begin"] [])
    (T : NodeC K C) (nBy : NoAttr K C "by") : FnOk P w K mg base CX0 4 f fd ["self", "by", "late", "begin"] (spShareInit K C) := by
  refine F.ok scShareInit (fun vs H Q E h => ?_) (fun cdv A outer s H vs Q E hr h => ?_)
  · obtain ⟨p, dx, y, l, b, rfl, _⟩ := h
    rfl
  · obtain ⟨p, dx, y, l, b, rfl, hp, hy, hl, hb, k⟩ := h
    have hr1 : Room 1 _ := hr.mono (by decide)
    refine ⟨_, PSs.nox (pss_cons (ps_expr (pe_call GN hr1 rfl gN kN bN .nil pass0 (pa_cons (pe_and (pe_call GI hr1 rfl gI kI bI .nil pass0 (pa_cons (pv 1) pa_nil)) (pe_one (pe_cmpR op_gt (pv 1) pe_int (nomark _)))) (pa_cons pe_str pa_nil))))
      (pss_cons (ps_expr (pe_base (pe_glob (v := .ref CN) rfl gB rfl) mB GB hr bB .nil pass0 (pa_cons (pv 0) (pa_cons (pe_tup (pa_cons (pv 1) pa_nil)) (pa_cons (pv 2) (pa_cons (pv 3) pa_nil))))))
      (pss_one (ps_fld (pv 0) (pv 1) rfl)))), ?_⟩
    refine ⟨_, rfl, _, rfl, .inl ⟨y, rfl, _, rfl, iteT ?_⟩⟩
    refine ⟨_, rfl, _, _, rfl, rfl, .str "by", ?_, ?_⟩
    · show [V.bl (decide (0 < y)), V.str "by"] ++ [] = _
      rw [decide_eq_true hy]
      rfl
    refine ⟨rfl, _, rfl, _, rfl, (by show 1 ≤ sizeLine; decide), fun t ht => ?_⟩
    have hp1 := Same.new (o := .tup [V.int y]) (Same.refl _) ht _ _ hp
    refine ⟨_, rfl, _, rfl, p, t, dx, [], [.int y], l, b, rfl, hp1, .inl (.inl upd_same), hl, hb, by decide, by show 1 ≤ 1000; decide, fun tm htm => ?_⟩
    have ln := nodeF_le tm l b []
    have l0 : ([] : List (Str × V)).length = 0 := rfl
    refine ⟨_, rfl, _, rfl, p, C, dx, _, rfl, upd_same, T.cl, nBy, by omega, ?_⟩
    rw [upd_upd]
    exact k _ _ ((plFs_mk tm l b).put "by" y (by decide +kernel)) (Kept.upd (Kept.new (Kept.new Kept.refl ht) htm)) upd_same
theorem scClipInit : FnScope ["self", "low", "high", "late", "begin"] ["self", "low", "high", "late", "begin"] (defScope sClipInit) := ⟨rfl, rfl, rfl, by decide +kernel, rfl, by decide +kernel, by decide +kernel⟩
theorem ok_clipInit {dvs : List V} {kws : List (Str × V)} (F : FunD K "__init__" "Clip.__init__" (defArgs sClipInit) (defBody sClipInit) (defScope sClipInit) dvs kws f fd) (GN : FnOk P w K mg base CX0 1 f1 fd1 ["holds", "field"] spNeed) (gN : mg "need" = some (.ref f1)) (kN : PySem.W.keepIn K (.ref f1) = true) (bN : Binds K fd1 ["holds", "field"] [])
    (GI : FnOk P w K mg base CX0 1 f2 fd2 ["thing"] (spWhole K)) (gI : mg "is_whole" = some (.ref f2)) (kI : PySem.W.keepIn K (.ref f2) = true) (bI : Binds K fd2 ["thing"] [])
    (GB : FnOk P w K mg base CX0 3 f3 fd3 ["self", "arguments", "late", "begin"] (spNodeInit K C)) (gB : mg "Node" = some (.ref CN)) (mB : BaseM K CN "__init__" f3) (bB : Binds K fd3 ["self", "arguments", "late", "begin"] [])
    (T : NodeC K C) (nLo : NoAttr K C "low") (nHi : NoAttr K C "high") : FnOk P w K mg base CX0 4 f fd ["self", "low", "high", "late", "begin"] (spClipInit K C) := by
  refine F.ok scClipInit (fun vs H Q E h => ?_) (fun cdv A outer s H vs Q E hr h => ?_)
  · obtain ⟨p, dx, lo, hi, l, b, rfl, _⟩ := h
    rfl
  · obtain ⟨p, dx, lo, hi, l, b, rfl, hp, hy, hl, hb, k⟩ := h
    have hr1 : Room 1 _ := hr.mono (by decide)
    refine ⟨_, PSs.nox (pss_cons (ps_expr (pe_call GN hr1 rfl gN kN bN .nil pass0 (pa_cons (pe_call GI hr1 rfl gI kI bI .nil pass0 (pa_cons (pv 1) pa_nil)) (pa_cons pe_str pa_nil))))
      (pss_cons (ps_expr (pe_call GN hr1 rfl gN kN bN .nil pass0 (pa_cons (pe_and (pe_call GI hr1 rfl gI kI bI .nil pass0 (pa_cons (pv 2) pa_nil)) (pe_one (pe_cmpR op_le (pv 1) (pv 2) (nomark _)))) (pa_cons pe_str pa_nil))))
      (pss_cons (ps_expr (pe_base (pe_glob (v := .ref CN) rfl gB rfl) mB GB hr bB .nil pass0 (pa_cons (pv 0) (pa_cons (pe_tup (pa_cons (pv 1) (pa_cons (pv 2) pa_nil))) (pa_cons (pv 3) (pa_cons (pv 4) pa_nil))))))
      (pss_cons (ps_fld (pv 0) (pv 1) rfl) (pss_one (ps_fld (pv 0) (pv 2) rfl)))))), ?_⟩
    refine ⟨_, rfl, _, rfl, .inl ⟨lo, rfl, _, rfl, ?_⟩⟩
    refine ⟨_, rfl, _, rfl, .inl ⟨hi, rfl, _, rfl, iteT ?_⟩⟩
    refine ⟨_, rfl, _, rfl, _, _, rfl, rfl, .str "high", ?_, ?_⟩
    · show [V.bl (decide (lo ≤ hi)), V.str "high"] ++ [] = _
      rw [decide_eq_true hy]
      rfl
    refine ⟨rfl, _, rfl, _, rfl, _, rfl, (by show 2 ≤ sizeLine; decide), fun t ht => ?_⟩
    have hp1 := Same.new (o := .tup [V.int lo, V.int hi]) (Same.refl _) ht _ _ hp
    refine ⟨_, rfl, _, rfl, p, t, dx, [], [.int lo, .int hi], l, b, rfl, hp1, .inl (.inl upd_same), hl, hb, by decide, by show 2 ≤ 1000; decide, fun tm htm => ?_⟩
    have ln := nodeF_le tm l b []
    have l0 : ([] : List (Str × V)).length = 0 := rfl
    have l1 := putF_le "low" (.int lo) (nodeF tm l b [])
    refine ⟨_, rfl, _, rfl, p, C, dx, _, rfl, upd_same, T.cl, nLo, by omega, ?_⟩
    refine ⟨_, rfl, _, rfl, p, C, dx, _, rfl, upd_same, T.cl, nHi, by omega, ?_⟩
    rw [upd_upd, upd_upd]
    exact k _ _ (((plFs_mk tm l b).put "low" lo (by decide +kernel)).put "high" hi (by decide +kernel)) (Kept.upd (Kept.new (Kept.new Kept.refl ht) htm)) upd_same
theorem scTimesWork : FnScope ["self", "kept", "rows"] ["self", "kept", "rows"] (defScope sTimesWork) := ⟨rfl, rfl, rfl, by decide +kernel, rfl, by decide +kernel, by decide +kernel⟩
theorem ok_timesWork (F : FnM K "work" "Times.work" sTimesWork f fd) : FnOk P w K mg base CX0 1 f fd ["self", "kept", "rows"] (spPWork (timesM K C)) := by
  refine F.ok scTimesWork (fun vs H Q E h => ?_) (fun cdv A outer s H vs Q E hr h => ?_)
  · obtain ⟨i, row, r, rfl, _⟩ := h
    rfl
  · obtain ⟨⟨nd, wk⟩, row, r, rfl, ⟨fs, o, e, ⟨dx, hi⟩, c, ok⟩, hrow, hm, nums, k⟩ := h
    cases wk <;> first | cases e | skip
    have fin : ∀ {G : Hp} {x : Int} {l t : Addr}, Same H G → x = dueW .times row → G l = none → (upd G l (.lst [V.int x])) t = none → Q (.ref t) (upd (upd G l (.lst [V.int x])) t (.tup [V.non, V.ref l])) := fun {G x l t} sg ex hl ht => by
      subst ex
      exact k t l _ (sg.trans (Same.new (Same.new (Same.refl _) hl) ht)) (sg.free hl) (.inl (.inl upd_same)) (Same.new (Same.refl _) ht _ _ upd_same)
    have hm : row.length = 2 := hm
    obtain ⟨rs, r0, q1, q2, q3⟩ := row_head hrow (by omega)
    obtain ⟨rs2, r1, p1, p2, p3⟩ := row_next hrow (by omega)
    have e0 : row.headD 0 = row.getD 0 0 := by cases row <;> rfl
    have n0 : Num (row.headD 0) := by
      match row, hm with
      | [x, y], _ => exact nums x List.mem_cons_self
    have n1 : Num (row.getD 1 0) := by
      match row, hm with
      | [x, y], _ => exact nums y (List.mem_cons_of_mem _ List.mem_cons_self)
    refine ⟨_, PSs.nox (pss_one (ps_ret (pe_tup (pa_cons (pv 1) (pa_cons (pe_lst (pa_cons (pe_op op_mulW (pe_ix ix_list (pe_ix ix_list (pv 2) pe_int (fun _ _ => rfl)) pe_int (fun _ _ => rfl)) (pe_ix ix_list (pe_ix ix_list (pv 2) pe_int (fun _ _ => rfl)) pe_int (fun _ _ => rfl))) pa_nil)) pa_nil))))), ?_⟩
    refine ⟨_, rfl, _, rfl, r, _, _, _, rfl, rfl, SqL.of q1, atI_nat (j := 0) q2, r0, _, _, _, rfl, rfl, SqL.of q3, atI_nat (j := 0) rfl, _, rfl, r, _, _, _, rfl, rfl, SqL.of p1, atI_nat (j := 1) p2, r1, _, _, _, rfl, rfl, SqL.of p3, atI_nat (j := 0) rfl, _, _, rfl, rfl, n0.mul n1, ?_⟩
    exact ⟨(by show 1 ≤ sizeLine; decide), fun l hl => ⟨(by show 2 ≤ sizeLine; decide), fun t ht => fin (Same.refl _) (by rw [e0]; rfl) hl ht⟩⟩
theorem scClipWork : FnScope ["self", "kept", "rows"] ["self", "kept", "rows"] (defScope sClipWork) := ⟨rfl, rfl, rfl, by decide +kernel, rfl, by decide +kernel, by decide +kernel⟩
theorem ok_clipWork (F : FnM K "work" "Clip.work" sClipWork f fd) (T : NodeC K C) (nLo : NoAttr K C "low") (nHi : NoAttr K C "high") (gMax : mg "max" = none) (gMin : mg "min" = none) : FnOk P w K mg base CX0 1 f fd ["self", "kept", "rows"] (spPWork (clipM K C)) := by
  refine F.ok scClipWork (fun vs H Q E h => ?_) (fun cdv A outer s H vs Q E hr h => ?_)
  · obtain ⟨i, row, r, rfl, _⟩ := h
    rfl
  · obtain ⟨⟨nd, wk⟩, row, r, rfl, ⟨fs, o, e, ⟨dx, hi⟩, c, ok⟩, hrow, hm, nums, k⟩ := h
    cases wk <;> first | cases e | skip
    rename_i lo up
    have fin : ∀ {G : Hp} {x : Int} {l t : Addr}, Same H G → x = dueW (.clip lo up) row → G l = none → (upd G l (.lst [V.int x])) t = none → Q (.ref t) (upd (upd G l (.lst [V.int x])) t (.tup [V.non, V.ref l])) := fun {G x l t} sg ex hl ht => by
      subst ex
      exact k t l _ (sg.trans (Same.new (Same.new (Same.refl _) hl) ht)) (sg.free hl) (.inl (.inl upd_same)) (Same.new (Same.refl _) ht _ _ upd_same)
    have hm : row.length = 1 := hm
    obtain ⟨rs, r0, q1, q2, q3⟩ := row_head hrow (by omega)
    refine ⟨_, PSs.nox (pss_one (ps_ret (pe_tup (pa_cons (pv 1) (pa_cons (pe_lst (pa_cons (pe_callB (call_max2 rfl) (by rfl) gMax (by decide +kernel) (pa_cons (pe_fld (pv 0) rfl) (pa_cons (pe_callB (call_min2 rfl) (by rfl) gMin (by decide +kernel) (pa_cons (pe_fld (pv 0) rfl) (pa_cons (pe_ix ix_list (pe_ix ix_list (pv 2) pe_int (fun _ _ => rfl)) pe_int (fun _ _ => rfl)) pa_nil))) pa_nil))) pa_nil)) pa_nil))))), ?_⟩
    refine ⟨_, rfl, _, rfl, nd, C, dx, _, _, rfl, hi, T.cl, nLo, c.fld _ _ rfl, _, rfl, nd, C, dx, _, _, rfl, hi, T.cl, nHi, c.fld _ _ rfl, _, rfl, r, _, _, _, rfl, rfl, SqL.of q1, atI_nat (j := 0) q2, r0, _, _, _, rfl, rfl, SqL.of q3, atI_nat (j := 0) rfl, _, _, rfl, _, _, rfl, ?_⟩
    exact ⟨(by show 1 ≤ sizeLine; decide), fun l hl => ⟨(by show 2 ≤ sizeLine; decide), fun t ht => fin (Same.refl _) rfl hl ht⟩⟩
theorem scShareWork : FnScope ["self", "kept", "rows"] ["self", "kept", "rows"] (defScope sShareWork) := ⟨rfl, rfl, rfl, by decide +kernel, rfl, by decide +kernel, by decide +kernel⟩
theorem ok_shareWork (F : FnM K "work" "Share.work" sShareWork f fd) (T : NodeC K C) (nBy : NoAttr K C "by") : FnOk P w K mg base CX0 1 f fd ["self", "kept", "rows"] (spPWork (shareM K C)) := by
  refine F.ok scShareWork (fun vs H Q E h => ?_) (fun cdv A outer s H vs Q E hr h => ?_)
  · obtain ⟨i, row, r, rfl, _⟩ := h
    rfl
  · obtain ⟨⟨nd, wk⟩, row, r, rfl, ⟨fs, o, e, ⟨dx, hi⟩, c, ok⟩, hrow, hm, nums, k⟩ := h
    cases wk <;> first | cases e | skip
    rename_i y
    have fin : ∀ {G : Hp} {x : Int} {l t : Addr}, Same H G → x = dueW (.share y) row → G l = none → (upd G l (.lst [V.int x])) t = none → Q (.ref t) (upd (upd G l (.lst [V.int x])) t (.tup [V.non, V.ref l])) := fun {G x l t} sg ex hl ht => by
      subst ex
      exact k t l _ (sg.trans (Same.new (Same.new (Same.refl _) hl) ht)) (sg.free hl) (.inl (.inl upd_same)) (Same.new (Same.refl _) ht _ _ upd_same)
    have hm : row.length = 1 := hm
    have ok : 0 < y ∧ y ≤ 10 ^ 56 := ok
    obtain ⟨rs, r0, q1, q2, q3⟩ := row_head hrow (by omega)
    refine ⟨_, PSs.nox (pss_one (ps_ret (pe_tup (pa_cons (pv 1) (pa_cons (pe_lst (pa_cons (pe_op op_fdivW (pe_ix ix_list (pe_ix ix_list (pv 2) pe_int (fun _ _ => rfl)) pe_int (fun _ _ => rfl)) (pe_fld (pv 0) rfl)) pa_nil)) pa_nil))))), ?_⟩
    refine ⟨_, rfl, _, rfl, r, _, _, _, rfl, rfl, SqL.of q1, atI_nat (j := 0) q2, r0, _, _, _, rfl, rfl, SqL.of q3, atI_nat (j := 0) rfl, _, rfl, nd, C, dx, _, _, rfl, hi, T.cl, nBy, c.fld _ _ rfl, _, _, rfl, rfl, ⟨ok.1, ?_⟩, ?_⟩
    · exact Nat.lt_of_lt_of_le (log2_of (i := y) (b := 200) (by omega) (by decide) (by decide)) (by decide)
    exact ⟨(by show 1 ≤ sizeLine; decide), fun l hl => ⟨(by show 2 ≤ sizeLine; decide), fun t ht => fin (Same.refl _) rfl hl ht⟩⟩
theorem scChooseWork : FnScope ["self", "kept", "rows", "chosen"] ["self", "kept", "rows"] (defScope sChooseWork) := ⟨rfl, rfl, rfl, by decide +kernel, rfl, by decide +kernel, by decide +kernel⟩
theorem ok_chooseWork (F : FnM K "work" "Choose.work" sChooseWork f fd) : FnOk P w K mg base CX0 1 f fd ["self", "kept", "rows"] (spPWork (chooseM K C)) := by
  refine F.ok scChooseWork (fun vs H Q E h => ?_) (fun cdv A outer s H vs Q E hr h => ?_)
  · obtain ⟨i, row, r, rfl, _⟩ := h
    rfl
  · obtain ⟨⟨nd, wk⟩, row, r, rfl, ⟨fs, o, e, ⟨dx, hi⟩, c, ok⟩, hrow, hm, nums, k⟩ := h
    cases wk <;> first | cases e | skip
    have fin : ∀ {G : Hp} {x : Int} {l t : Addr}, Same H G → x = dueW .choose row → G l = none → (upd G l (.lst [V.int x])) t = none → Q (.ref t) (upd (upd G l (.lst [V.int x])) t (.tup [V.non, V.ref l])) := fun {G x l t} sg ex hl ht => by
      subst ex
      exact k t l _ (sg.trans (Same.new (Same.new (Same.refl _) hl) ht)) (sg.free hl) (.inl (.inl upd_same)) (Same.new (Same.refl _) ht _ _ upd_same)
    have hm : row.length = 3 := hm
    obtain ⟨rs, r0, q1, q2, q3⟩ := row_head hrow (by omega)
    obtain ⟨rs2, r1, p1, p2, p3⟩ := row_next hrow (by omega)
    obtain ⟨rs3, r2, u1, u2, u3⟩ := row_third hrow (by omega)
    refine ⟨_, PSs.nox (pss_cons (ps_set (i := 3) scChooseWork.nd rfl (Or.inl rfl) (pe_ifExp (pt_cmpR op_gt (pe_ix ix_list (pe_ix ix_list (pv 2) pe_int (fun _ _ => rfl)) pe_int (fun _ _ => rfl)) pe_int (nomark _)) pe_int pe_int))
      (pss_one (ps_ret (pe_tup (pa_cons (pv 1) (pa_cons (pe_lst (pa_cons (pe_ix ix_list (pe_ix ix_list (pv 2) (pv 3) (fun _ _ => rfl)) pe_int (fun _ _ => rfl)) pa_nil)) pa_nil)))))), ?_⟩
    refine ⟨_, rfl, r, _, _, _, rfl, rfl, SqL.of q1, atI_nat (j := 0) q2, r0, _, _, _, rfl, rfl, SqL.of q3, atI_nat (j := 0) rfl, _, _, rfl, rfl, _, rfl, ?_⟩
    refine ite2 (fun z => ?_) (fun z => ?_)
    · refine ⟨_, rfl, _, rfl, _, rfl, r, _, _, _, rfl, rfl, SqL.of p1, atI_nat (j := 1) p2, r1, _, _, _, rfl, rfl, SqL.of p3, atI_nat (j := 0) rfl, ?_⟩
      exact ⟨(by show 1 ≤ sizeLine; decide), fun l hl => ⟨(by show 2 ≤ sizeLine; decide), fun t ht => fin (Same.refl _) (by show _ = if 0 < row.headD 0 then _ else _; rw [if_pos (of_decide_eq_true z)]) hl ht⟩⟩
    · refine ⟨_, rfl, _, rfl, _, rfl, r, _, _, _, rfl, rfl, SqL.of u1, atI_nat (j := 2) u2, r2, _, _, _, rfl, rfl, SqL.of u3, atI_nat (j := 0) rfl, ?_⟩
      exact ⟨(by show 1 ≤ sizeLine; decide), fun l hl => ⟨(by show 2 ≤ sizeLine; decide), fun t ht => fin (Same.refl _) (by show _ = if 0 < row.headD 0 then _ else _; rw [if_neg (of_decide_eq_false (Bool.eq_false_iff.mpr z))]) hl ht⟩⟩
end
end Sw
namespace L2
open PySem PySem.Spec PyProof.Rows
/-- what is promised for less is promised for what asks more -/
theorem FnOk.less {P : Program} {w : World} {K : PySem.W.Frag} {mg : Str → Option Value} {base : Heap} {CX : CXT} {k : Nat} {f : Addr} {fd : FuncData} {ps : List Str} {sp sp' : Sp} (F : FnOk P w K mg base CX k f fd ps sp) (h : ∀ vs H Q E, sp' vs H Q E → sp vs H Q E) : FnOk P w K mg base CX k f fd ps sp' :=
  ⟨fun vs H Q E q => F.len vs H Q E (h vs H Q E q), fun A outer s H args us vs Q E room env bind rel q => F.run A outer s H args us vs Q E room env bind rel (h vs H Q E q)⟩
end L2
namespace Sw
open PySem PySem.Spec PyProof.Rows L2
theorem take_snoc {α β : Type} {l : List α} {j : Nat} {a : α} (g : α → β) (h : l[j]? = some a) : (l.map g).take (j + 1) = (l.map g).take j ++ [g a] := by
  rw [List.take_succ, List.getElem?_map, h]
  rfl
/-! ### Gain -/
structure GI where
  nd : Addr
  by_ : Int
def gainM (K : PySem.W.Frag) (C : Addr) : Mp K C where
  ι := GI
  nd := GI.nd
  wk := fun i => .gain i.by_
  node := fun i H => ∃ fs, InsAt H i.nd C fs ∧ GainFs fs i.by_ 0 ∧ Num i.by_
  mem := fun i H v => MemAt K H v 0 i.by_ []
  ins := fun i H ⟨fs, h, c, _⟩ => ⟨fs, h, fun m hm => by
    have : m = "takes" ∨ m = "gives" ∨ m = "fresh" ∨ m = "fire" ∨ m = "work" := by simpa using hm
    rcases this with rfl | rfl | rfl | rfl | rfl
    all_goals exact c.no _ (by decide +kernel) (by decide +kernel) (by decide +kernel) (by decide +kernel)⟩
  nodeS := fun i H H1 s ⟨fs, h, c, k⟩ => ⟨fs, h.keep s, c, k⟩
  memS := fun i H H1 v s h => MemAt.keep h s
  okw := fun i H ⟨fs, h, c, k⟩ => k
  nodeK := fun i H H1 p kp hp ⟨fs, h, c, k⟩ => ⟨fs, ins_kept kp hp h, c, k⟩
  memL := fun i H v l ys o hl ⟨q, t, cc, e, h1, h2, h3⟩ => ⟨q, t, cc, e, tup_updL hl h1, tup_updL hl h2, tup_updL hl h3⟩
section
variable {P : Program} {w : World} {K : PySem.W.Frag} {mg : Str → Option Value} {base : Heap} {f f1 f2 f3 f4 f5 f6 C CN : Addr} {fd fd1 fd2 fd3 fd4 fd5 fd6 : FuncData}
theorem scGainTakes : FnScope ["self"] ["self"] (defScope sGainTakes) := ⟨rfl, rfl, rfl, by decide +kernel, rfl, by decide +kernel, by decide +kernel⟩
theorem ok_gainTakes (F : FnM K "takes" "Gain.takes" sGainTakes f fd) : FnOk P w K mg base CX0 1 f fd ["self"] (spPTakes (gainM K C)) := by
  refine F.ok scGainTakes (fun vs H Q E h => ?_) (fun cdv A outer s H vs Q E hr h => ?_)
  · obtain ⟨i, rfl, _⟩ := h
    rfl
  · obtain ⟨i, rfl, hn, k⟩ := h
    refine ⟨_, PSs.nox (pss_one (ps_ret (pe_tup (pa_cons pe_int pa_nil)))), ?_⟩
    exact ⟨(by show 1 ≤ sizeLine; decide), fun t ht => k t _ (Same.new (Same.refl _) ht) (.inl (.inl upd_same))⟩
theorem gain_gives (F : FnM K "gives" "Gain.gives" sGainGives f fd) : FnOk P w K mg base CX0 1 f fd ["self"] (spPGives (gainM K C)) := (ok_gives (C := C) F).less fun vs H Q E h => by
  obtain ⟨i, e, ⟨fs, ⟨dx, hi⟩, _⟩, q⟩ := h
  exact ⟨_, dx, fs, e, hi, q⟩
theorem gain_fresh (F : FnM K "fresh" "Gain.fresh" sGainFresh f fd) (T : NodeC K C) (nBy : NoAttr K C "by") : FnOk P w K mg base CX0 1 f fd ["self"] (spPFresh (gainM K C)) := (ok_gainFresh F T nBy).less fun vs H Q E h => by
  obtain ⟨i, e, ⟨fs, hi, c, _⟩, q⟩ := h
  exact ⟨_, fs, i.by_, 0, e, hi, c, fun v H' s m => q v H' s m⟩
theorem gain_fire (F : FnM K "fire" "Gain.fire" sGainFire f fd) (GF : FnOk P w K mg base CX0 2 f1 fd1 ["node", "memory", "rows"] (spFiring K C (spGainWork K))) (gF : mg "run_firing" = some (.ref f1)) (kF : PySem.W.keepIn K (.ref f1) = true) (bF : Binds K fd1 ["node", "memory", "rows"] []) :
    FnOk P w K mg base CX0 3 f fd ["self", "memory", "rows"] (spPFire (gainM K C)) := (ok_gainFire F GF gF kF bF).less fun vs H Q E h => by
  obtain ⟨i, row, v, r, rfl, ⟨fs, hi, c, nb⟩, ⟨q, t, cc, rfl, m1, m2, m3⟩, ⟨_, rs, hr0, hal⟩, hm, nums, kk⟩ := h
  have hm : row.length = 1 := hm
  obtain ⟨x, rfl⟩ : ∃ x, row = [x] := match row, hm with | [x], _ => ⟨x, rfl⟩
  obtain ⟨r0, rfl⟩ : ∃ r0, rs = [r0] := match rs, hal.len with | [r0], _ => ⟨r0, rfl⟩
  refine ⟨GI.nd i, q, fs, 0, .ref t, .ref r, rfl, hi, c.no _ (by decide +kernel) (by decide +kernel) (by decide +kernel) (by decide +kernel), c.no _ (by decide +kernel) (by decide +kernel) (by decide +kernel) (by decide +kernel), m1, .inr ⟨by decide, ?_⟩⟩
  refine ⟨_, t, cc, r, r0, GI.by_ i, x, [], rfl, m2, m3, SqL.of hr0, SqL.of hal.1.2, nums x List.mem_cons_self, nb, by decide, fun z t' c' l H1 s1 hz ht hc fr hl => ?_⟩
  refine ⟨z, _, _, rfl, s1, hz, fun t2 t3 H2 s2 _ h2 h3 => ?_⟩
  exact kk t2 l (.ref t3) H2 (s1.trans s2) fr h2 ⟨t3, t', c', rfl, .inl (.inl h3), Same.tup s2 ht, Same.tup s2 hc⟩ (s2 _ _ hl)
/-! ### Mix -/
theorem scMixWork : FnScope ["self", "kept", "rows", "row"] ["self", "kept", "rows"] (defScope sMixWork) := ⟨rfl, rfl, rfl, by decide +kernel, rfl, by decide +kernel, by decide +kernel⟩
theorem ok_mixWork (F : FnM K "work" "Mix.work" sMixWork f fd) (gSum : mg "sum" = none) : FnOk P w K mg base CX0 1 f fd ["self", "kept", "rows"] (spPWork (mixM K C)) := by
  refine F.ok scMixWork (fun vs H Q E h => ?_) (fun cdv A outer s H vs Q E hr h => ?_)
  · obtain ⟨i, row, r, rfl, _⟩ := h
    rfl
  · obtain ⟨⟨nd0, wk⟩, row, r, rfl, ⟨fs, o, e, ⟨dx, hi⟩, c, ok⟩, hrow, hm, nums, k⟩ := h
    cases wk <;> first | cases e | skip
    rename_i m
    have hm : row.length = m := hm
    have ok : 1 ≤ m ∧ m ≤ 8 := ok
    have fin : ∀ {G : Hp} {x : Int} {l t : Addr}, Same H G → x = dueW (.mix m) row → G l = none → (upd G l (.lst [V.int x])) t = none → Q (.ref t) (upd (upd G l (.lst [V.int x])) t (.tup [V.non, V.ref l])) := fun {G x l t} sg ex hl ht => by
      subst ex
      exact k t l _ (sg.trans (Same.new (Same.new (Same.refl _) hl) ht)) (sg.free hl) (.inl (.inl upd_same)) (Same.new (Same.refl _) ht _ _ upd_same)
    have nd := scMixWork.nd
    obtain ⟨_, rs, hr0, al⟩ := hrow
    refine ⟨_, PSs.nox (pss_one (ps_ret (pe_tup (pa_cons (pv 1) (pa_cons (pe_lst (pa_cons (pe_callB (cr_sum rfl) (by rfl) gSum (by decide +kernel) (pa_cons
        (pe_lc (own := [("row", 3)]) (g := gName 3) (tt := tYes) rfl nd (pi_list (pv 2)) (blkOk_by (N := ["self", "kept", "rows", "row"]) (sc := defScope sMixWork) (by decide +kernel))
          (fun _ _ _ _ _ => pg_name (i := 3) nd rfl (Or.inl rfl)) (fun _ _ _ _ _ => pts_nil) (fun _ _ _ _ _ => pe_ix (ix_listK (K := K) rfl) (pv 3) pe_int (fun _ _ => rfl))) pa_nil)) pa_nil)) pa_nil))))), ?_⟩
    refine ⟨_, rfl, _, rfl, r, rfl, ⟨_, SqL.of hr0⟩, fun D hD => ?_⟩
    refine lc_list (fun j H' => H' D = some (.lst ((row.take j).map V.int)) ∧ Same H H') ⟨upd_same, Same.past (Same.refl _) hD⟩ (fun j H' _ e => SqL.of (e.2 _ _ hr0)) (fun j v H' ev e => ?_) (fun H' e => ?_)
    · obtain ⟨hd, s1⟩ := e
      rw [List.getElem?_map] at ev
      obtain ⟨e0, ee, rfl⟩ := Option.map_eq_some_iff.mp ev
      obtain ⟨x, er, hx⟩ := al.get ee
      refine ⟨rfl, ?_⟩
      unfold tYes
      refine iteT ?_
      refine ⟨_, rfl, e0, _, _, _, rfl, rfl, SqL.of (s1 _ _ hx.2), atI_nat (j := 0) rfl, _, hd, ?_, ?_, Same.past s1 hD⟩
      · rw [List.length_map, List.length_take]
        exact Nat.lt_of_le_of_lt (show _ ≤ 8 by omega) (by decide)
      · rw [List.take_succ, er, List.map_append]
        exact upd_same
    · obtain ⟨hd, s1⟩ := e
      rw [List.take_of_length_le (by rw [List.length_map, al.len]; exact Nat.le_refl _)] at hd
      refine ⟨D, _, rfl, SqL.of hd, ?_⟩
      exact ⟨(by show 1 ≤ sizeLine; decide), fun l hl => ⟨(by show 2 ≤ sizeLine; decide), fun t ht => fin s1 rfl hl ht⟩⟩
end
end Sw
namespace Sw
open PySem PySem.Spec PyProof.Rows L2
def wordW : Wk → Str
  | .gain _ => "gain"
  | .mix _ => "mix"
  | .times => "times"
  | .clip _ _ => "clip"
  | .share _ => "share"
  | .choose => "choose"
def OwnAt (K : PySem.W.Frag) (H : Hp) : Wk → V → Prop
  | .gain b, v => v = .int b
  | .mix m, v => v = .int (m : Int)
  | .times, v => v = .int 0
  | .clip lo hi, v => ∃ q, v = .ref q ∧ SqT K H q [.int lo, .int hi]
  | .share b, v => v = .int b
  | .choose, v => v = .int 0
def SpecAt (K : PySem.W.Frag) (H : Hp) (s : Addr) (wk : Wk) : Prop := ∃ (o : V) (tk : Addr), SqT K H s [.str (wordW wk), o, .ref tk] ∧ OwnAt K H wk o ∧ SqT K H tk (List.replicate (manyW wk) (.int 1))
theorem SpecAt.same {K : PySem.W.Frag} {H H1 : Hp} {s : Addr} {wk : Wk} (h : SpecAt K H s wk) (sm : Same H H1) : SpecAt K H1 s wk := by
  obtain ⟨o, tk, h1, h2, h3⟩ := h
  refine ⟨o, tk, Same.tup sm h1, ?_, Same.tup sm h3⟩
  cases wk with
  | clip lo hi =>
    obtain ⟨q, e, h⟩ := h2
    exact ⟨q, e, Same.tup sm h⟩
  | _ => exact h2
theorem SpecAt.kept {K : PySem.W.Frag} {H H1 : Hp} {s p : Addr} {wk : Wk} (h : SpecAt K H s wk) (k : Kept p H H1) (hp : PotAt H p) : SpecAt K H1 s wk := by
  obtain ⟨o, tk, h1, h2, h3⟩ := h
  refine ⟨o, tk, k.tup hp h1, ?_, k.tup hp h3⟩
  cases wk with
  | clip lo hi =>
    obtain ⟨q, e, h⟩ := h2
    exact ⟨q, e, k.tup hp h⟩
  | _ => exact h2
def spSpec (K : PySem.W.Frag) : Sp := fun vs H Q _ => ∃ p : Addr, vs = [.ref p] ∧ PotAt H p ∧ ∀ (s : Addr) (wk : Wk) (H' : Hp), Kept p H H' → PotAt H' p → SpecAt K H' s wk → okW wk → Q (.ref s) H'
section
variable {P : Program} {w : World} {K : PySem.W.Frag} {mg : Str → Option Value} {base : Heap} {f f1 f2 f3 f4 f5 f6 C CN : Addr} {fd fd1 fd2 fd3 fd4 fd5 fd6 : FuncData}
theorem scSpec : FnScope ["_law_pot_here", "_law_way", "_law_one", "_law_many"] ["_law_pot_here"] (defScope sSpec) := ⟨rfl, rfl, rfl, by decide +kernel, rfl, by decide +kernel, by decide +kernel⟩
theorem ok_spec (F : FnP K "_law_spec" sSpec f fd) (GW : FnOk P w K mg base CX0 1 f1 fd1 ["_law_pot_here", "_law_many"] spDraw) (gW : mg "_law_draw" = some (.ref f1)) (kW : PySem.W.keepIn K (.ref f1) = true) (bW : Binds K fd1 ["_law_pot_here", "_law_many"] [])
    (GU : FnOk P w K mg base CX0 2 f2 fd2 ["_law_pot_here"] spNumber) (gU : mg "_law_number" = some (.ref f2)) (kU : PySem.W.keepIn K (.ref f2) = true) (bU : Binds K fd2 ["_law_pot_here"] []) (gAbs : mg "abs" = none) : FnOk P w K mg base CX0 3 f fd ["_law_pot_here"] (spSpec K) := by
  refine F.ok scSpec (fun vs H Q E h => ?_) (fun cdv A outer s H vs Q E hr h => ?_)
  · obtain ⟨p, rfl, _⟩ := h
    rfl
  · obtain ⟨p, rfl, hp, k⟩ := h
    have hr1 : Room 1 _ := hr.mono (by decide)
    have nd := scSpec.nd
    refine ⟨_, PSs.nox (pss_cons (ps_set (i := 1) nd rfl (Or.inl rfl) (pe_call GW hr1 rfl gW kW bW .nil pass0 (pa_cons (pv 0) (pa_cons pe_int pa_nil))))
      (pss_cons (ps_set (i := 2) nd rfl (Or.inl rfl) (pe_call GU hr rfl gU kU bU .nil pass0 (pa_cons (pv 0) pa_nil)))
      (pss_cons (ps_if (pt_cmpR op_eq (pv 1) pe_int (nomark _)) (pss_one (ps_ret (pe_tup (pa_cons pe_str (pa_cons (pv 2) (pa_cons (pe_tup (pa_cons pe_int pa_nil)) pa_nil)))))) pss_nil)
      (pss_cons (ps_if (pt_cmpR op_eq (pv 1) pe_int (nomark _)) (pss_cons (ps_set (i := 3) nd rfl (Or.inl rfl) (pe_op op_add pe_int (pe_call GW hr1 rfl gW kW bW .nil pass0 (pa_cons (pv 0) (pa_cons pe_int pa_nil)))))
          (pss_one (ps_ret (pe_tup (pa_cons pe_str (pa_cons (pv 3) (pa_cons (pe_op op_timesS (pe_tup (pa_cons pe_int pa_nil)) (pv 3)) pa_nil))))))) pss_nil)
      (pss_cons (ps_if (pt_cmpR op_eq (pv 1) pe_int (nomark _)) (pss_one (ps_ret (pe_tup (pa_cons pe_str (pa_cons pe_int (pa_cons (pe_tup (pa_cons pe_int (pa_cons pe_int pa_nil))) pa_nil)))))) pss_nil)
      (pss_cons (ps_if (pt_cmpR op_eq (pv 1) pe_int (nomark _)) (pss_one (ps_ret (pe_tup (pa_cons pe_str (pa_cons (pe_tup (pa_cons (pv 2) (pa_cons (pe_op op_add (pv 2) (pe_callB call_abs (by rfl) gAbs (by decide +kernel) (pa_cons (pe_call GU hr rfl gU kU bU .nil pass0 (pa_cons (pv 0) pa_nil)) pa_nil))) pa_nil))) (pa_cons (pe_tup (pa_cons pe_int pa_nil)) pa_nil)))))) pss_nil)
      (pss_cons (ps_if (pt_cmpR op_eq (pv 1) pe_int (nomark _)) (pss_one (ps_ret (pe_tup (pa_cons pe_str (pa_cons (pe_op op_add pe_int (pe_callB call_abs (by rfl) gAbs (by decide +kernel) (pa_cons (pv 2) pa_nil))) (pa_cons (pe_tup (pa_cons pe_int pa_nil)) pa_nil)))))) pss_nil)
      (pss_one (ps_ret (pe_tup (pa_cons pe_str (pa_cons pe_int (pa_cons (pe_tup (pa_cons pe_int (pa_cons pe_int (pa_cons pe_int pa_nil)))) pa_nil)))))))))))))  , ?_⟩
    refine ⟨_, rfl, p, 6, rfl, hp, by decide, by decide, fun d H1 d0 d1 k1 hp1 => ?_⟩
    refine ⟨_, rfl, p, rfl, hp1, fun a H2 a0 a1 k2 hp2 => ?_⟩
    have kA : Kept p H H2 := k1.trans k2
    have fin : ∀ {G : Hp} {s tk : Addr} {wk : Wk} {o : V}, Kept p H G → PotAt G p → SqT K G tk (List.replicate (manyW wk) (.int 1)) → OwnAt K (upd G s (.tup [.str (wordW wk), o, .ref tk])) wk o → okW wk → G s = none → Q (.ref s) (upd G s (.tup [.str (wordW wk), o, .ref tk])) := fun {G s tk wk o} kG hG ht ho ok hs =>
      k s wk _ (kG.new hs) (hG.keep (Same.new (Same.refl _) hs)) ⟨o, tk, .inl (.inl upd_same), ho, Same.tup (Same.new (Same.refl _) hs) ht⟩ ok
    refine ⟨_, rfl, rfl, _, rfl, ?_⟩
    refine ite2 (fun h => ?_) (fun h => ?_)
    · refine ⟨_, rfl, (by show 1 ≤ sizeLine; decide), fun tk htk => ⟨(by show 3 ≤ sizeLine; decide), fun s hs => ?_⟩⟩
      exact fin (wk := .gain a) (kA.new htk) (hp2.keep (Same.new (Same.refl _) htk)) (.inl (.inl upd_same)) rfl ⟨a0, a1⟩ hs
    refine ⟨_, rfl, rfl, _, rfl, ?_⟩
    refine ite2 (fun h => ?_) (fun h => ?_)
    · refine ⟨_, rfl, p, 8, rfl, hp2, by decide, by decide, fun e H3 e0 e1 k3 hp3 => ?_⟩
      obtain ⟨m, em, m1, m8⟩ : ∃ m : Nat, 1 + e = (m : Int) ∧ 1 ≤ m ∧ m ≤ 8 := ⟨(1 + e).toNat, by omega, by omega, by omega⟩
      refine ⟨_, _, rfl, rfl, _, rfl, (by show 1 ≤ sizeLine; decide), fun t1 ht1 => ?_⟩
      have s1 := Same.new (o := .tup [V.int 1]) (Same.refl H3) ht1
      refine ⟨_, rfl, t1, m, _, rfl, congrArg V.int em, .inl (.inl upd_same), by simp, by omega, by decide, fun q H4 s2 hq => ⟨(by show 3 ≤ sizeLine; decide), fun s hs => ?_⟩⟩
      rw [flat_ones] at hq
      have kB : Kept p H H4 := (kA.trans k3).trans (Kept.same (s1.trans s2))
      exact fin (wk := .mix m) kB (hp3.keep (s1.trans s2)) hq (congrArg V.int em) ⟨m1, m8⟩ hs
    refine ⟨_, rfl, rfl, _, rfl, ?_⟩
    refine ite2 (fun h => ?_) (fun h => ?_)
    · refine ⟨(by show 2 ≤ sizeLine; decide), fun tk htk => ⟨(by show 3 ≤ sizeLine; decide), fun s hs => ?_⟩⟩
      exact fin (wk := .times) (kA.new htk) (hp2.keep (Same.new (Same.refl _) htk)) (.inl (.inl upd_same)) rfl trivial hs
    refine ⟨_, rfl, rfl, _, rfl, ?_⟩
    refine ite2 (fun h => ?_) (fun h => ?_)
    · refine ⟨_, rfl, _, rfl, _, rfl, p, rfl, hp2, fun n H3 n0 n1 k3 hp3 => ?_⟩
      refine ⟨_, rfl, _, _, rfl, rfl, (by show 2 ≤ sizeLine; decide), fun q hq => ⟨(by show 1 ≤ sizeLine; decide), fun tk htk => ⟨(by show 3 ≤ sizeLine; decide), fun s hs => ?_⟩⟩⟩
      have s1 := Same.new (o := .tup [V.int a, V.int (a + if n < 0 then -n else n)]) (Same.refl H3) hq
      have s2 := Same.new (o := .tup [V.int 1]) (Same.refl _) htk
      refine fin (wk := .clip a (a + if n < 0 then -n else n)) ((kA.trans k3).trans (Kept.same (s1.trans s2))) (hp3.keep (s1.trans s2)) (.inl (.inl upd_same)) ⟨q, rfl, .inl (.inl (Same.new (Same.refl _) hs _ _ (s2 _ _ upd_same)))⟩ ⟨⟨a0, a1⟩, ?_, ?_⟩ hs
      · split <;> omega
      · split <;> omega
    refine ⟨_, rfl, rfl, _, rfl, ?_⟩
    refine ite2 (fun h => ?_) (fun h => ?_)
    · refine ⟨_, rfl, _, rfl, _, _, rfl, rfl, (by show 1 ≤ sizeLine; decide), fun tk htk => ⟨(by show 3 ≤ sizeLine; decide), fun s hs => ?_⟩⟩
      refine fin (wk := .share (1 + if a < 0 then -a else a)) (kA.new htk) (hp2.keep (Same.new (Same.refl _) htk)) (.inl (.inl upd_same)) rfl ⟨?_, ?_⟩ hs
      · split <;> omega
      · split <;> omega
    · refine ⟨(by show 3 ≤ sizeLine; decide), fun tk htk => ⟨(by show 3 ≤ sizeLine; decide), fun s hs => ?_⟩⟩
      exact fin (wk := .choose) (kA.new htk) (hp2.keep (Same.new (Same.refl _) htk)) (.inl (.inl upd_same)) rfl trivial hs
end
end Sw
namespace Sw
open PySem PySem.Spec PyProof.Rows L2
theorem wordNe {a b : Str} (h : a ≠ b) : ¬ decide (V.str a = V.str b) = true := fun z => h (V.str.inj (of_decide_eq_true z))
theorem wordEq {a b : Str} (h : a = b) : decide (V.str a = V.str b) = true := decide_eq_true (congrArg V.str h)
structure Cs where
  g : Addr
  m : Addr
  t : Addr
  c : Addr
  s : Addr
  x : Addr
def NdW (K : PySem.W.Frag) (cs : Cs) (wk : Wk) (n : Addr) (H : Hp) : Prop := match wk with
  | .gain b => (gainM K cs.g).node ⟨n, b⟩ H
  | .mix m => (mixM K cs.m).node ⟨n, .mix m⟩ H
  | .times => (timesM K cs.t).node ⟨n, .times⟩ H
  | .clip lo hi => (clipM K cs.c).node ⟨n, .clip lo hi⟩ H
  | .share b => (shareM K cs.s).node ⟨n, .share b⟩ H
  | .choose => (chooseM K cs.x).node ⟨n, .choose⟩ H
def spMade (K : PySem.W.Frag) (cs : Cs) : Sp := fun vs H Q _ => ∃ (s : Addr) (wk : Wk), vs = [.ref s] ∧ SpecAt K H s wk ∧ okW wk ∧ ∀ (n : Addr) (H' : Hp), Same H H' → NdW K cs wk n H' → Q (.ref n) H'
section
variable {P : Program} {w : World} {K : PySem.W.Frag} {mg : Str → Option Value} {base : Heap} {f f1 f2 f3 f4 f5 f6 : Addr} {fd fd1 fd2 fd3 fd4 fd5 fd6 : FuncData} {cs : Cs}
theorem scMade : FnScope ["_law_spec_here", "_law_word", "_law_own", "_law_takes"] ["_law_spec_here"] (defScope sMade) := ⟨rfl, rfl, rfl, by decide +kernel, rfl, by decide +kernel, by decide +kernel⟩
theorem ok_made {d1 d2 d3 d4 d5 d6 : List Value} (F : FnP K "_law_made" sMade f fd)
    (M1 : Mk K cs.g f1) (G1 : FnOk P w K mg base CX0 4 f1 fd1 ["self", "by", "late", "begin"] (spGainInit K cs.g)) (g1 : mg "Gain" = some (.ref cs.g)) (b1 : Binds K fd1 ["self", "by", "late", "begin"] d1) (v1 : Vals [.int 0, .int 0] d1)
    (M2 : Mk K cs.m f2) (G2 : FnOk P w K mg base CX0 4 f2 fd2 ["self", "many", "late", "begin"] (spMixInit K cs.m)) (g2 : mg "Mix" = some (.ref cs.m)) (b2 : Binds K fd2 ["self", "many", "late", "begin"] d2) (v2 : Vals [.int 0, .int 0] d2)
    (M3 : Mk K cs.t f3) (G3 : FnOk P w K mg base CX0 4 f3 fd3 ["self", "late", "begin"] (spTimesInit K cs.t)) (g3 : mg "Times" = some (.ref cs.t)) (b3 : Binds K fd3 ["self", "late", "begin"] d3) (v3 : Vals [.int 0, .int 0] d3)
    (M4 : Mk K cs.c f4) (G4 : FnOk P w K mg base CX0 4 f4 fd4 ["self", "low", "high", "late", "begin"] (spClipInit K cs.c)) (g4 : mg "Clip" = some (.ref cs.c)) (b4 : Binds K fd4 ["self", "low", "high", "late", "begin"] d4) (v4 : Vals [.int 0, .int 0] d4)
    (M5 : Mk K cs.s f5) (G5 : FnOk P w K mg base CX0 4 f5 fd5 ["self", "by", "late", "begin"] (spShareInit K cs.s)) (g5 : mg "Share" = some (.ref cs.s)) (b5 : Binds K fd5 ["self", "by", "late", "begin"] d5) (v5 : Vals [.int 0, .int 0] d5)
    (M6 : Mk K cs.x f6) (G6 : FnOk P w K mg base CX0 4 f6 fd6 ["self", "late", "begin"] (spChooseInit K cs.x)) (g6 : mg "Choose" = some (.ref cs.x)) (b6 : Binds K fd6 ["self", "late", "begin"] d6) (v6 : Vals [.int 0, .int 0] d6) : FnOk P w K mg base CX0 6 f fd ["_law_spec_here"] (spMade K cs) := by
  refine F.ok scMade (fun vs H Q E h => ?_) (fun cdv A outer s H vs Q E hr h => ?_)
  · obtain ⟨p, wk, rfl, _⟩ := h
    rfl
  · obtain ⟨sp, wk, rfl, ⟨o, tk, h1, h2, h3⟩, ok, k⟩ := h
    have nd := scMade.nd
    refine ⟨_, PSs.nox (pss_cons (ps_asg (pv 0) (pg_tup rfl (pgs_cons (pg_name (i := 1) nd rfl (Or.inl rfl)) (pgs_cons (pg_name (i := 2) nd rfl (Or.inl rfl)) (pgs_cons (pg_name (i := 3) nd rfl (Or.inl rfl)) pgs_nil)))))
      (pss_cons (ps_if (pt_cmpR op_eq (pv 1) pe_str (nomark _)) (pss_one (ps_ret (pe_make M1 G1 hr rfl g1 b1 v1 pass0 (pa_cons (pv 2) pa_nil)))) pss_nil)
      (pss_cons (ps_if (pt_cmpR op_eq (pv 1) pe_str (nomark _)) (pss_one (ps_ret (pe_make M2 G2 hr rfl g2 b2 v2 pass0 (pa_cons (pv 2) pa_nil)))) pss_nil)
      (pss_cons (ps_if (pt_cmpR op_eq (pv 1) pe_str (nomark _)) (pss_one (ps_ret (pe_make0 M3 G3 hr rfl g3 b3 v3 pass0))) pss_nil)
      (pss_cons (ps_if (pt_cmpR op_eq (pv 1) pe_str (nomark _)) (pss_one (ps_ret (pe_make M4 G4 hr rfl g4 b4 v4 pass0 (pa_cons (pe_ix ix_tup (pv 2) pe_int (fun _ _ => rfl)) (pa_cons (pe_ix ix_tup (pv 2) pe_int (fun _ _ => rfl)) pa_nil))))) pss_nil)
      (pss_cons (ps_if (pt_cmpR op_eq (pv 1) pe_str (nomark _)) (pss_one (ps_ret (pe_make M5 G5 hr rfl g5 b5 v5 pass0 (pa_cons (pv 2) pa_nil)))) pss_nil)
      (pss_one (ps_ret (pe_make0 M6 G6 hr rfl g6 b6 v6 pass0))))))))), ?_⟩
    refine ⟨_, rfl, sp, _, rfl, h1, rfl, _, _, rfl, _, _, rfl, _, _, rfl, rfl, ?_⟩
    cases wk with
    | gain b =>
      cases h2
      refine ⟨_, rfl, rfl, _, rfl, ite2 (fun _ => ?_) (fun z => absurd (wordEq rfl) z)⟩
      refine ⟨_, rfl, fun x dx nx ndx ne => ⟨x, dx, b, 0, 0, rfl, upd_same, by decide, by decide, fun fs H2 cf k7 hx => ⟨rfl, ?_⟩⟩⟩
      exact k x _ (made_same nx ndx ne k7) ⟨fs, ⟨dx, hx⟩, cf, ok⟩
    | mix m =>
      cases h2
      refine ⟨_, rfl, rfl, _, rfl, ite2 (fun z => absurd z (wordNe (show ("mix" : Str) ≠ "gain" by decide +kernel))) (fun _ => ?_)⟩
      refine ⟨_, rfl, rfl, _, rfl, ite2 (fun _ => ?_) (fun z => absurd (wordEq rfl) z)⟩
      refine ⟨_, rfl, fun x dx nx ndx ne => ⟨x, dx, m, 0, 0, rfl, upd_same, ok, by decide, by decide, fun fs H2 cf k7 hx => ⟨rfl, ?_⟩⟩⟩
      exact k x _ (made_same nx ndx ne k7) ⟨fs, _, rfl, ⟨dx, hx⟩, cf, ok⟩
    | times =>
      cases h2
      refine ⟨_, rfl, rfl, _, rfl, ite2 (fun z => absurd z (wordNe (show ("times" : Str) ≠ "gain" by decide +kernel))) (fun _ => ?_)⟩
      refine ⟨_, rfl, rfl, _, rfl, ite2 (fun z => absurd z (wordNe (show ("times" : Str) ≠ "mix" by decide +kernel))) (fun _ => ?_)⟩
      refine ⟨_, rfl, rfl, _, rfl, ite2 (fun _ => ?_) (fun z => absurd (wordEq rfl) z)⟩
      refine fun x dx nx ndx ne => ⟨x, dx, 0, 0, rfl, upd_same, by decide, by decide, fun fs H2 cf k7 hx => ⟨rfl, ?_⟩⟩
      exact k x _ (made_same nx ndx ne k7) ⟨fs, _, rfl, ⟨dx, hx⟩, cf, ok⟩
    | clip lo hi =>
      obtain ⟨q, rfl, hq⟩ := h2
      have ok' : Num lo ∧ lo ≤ hi ∧ hi < 2 * 10 ^ 56 := ok
      refine ⟨_, rfl, rfl, _, rfl, ite2 (fun z => absurd z (wordNe (show ("clip" : Str) ≠ "gain" by decide +kernel))) (fun _ => ?_)⟩
      refine ⟨_, rfl, rfl, _, rfl, ite2 (fun z => absurd z (wordNe (show ("clip" : Str) ≠ "mix" by decide +kernel))) (fun _ => ?_)⟩
      refine ⟨_, rfl, rfl, _, rfl, ite2 (fun z => absurd z (wordNe (show ("clip" : Str) ≠ "times" by decide +kernel))) (fun _ => ?_)⟩
      refine ⟨_, rfl, rfl, _, rfl, ite2 (fun _ => ?_) (fun z => absurd (wordEq rfl) z)⟩
      refine ⟨_, rfl, q, _, _, _, rfl, rfl, hq, atI_nat (j := 0) rfl, _, rfl, q, _, _, _, rfl, rfl, hq, atI_nat (j := 1) rfl, fun x dx nx ndx ne => ⟨x, dx, lo, hi, 0, 0, rfl, upd_same, ok'.2.1, by decide, by decide, fun fs H2 cf k7 hx => ⟨rfl, ?_⟩⟩⟩
      exact k x _ (made_same nx ndx ne k7) ⟨fs, _, rfl, ⟨dx, hx⟩, cf, ok⟩
    | share b =>
      cases h2
      have ok' : 0 < b ∧ b ≤ 10 ^ 56 := ok
      refine ⟨_, rfl, rfl, _, rfl, ite2 (fun z => absurd z (wordNe (show ("share" : Str) ≠ "gain" by decide +kernel))) (fun _ => ?_)⟩
      refine ⟨_, rfl, rfl, _, rfl, ite2 (fun z => absurd z (wordNe (show ("share" : Str) ≠ "mix" by decide +kernel))) (fun _ => ?_)⟩
      refine ⟨_, rfl, rfl, _, rfl, ite2 (fun z => absurd z (wordNe (show ("share" : Str) ≠ "times" by decide +kernel))) (fun _ => ?_)⟩
      refine ⟨_, rfl, rfl, _, rfl, ite2 (fun z => absurd z (wordNe (show ("share" : Str) ≠ "clip" by decide +kernel))) (fun _ => ?_)⟩
      refine ⟨_, rfl, rfl, _, rfl, ite2 (fun _ => ?_) (fun z => absurd (wordEq rfl) z)⟩
      refine ⟨_, rfl, fun x dx nx ndx ne => ⟨x, dx, b, 0, 0, rfl, upd_same, ok'.1, by decide, by decide, fun fs H2 cf k7 hx => ⟨rfl, ?_⟩⟩⟩
      exact k x _ (made_same nx ndx ne k7) ⟨fs, _, rfl, ⟨dx, hx⟩, cf, ok⟩
    | choose =>
      cases h2
      refine ⟨_, rfl, rfl, _, rfl, ite2 (fun z => absurd z (wordNe (show ("choose" : Str) ≠ "gain" by decide +kernel))) (fun _ => ?_)⟩
      refine ⟨_, rfl, rfl, _, rfl, ite2 (fun z => absurd z (wordNe (show ("choose" : Str) ≠ "mix" by decide +kernel))) (fun _ => ?_)⟩
      refine ⟨_, rfl, rfl, _, rfl, ite2 (fun z => absurd z (wordNe (show ("choose" : Str) ≠ "times" by decide +kernel))) (fun _ => ?_)⟩
      refine ⟨_, rfl, rfl, _, rfl, ite2 (fun z => absurd z (wordNe (show ("choose" : Str) ≠ "clip" by decide +kernel))) (fun _ => ?_)⟩
      refine ⟨_, rfl, rfl, _, rfl, ite2 (fun z => absurd z (wordNe (show ("choose" : Str) ≠ "share" by decide +kernel))) (fun _ => ?_)⟩
      refine fun x dx nx ndx ne => ⟨x, dx, 0, 0, rfl, upd_same, by decide, by decide, fun fs H2 cf k7 hx => ⟨rfl, ?_⟩⟩
      exact k x _ (made_same nx ndx ne k7) ⟨fs, _, rfl, ⟨dx, hx⟩, cf, ok⟩
end
end Sw
namespace Sw
open PySem PySem.Spec PyProof.Rows L2
theorem round_pos {a b r : Int} (hb : 0 < b) (hr : r = a % b) : (a - r) / b = a / b := by
  subst hr
  have e := Int.emod_add_mul_ediv a b
  have e2 : a - a % b = b * (a / b) := by omega
  rw [e2, Int.mul_ediv_cancel_left _ (by omega)]
theorem round_exact {a b : Int} (hb : 0 < b) (h : a % b = 0) : -(a / b) = (-a) / b := by
  have e := Int.emod_add_mul_ediv a b
  rw [h, Int.zero_add] at e
  have e2 : -a = b * (-(a / b)) := by rw [Int.mul_neg, e]
  rw [e2, Int.mul_ediv_cancel_left _ (by omega)]
theorem round_down {a b : Int} (hb : 0 < b) (h : a % b ≠ 0) : -(a / b) - 1 = (-a) / b := by
  have e := Int.emod_add_mul_ediv a b
  have r0 := Int.emod_nonneg a (show b ≠ 0 by omega)
  have r1 := Int.emod_lt_of_pos a hb
  symm
  refine Int.ediv_eq_iff_of_pos hb |>.mpr ?_
  have e3 : (-(a / b) - 1) * b = -(b * (a / b)) - b := by
    rw [Int.sub_mul, Int.neg_mul, Int.one_mul, Int.mul_comm]
  constructor
  · omega
  · omega
def spRounded : Sp := fun vs H Q _ => ∃ x b : Int, vs = [.int x, .int b] ∧ Num x ∧ 0 < b ∧ b ≤ 10 ^ 56 ∧ Q (.int (x / b)) H
section
variable {P : Program} {w : World} {K : PySem.W.Frag} {mg : Str → Option Value} {base : Heap} {f f1 f2 f3 f4 f5 f6 : Addr} {fd fd1 fd2 fd3 fd4 fd5 fd6 : FuncData} {cs : Cs}
theorem scRounded : FnScope ["_law_sample", "_law_by", "_law_rest"] ["_law_sample", "_law_by"] (defScope sRounded) := ⟨rfl, rfl, rfl, by decide +kernel, rfl, by decide +kernel, by decide +kernel⟩
theorem ok_rounded (F : FnP K "_law_rounded" sRounded f fd) (gAbs : mg "abs" = none) (gInt : mg "int" = none) : FnOk P w K mg base CX0 1 f fd ["_law_sample", "_law_by"] spRounded := by
  refine F.ok scRounded (fun vs H Q E h => ?_) (fun cdv A outer s H vs Q E hr h => ?_)
  · obtain ⟨x, b, rfl, _⟩ := h
    rfl
  · obtain ⟨x, b, rfl, nx, b0, b1, k⟩ := h
    have nd := scRounded.nd
    refine ⟨_, PSs.nox (pss_cons (ps_set (i := 2) nd rfl (Or.inl rfl) (pe_op op_mod (pe_callB call_abs (by rfl) gAbs (by decide +kernel) (pa_cons (pv 0) pa_nil)) (pv 1)))
      (pss_cons (ps_if (PW.pt (pw_or (pt_cmpR op_ge (pv 0) pe_int (nomark _)) (pw_or1 (pt_cmpR op_eq (pv 2) pe_int (nomark _)))))
        (pss_one (ps_ret (pe_op op_mulW (pe_op op_fdivW (pe_op op_sub (pe_callB call_abs (by rfl) gAbs (by decide +kernel) (pa_cons (pv 0) pa_nil)) (pv 2)) (pv 1)) (pe_op op_sub pe_int (pe_op op_mul pe_int (pe_callTy call_int1 (by rfl) gInt PyProof.Rows.boot_int (pa_cons (pe_cmpR op_lt (pv 0) pe_int (nomark _)) pa_nil))))))) pss_nil)
      (pss_one (ps_ret (pe_op op_sub (pe_un un_neg (pe_op op_fdivW (pe_op op_sub (pe_callB call_abs (by rfl) gAbs (by decide +kernel) (pa_cons (pv 0) pa_nil)) (pv 2)) (pv 1))) pe_int))))), ?_⟩
    refine ⟨_, rfl, _, rfl, _, rfl, _, _, rfl, rfl, b0, ?_⟩
    have lb : CDivW x b := ⟨b0, Nat.lt_of_lt_of_le (log2_of (i := b) (b := 200) (by omega) (by decide) (by decide)) (by decide)⟩
    have big : ∀ {y z : Int}, y.natAbs ≤ x.natAbs → z.natAbs ≤ 3 → CMulW (y / b) z := fun {y z} hy hz => by
      have h1 : (y / b).natAbs ≤ y.natAbs + 1 := by
        have := Int.natAbs_ediv_le_natAbs y b
        omega
      have h2 := nx.lt
      refine wide_mul (a := 201) (b := 200) ?_ ?_ (by decide) (by decide) (by decide)
      · omega
      · omega
    obtain ⟨a, ea, na, ax⟩ : ∃ a : Int, (if x < 0 then -x else x) = a ∧ a.natAbs = x.natAbs ∧ (x < 0 ∧ a = -x ∨ 0 ≤ x ∧ a = x) := ⟨_, rfl, by split <;> omega, by split <;> omega⟩
    rw [ea]
    have q0 : (a - a % b) / b = a / b := round_pos b0 rfl
    have then_ : (0 ≤ x ∨ a % b = 0) → a / b * (1 - 2 * (if decide (x < 0) = true then 1 else 0)) = x / b := fun h => by
      rcases ax with ⟨x0, rfl⟩ | ⟨x0, rfl⟩
      · rw [if_pos (decide_eq_true x0)]
        have h0 : -x % b = 0 := h.resolve_left (by omega)
        have := round_exact b0 h0
        rw [Int.neg_neg] at this
        rw [← this]
        omega
      · rw [if_neg (fun z => absurd (of_decide_eq_true z) (by omega))]
        omega
    refine ⟨_, rfl, _, _, rfl, rfl, _, rfl, ?_⟩
    refine ite2 (fun h => iteT ?_) (fun h => ?_)
    · refine ⟨_, rfl, _, rfl, _, rfl, _, _, rfl, rfl, _, rfl, _, _, rfl, rfl, lb, _, rfl, _, _, rfl, rfl, .inr ⟨_, rfl, _, _, rfl, rfl, ?_, _, _, rfl, rfl, _, _, rfl, rfl, ?_, ?_⟩⟩
      · split
        · exact .inr ⟨by decide, by decide⟩
        · exact .inr ⟨by decide, by decide⟩
      · rw [ea, q0]
        refine big (by omega) ?_
        split <;> decide
      · show Q (.int (((if x < 0 then -x else x) - a % b) / b * (1 - 2 * (if decide (x < 0) = true then 1 else 0)))) H
        rw [ea, q0, then_ (.inl (of_decide_eq_true h))]
        exact k
    · have hx : ¬ 0 ≤ x := of_decide_eq_false (Bool.eq_false_iff.mpr h)
      refine ⟨_, rfl, rfl, _, rfl, ?_⟩
      refine ite2 (fun h2 => ?_) (fun h2 => ?_)
      · have hz : a % b = 0 := V.int.inj (of_decide_eq_true h2)
        refine ⟨_, rfl, _, rfl, _, rfl, _, _, rfl, rfl, _, rfl, _, _, rfl, rfl, lb, _, rfl, _, _, rfl, rfl, .inr ⟨_, rfl, _, _, rfl, rfl, ?_, _, _, rfl, rfl, _, _, rfl, rfl, ?_, ?_⟩⟩
        · split
          · exact .inr ⟨by decide, by decide⟩
          · exact .inr ⟨by decide, by decide⟩
        · rw [ea, q0]
          refine big (by omega) ?_
          split <;> decide
        · show Q (.int (((if x < 0 then -x else x) - a % b) / b * (1 - 2 * (if decide (x < 0) = true then 1 else 0)))) H
          rw [ea, q0, then_ (.inr hz)]
          exact k
      · have hz : a % b ≠ 0 := fun z => h2 (decide_eq_true (congrArg V.int z))
        refine ⟨_, rfl, _, rfl, _, rfl, _, _, rfl, rfl, _, rfl, _, _, rfl, rfl, lb, _, rfl, _, _, rfl, rfl, ?_⟩
        show Q (.int (-(((if x < 0 then -x else x) - a % b) / b) - 1)) H
        rw [ea, q0]
        rcases ax with ⟨_, rfl⟩ | ⟨x0, _⟩
        · rw [round_down b0 hz, Int.neg_neg]
          exact k
        · exact absurd x0 hx
end
end Sw
namespace Sw
open PySem PySem.Spec PyProof.Rows L2
theorem perm_sum {l l' : List Int} (p : l.Perm l') : l.sum = l'.sum := by
  induction p with
  | nil => rfl
  | cons x _ ih => rw [List.sum_cons, List.sum_cons, ih]
  | swap x y l => rw [List.sum_cons, List.sum_cons, List.sum_cons, List.sum_cons]; omega
  | trans _ _ a b => exact a.trans b
theorem middle {lo x hi : Int} {ns : List Int} (h : lo ≤ hi) (p : ns.Perm [lo, x, hi]) (s : ns.Pairwise (· ≤ ·)) : ∃ a c, ns = [a, dueW (.clip lo hi) [x], c] := by
  have l : ns.length = 3 := p.length_eq
  match ns, l with
  | [a, b, c], _ =>
    refine ⟨a, c, ?_⟩
    have sm : a + (b + (c + 0)) = lo + (x + (hi + 0)) := perm_sum p
    have ab : a ≤ b := by
      have := List.rel_of_pairwise_cons s (a' := b) (by simp)
      exact this
    have bc : b ≤ c := by
      have := List.rel_of_pairwise_cons (List.Pairwise.of_cons s) (a' := c) (by simp)
      exact this
    have m1 : lo = a ∨ lo = b ∨ lo = c := by simpa using p.mem_iff.mpr (show lo ∈ [lo, x, hi] by simp)
    have m2 : x = a ∨ x = b ∨ x = c := by simpa using p.mem_iff.mpr (show x ∈ [lo, x, hi] by simp)
    have m3 : hi = a ∨ hi = b ∨ hi = c := by simpa using p.mem_iff.mpr (show hi ∈ [lo, x, hi] by simp)
    have k1 : a = lo ∨ a = x ∨ a = hi := by simpa using p.mem_iff.mp (show a ∈ [a, b, c] by simp)
    have k2 : b = lo ∨ b = x ∨ b = hi := by simpa using p.mem_iff.mp (show b ∈ [a, b, c] by simp)
    have k3 : c = lo ∨ c = x ∨ c = hi := by simpa using p.mem_iff.mp (show c ∈ [a, b, c] by simp)
    have e : b = (if (if x < hi then x else hi) > lo then (if x < hi then x else hi) else lo) := by
      split <;> split <;> omega
    show [a, b, c] = [a, (if (if x < hi then x else hi) > lo then (if x < hi then x else hi) else lo), c]
    rw [← e]
def spGiven (K : PySem.W.Frag) : Sp := fun vs H Q _ => ∃ (sp r : Addr) (wk : Wk) (row : List Int), vs = [.ref sp, .ref r] ∧ SpecAt K H sp wk ∧ okW wk ∧ RowAt [] H r row ∧ row.length = manyW wk ∧ (∀ x ∈ row, Num x) ∧ ∀ H', Same H H' → Q (.int (dueW wk row)) H'
section
variable {P : Program} {w : World} {K : PySem.W.Frag} {mg : Str → Option Value} {base : Heap} {f f1 f2 f3 f4 f5 f6 : Addr} {fd fd1 fd2 fd3 fd4 fd5 fd6 : FuncData} {cs : Cs}
abbrev nGiven : List Str := ["_law_spec_here", "_law_rows", "_law_word", "_law_own", "_law_takes", "_law_samples", "_law_row"]
theorem scGiven : FnScope nGiven ["_law_spec_here", "_law_rows"] (defScope sGiven) := ⟨rfl, rfl, rfl, by decide +kernel, rfl, by decide +kernel, by decide +kernel⟩
theorem ok_given (F : FnP K "_law_given" sGiven f fd) (GR : FnOk P w K mg base CX0 1 f1 fd1 ["_law_sample", "_law_by"] spRounded) (gR : mg "_law_rounded" = some (.ref f1)) (kR : PySem.W.keepIn K (.ref f1) = true) (bR : Binds K fd1 ["_law_sample", "_law_by"] [])
    (gSum : mg "sum" = none) (gSorted : mg "sorted" = none) (gInt : mg "int" = none) : FnOk P w K mg base CX0 2 f fd ["_law_spec_here", "_law_rows"] (spGiven K) := by
  refine F.ok scGiven (fun vs H Q E h => ?_) (fun cdv A outer s H vs Q E hr h => ?_)
  · obtain ⟨sp, r, wk, row, rfl, _⟩ := h
    rfl
  · obtain ⟨sp, r, wk, row, rfl, ⟨o, tk, h1, h2, h3⟩, ok, ⟨_, rs, hr0, al⟩, hm, nums, k⟩ := h
    have nd := scGiven.nd
    refine ⟨_, PSs.nox (pss_cons (ps_asg (pv 0) (pg_tup rfl (pgs_cons (pg_name (i := 2) nd rfl (Or.inl rfl)) (pgs_cons (pg_name (i := 3) nd rfl (Or.inl rfl)) (pgs_cons (pg_name (i := 4) nd rfl (Or.inl rfl)) pgs_nil)))))
      (pss_cons (ps_setLc (i := 5) (own := [("_law_row", 6)]) (g := gName 6) (tt := tYes) rfl nd rfl rfl (sw_true rfl rfl rfl rfl) (pi_list (pv 1)) (blkOk_by (N := nGiven) (sc := defScope sGiven) (by decide +kernel))
          (fun _ _ _ _ _ => pg_name (i := 6) nd rfl (Or.inl rfl)) (fun _ _ _ _ _ => pts_nil) (fun _ _ _ _ _ => pe_ix (ix_listK (K := K) rfl) (pv 6) pe_int (fun _ _ => rfl)))
      (pss_cons (ps_if (pt_cmpR op_eq (pv 2) pe_str (nomark _)) (pss_one (ps_ret (pe_op op_mulW (pe_ix ix_list (pv 5) pe_int (fun _ _ => rfl)) (pv 3)))) pss_nil)
      (pss_cons (ps_if (pt_cmpR op_eq (pv 2) pe_str (nomark _)) (pss_one (ps_ret (pe_callB (cr_sum rfl) (by rfl) gSum (by decide +kernel) (pa_cons (pv 5) pa_nil)))) pss_nil)
      (pss_cons (ps_if (pt_cmpR op_eq (pv 2) pe_str (nomark _)) (pss_one (ps_ret (pe_op op_mulW (pe_ix ix_list (pv 5) pe_int (fun _ _ => rfl)) (pe_ix ix_list (pv 5) pe_int (fun _ _ => rfl))))) pss_nil)
      (pss_cons (ps_if (pt_cmpR op_eq (pv 2) pe_str (nomark _)) (pss_one (ps_ret (pe_ix ix_list (pe_callB cr_sorted (by rfl) gSorted (by decide +kernel) (pa_cons (pe_lst (pa_cons (pe_ix ix_tup (pv 3) pe_int (fun _ _ => rfl)) (pa_cons (pe_ix ix_list (pv 5) pe_int (fun _ _ => rfl)) (pa_cons (pe_ix ix_tup (pv 3) pe_int (fun _ _ => rfl)) pa_nil)))) pa_nil)) pe_int (fun _ _ => rfl)))) pss_nil)
      (pss_cons (ps_if (pt_cmpR op_eq (pv 2) pe_str (nomark _)) (pss_one (ps_ret (pe_call GR hr rfl gR kR bR .nil pass0 (pa_cons (pe_ix ix_list (pv 5) pe_int (fun _ _ => rfl)) (pa_cons (pv 3) pa_nil))))) pss_nil)
      (pss_one (ps_ret (pe_ix ix_list (pv 5) (pe_ix ix_list (pe_lst (pa_cons pe_int (pa_cons pe_int pa_nil))) (pe_callTy call_int1 (by rfl) gInt PyProof.Rows.boot_int (pa_cons (pe_cmpR op_gt (pe_ix ix_list (pv 5) pe_int (fun _ _ => rfl)) pe_int (nomark _)) pa_nil)) (fun _ _ => rfl)) (fun _ _ => rfl)))))))))))  , ?_⟩
    refine ⟨_, rfl, sp, _, rfl, h1, rfl, _, _, rfl, _, _, rfl, _, _, rfl, rfl, ?_⟩
    refine ⟨_, rfl, r, rfl, ⟨_, SqL.of hr0⟩, fun D hD => ?_⟩
    have m8 : manyW wk ≤ 8 := by
      cases wk with
      | mix m => exact ok.2
      | gain b => exact (show 1 ≤ 8 by decide)
      | clip lo hi => exact (show 1 ≤ 8 by decide)
      | share b => exact (show 1 ≤ 8 by decide)
      | times => decide
      | choose => decide
    refine lc_list (fun j H' => H' D = some (.lst ((row.take j).map V.int)) ∧ Same H H') ⟨upd_same, Same.past (Same.refl _) hD⟩ (fun j H' _ e => SqL.of (e.2 _ _ hr0)) (fun j v H' ev e => ?_) (fun H' e => ?_)
    · obtain ⟨hd, s1⟩ := e
      rw [List.getElem?_map] at ev
      obtain ⟨e0, ee, rfl⟩ := Option.map_eq_some_iff.mp ev
      obtain ⟨x, er, hx⟩ := al.get ee
      refine ⟨rfl, ?_⟩
      unfold tYes
      refine iteT ?_
      refine ⟨_, rfl, e0, _, _, _, rfl, rfl, SqL.of (s1 _ _ hx.2), atI_nat (j := 0) rfl, _, hd, ?_, ?_, Same.past s1 hD⟩
      · rw [List.length_map, List.length_take]
        exact Nat.lt_of_le_of_lt (show _ ≤ 8 by omega) (by decide)
      · rw [List.take_succ, er, List.map_append]
        exact upd_same
    · obtain ⟨hd, s1⟩ := e
      rw [List.take_of_length_le (by rw [List.length_map, al.len]; exact Nat.le_refl _)] at hd
      cases wk with
      | gain b =>
        cases h2
        have hm : row.length = 1 := hm
        obtain ⟨x, rfl⟩ : ∃ x, row = [x] := match row, hm with | [x], _ => ⟨x, rfl⟩
        refine ⟨_, rfl, rfl, _, rfl, ite2 (fun _ => ?_) (fun z => absurd (wordEq rfl) z)⟩
        exact ⟨_, rfl, D, _, _, _, rfl, rfl, SqL.of hd, atI_nat (j := 0) rfl, _, rfl, _, _, rfl, rfl, (nums x List.mem_cons_self).mul ok, k _ s1⟩
      | mix m =>
        cases h2
        refine ⟨_, rfl, rfl, _, rfl, ite2 (fun z => absurd z (wordNe (show ("mix" : Str) ≠ "gain" by decide +kernel))) (fun _ => ?_)⟩
        refine ⟨_, rfl, rfl, _, rfl, ite2 (fun _ => ?_) (fun z => absurd (wordEq rfl) z)⟩
        exact ⟨_, rfl, D, _, rfl, SqL.of hd, k _ s1⟩
      | times =>
        cases h2
        have hm : row.length = 2 := hm
        obtain ⟨x, y, rfl⟩ : ∃ x y, row = [x, y] := match row, hm with | [x, y], _ => ⟨x, y, rfl⟩
        refine ⟨_, rfl, rfl, _, rfl, ite2 (fun z => absurd z (wordNe (show ("times" : Str) ≠ "gain" by decide +kernel))) (fun _ => ?_)⟩
        refine ⟨_, rfl, rfl, _, rfl, ite2 (fun z => absurd z (wordNe (show ("times" : Str) ≠ "mix" by decide +kernel))) (fun _ => ?_)⟩
        refine ⟨_, rfl, rfl, _, rfl, ite2 (fun _ => ?_) (fun z => absurd (wordEq rfl) z)⟩
        exact ⟨_, rfl, D, _, _, _, rfl, rfl, SqL.of hd, atI_nat (j := 0) rfl, _, rfl, D, _, _, _, rfl, rfl, SqL.of hd, atI_nat (j := 1) rfl, _, _, rfl, rfl, (nums x List.mem_cons_self).mul (nums y (List.mem_cons_of_mem _ List.mem_cons_self)), k _ s1⟩
      | clip lo hi =>
        obtain ⟨q, rfl, hq⟩ := h2
        have hm : row.length = 1 := hm
        have ok' : Num lo ∧ lo ≤ hi ∧ hi < 2 * 10 ^ 56 := ok
        obtain ⟨x, rfl⟩ : ∃ x, row = [x] := match row, hm with | [x], _ => ⟨x, rfl⟩
        refine ⟨_, rfl, rfl, _, rfl, ite2 (fun z => absurd z (wordNe (show ("clip" : Str) ≠ "gain" by decide +kernel))) (fun _ => ?_)⟩
        refine ⟨_, rfl, rfl, _, rfl, ite2 (fun z => absurd z (wordNe (show ("clip" : Str) ≠ "mix" by decide +kernel))) (fun _ => ?_)⟩
        refine ⟨_, rfl, rfl, _, rfl, ite2 (fun z => absurd z (wordNe (show ("clip" : Str) ≠ "times" by decide +kernel))) (fun _ => ?_)⟩
        refine ⟨_, rfl, rfl, _, rfl, ite2 (fun _ => ?_) (fun z => absurd (wordEq rfl) z)⟩
        refine ⟨_, rfl, q, _, _, _, rfl, rfl, Same.tup s1 hq, atI_nat (j := 0) rfl, _, rfl, D, _, _, _, rfl, rfl, SqL.of hd, atI_nat (j := 0) rfl, _, rfl, q, _, _, _, rfl, rfl, Same.tup s1 hq, atI_nat (j := 1) rfl, (by show 3 ≤ sizeLine; decide), fun l hl => ?_⟩
        have s2 := Same.new (o := .lst [V.int lo, V.int x, V.int hi]) (Same.refl H') hl
        refine ⟨l, [lo, x, hi], rfl, SqL.of upd_same, (show 3 < 64 by decide), fun ns p perm srt hp => ?_⟩
        obtain ⟨a, c, rfl⟩ := middle ok'.2.1 perm srt
        exact ⟨p, _, _, _, rfl, rfl, SqL.of upd_same, atI_nat (j := 1) rfl, k _ ((s1.trans s2).trans (Same.new (Same.refl _) hp))⟩
      | share b =>
        cases h2
        have hm : row.length = 1 := hm
        have ok' : 0 < b ∧ b ≤ 10 ^ 56 := ok
        obtain ⟨x, rfl⟩ : ∃ x, row = [x] := match row, hm with | [x], _ => ⟨x, rfl⟩
        refine ⟨_, rfl, rfl, _, rfl, ite2 (fun z => absurd z (wordNe (show ("share" : Str) ≠ "gain" by decide +kernel))) (fun _ => ?_)⟩
        refine ⟨_, rfl, rfl, _, rfl, ite2 (fun z => absurd z (wordNe (show ("share" : Str) ≠ "mix" by decide +kernel))) (fun _ => ?_)⟩
        refine ⟨_, rfl, rfl, _, rfl, ite2 (fun z => absurd z (wordNe (show ("share" : Str) ≠ "times" by decide +kernel))) (fun _ => ?_)⟩
        refine ⟨_, rfl, rfl, _, rfl, ite2 (fun z => absurd z (wordNe (show ("share" : Str) ≠ "clip" by decide +kernel))) (fun _ => ?_)⟩
        refine ⟨_, rfl, rfl, _, rfl, ite2 (fun _ => ?_) (fun z => absurd (wordEq rfl) z)⟩
        exact ⟨_, rfl, D, _, _, _, rfl, rfl, SqL.of hd, atI_nat (j := 0) rfl, _, rfl, x, b, rfl, nums x List.mem_cons_self, ok'.1, ok'.2, k _ s1⟩
      | choose =>
        cases h2
        have hm : row.length = 3 := hm
        obtain ⟨x, y, z', rfl⟩ : ∃ x y z, row = [x, y, z] := match row, hm with | [x, y, z], _ => ⟨x, y, z, rfl⟩
        refine ⟨_, rfl, rfl, _, rfl, ite2 (fun z => absurd z (wordNe (show ("choose" : Str) ≠ "gain" by decide +kernel))) (fun _ => ?_)⟩
        refine ⟨_, rfl, rfl, _, rfl, ite2 (fun z => absurd z (wordNe (show ("choose" : Str) ≠ "mix" by decide +kernel))) (fun _ => ?_)⟩
        refine ⟨_, rfl, rfl, _, rfl, ite2 (fun z => absurd z (wordNe (show ("choose" : Str) ≠ "times" by decide +kernel))) (fun _ => ?_)⟩
        refine ⟨_, rfl, rfl, _, rfl, ite2 (fun z => absurd z (wordNe (show ("choose" : Str) ≠ "clip" by decide +kernel))) (fun _ => ?_)⟩
        refine ⟨_, rfl, rfl, _, rfl, ite2 (fun z => absurd z (wordNe (show ("choose" : Str) ≠ "share" by decide +kernel))) (fun _ => ?_)⟩
        refine ⟨_, rfl, (by show 2 ≤ sizeLine; decide), fun l hl => ?_⟩
        have s2 := Same.new (o := .lst [V.int 2, V.int 1]) (Same.refl H') hl
        refine ⟨_, rfl, D, _, _, _, rfl, rfl, SqL.of (s2 _ _ hd), atI_nat (j := 0) rfl, _, _, rfl, rfl, .inr ⟨_, rfl, ?_⟩⟩
        by_cases hx : 0 < x
        · refine ⟨l, _, _, .int 1, rfl, rfl, SqL.of upd_same, ?_, D, _, _, .int y, rfl, rfl, SqL.of (s2 _ _ hd), atI_nat (j := 1) rfl, ?_⟩
          · rw [if_pos (decide_eq_true hx)]
            rfl
          · have e := k _ (s1.trans s2)
            rw [show dueW .choose [x, y, z'] = y from if_pos hx] at e
            exact e
        · refine ⟨l, _, _, .int 2, rfl, rfl, SqL.of upd_same, ?_, D, _, _, .int z', rfl, rfl, SqL.of (s2 _ _ hd), atI_nat (j := 2) rfl, ?_⟩
          · rw [if_neg (fun z => hx (of_decide_eq_true z))]
            rfl
          · have e := k _ (s1.trans s2)
            rw [show dueW .choose [x, y, z'] = z' from if_neg hx] at e
            exact e
end
end Sw
namespace Sw
open PySem PySem.Spec PyProof.Rows L2
def spIsTold : Sp := fun vs H Q _ => ∃ (t l u : Addr) (v : V) (x : Int), vs = [.ref t, .ref u] ∧ H t = some (.tup [v, .ref l]) ∧ H l = some (.lst [.int x]) ∧ H u = some (.lst [.int x]) ∧ x.natAbs.log2 < 1920 ∧ Q (.bl true) H
section
variable {P : Program} {w : World} {K : PySem.W.Frag} {mg : Str → Option Value} {base : Heap} {f f1 f2 f3 f4 f5 f6 : Addr} {fd fd1 fd2 fd3 fd4 fd5 fd6 : FuncData} {cs : Cs}
theorem scIsTold : FnScope ["_law_told", "_law_due"] ["_law_told", "_law_due"] (defScope sIsTold) := ⟨rfl, rfl, rfl, by decide +kernel, rfl, by decide +kernel, by decide +kernel⟩
theorem ok_isTold (F : FnP K "_law_is_told" sIsTold f fd) (gIs : mg "isinstance" = none) (gList : mg "list" = none) (gTuple : mg "tuple" = none) (gLen : mg "len" = none) (gRepr : mg "repr" = none) : FnG P w K mg base CX0 1 f fd ["_law_told", "_law_due"] spIsTold := by
  refine F.okG scIsTold (fun vs H Q E h => ?_) (fun cdv A outer s H vs Q E hr guard h => ?_)
  · obtain ⟨t, l, u, v, x, rfl, _⟩ := h
    rfl
  · obtain ⟨t, l, u, v, x, rfl, ht, hl, hu', dl, k⟩ := h
    have un := hr.un
    have R : ∀ {X : Cx}, X.A = A.deeper (envOfC "_law_is_told" (defScope sIsTold) s.heap.objs.size f cdv) → CallR X (.builtin "repr") (rReprD X.K) := fun {X} e => call_reprD (by rw [e]; exact guard) (by rw [e]; omega)
    refine ⟨_, PSs.nox (pss_cons (ps_if (PW.pt (pw_or (pt_not (pt_val (pe_callB call_isi (by rfl) gIs boot_isinstance (pa_cons (pv 0) (pa_cons (pe_bltn (v := .ty "tuple") rfl gTuple PyProof.Rows.boot_tuple rfl) pa_nil)))))
        (pw_or (pt_cmpR op_ne (pe_callB call_len_seq (by rfl) gLen PySem.boot_len (pa_cons (pv 0) pa_nil)) pe_int (nomark _))
          (pw_or1 (pt_not (pt_val (pe_callB call_isi (by rfl) gIs boot_isinstance (pa_cons (pe_ix ix_tup (pv 0) pe_int (fun _ _ => rfl)) (pa_cons (pe_bltn (v := .ty "list") rfl gList PyProof.Rows.boot_list rfl) pa_nil)))))))))
        (pss_one (ps_ret pe_bl)) pss_nil)
      (pss_one (ps_ret (pe_cmpR op_eq (pe_callB (R rfl) (by rfl) gRepr boot_repr (pa_cons (pe_ix ix_tup (pv 0) pe_int (fun _ _ => rfl)) pa_nil)) (pe_callB (R rfl) (by rfl) gRepr boot_repr (pa_cons (pv 1) pa_nil)) (nomark _))))), ?_⟩
    refine ⟨_, rfl, _, _, _, _, true, rfl, ClsV.ty _, TyX.base (TyOf.tup ht), kit_ty (by decide +kernel), _, rfl, iteF ?_⟩
    refine ⟨_, rfl, t, _, rfl, .inr (.inl (.inl ht)), rfl, _, rfl, iteNS rfl ?_⟩
    refine ⟨_, rfl, t, _, _, _, rfl, rfl, .inl (.inl ht), atI_nat (j := 1) rfl, _, _, _, _, true, rfl, ClsV.ty _, TyX.base (TyOf.lst hl), kit_ty (by decide +kernel), _, rfl, iteF ?_⟩
    obtain ⟨S, hS⟩ : ∃ S, (PyData.list [.int x]).shown = S := ⟨_, rfl⟩
    refine ⟨_, rfl, t, _, _, _, rfl, rfl, .inl (.inl ht), atI_nat (j := 1) rfl, l, _, S, rfl, one_dp hl, oneD_shaped _, oneD_show dl, oneD_len dl, hS, ?_⟩
    refine ⟨_, rfl, u, _, S, rfl, one_dp hu', oneD_shaped _, oneD_show dl, oneD_len dl, hS, rfl, ?_⟩
    show Q (.bl (decide (V.str S = V.str S))) H
    rw [decide_eq_true rfl]
    exact k
end
end Sw
namespace Sw
open PySem PySem.Spec PyProof.Rows L2
/-! ### the streams: comprehensions in one another -/
/-- the scopes within: free names of a def's cells are cells there -/
def scS1 : Scope := { kind := .function, names := [(".0", .local), ("_law_k", .local), ("_law_pot_here", .cell), ("_law_takes", .cell)], isGenerator := false, isCoroutine := false }
def scS2 : Scope := { kind := .function, names := [(".0", .local), ("_law_width", .local), ("range", .globalImplicit), ("_law_pot_here", .cell)], isGenerator := false, isCoroutine := false }
theorem Kept.past {p q : Addr} {H H1 : Hp} {o : HO} (k : Kept p H H1) (h : H q = none) : Kept p H (L2.upd H1 q o) := fun b u n e => by
  rw [upd_ne (ne_of_none e h)]
  exact k b u n e
theorem pi_tupK {X : Cx} {tg l : Expr} {tl : TE} {K : PySem.W.Frag} (h : X.K = K) (hl : PE X l tl) : L2.PI X tg l (iTup K tl) := by
  subst h
  exact pi_tup hl
theorem yes_ite {σ : L2.St} {H : Hp} {a b : Hp → Prop} (h : a H) : tYes σ H (fun t H' => if t = true then a H' else b H') := by
  unfold tYes
  exact iteT h
def spStreams (K : PySem.W.Frag) : Sp := fun vs H Q _ => ∃ (p tk : Addr) (m n : Nat), vs = [.ref p, .ref tk, .int (n : Int)] ∧ PotAt H p ∧ SqT K H tk (List.replicate m (.int 1)) ∧ m ≤ 8 ∧ n ≤ 9 ∧
  ∀ (l : Addr) (es : List Addr) (xss : List (List Int)) (H' : Hp), Kept p H H' → PotAt H' p → H l = none → H' l = some (.lst (es.map V.ref)) → Al (RowAt [p] H') es xss → (∀ xs ∈ xss, xs.length = m ∧ ∀ x ∈ xs, Num x) → Q (.ref l) H'
section
variable {P : Program} {w : World} {K : PySem.W.Frag} {mg : Str → Option Value} {base : Heap} {f f1 f2 f3 f4 f5 f6 : Addr} {fd fd1 fd2 fd3 fd4 fd5 fd6 : FuncData} {cs : Cs}
abbrev nStreams : List Str := ["_law_pot_here", "_law_takes", "_law_many", "_law_k", "_law_width", "_law_j"]
theorem scStreams : FnScope nStreams ["_law_pot_here", "_law_takes", "_law_many"] (defScope sStreams) := ⟨rfl, rfl, rfl, by decide +kernel, rfl, by decide +kernel, by decide +kernel⟩
theorem ok_streams (F : FnP K "_law_streams" sStreams f fd) (GU : FnOk P w K mg base CX0 2 f2 fd2 ["_law_pot_here"] spNumber) (gU : mg "_law_number" = some (.ref f2)) (kU : PySem.W.keepIn K (.ref f2) = true) (bU : Binds K fd2 ["_law_pot_here"] []) (gRange : mg "range" = none) : FnOk P w K mg base CX0 3 f fd ["_law_pot_here", "_law_takes", "_law_many"] (spStreams K) := by
  refine F.ok scStreams (fun vs H Q E h => ?_) (fun cdv A outer s H vs Q E hr h => ?_)
  · obtain ⟨p, tk, m, n, rfl, _⟩ := h
    rfl
  · obtain ⟨p, tk, m, n, rfl, hp, htk, m8, n9, k⟩ := h
    have nd := scStreams.nd
    refine ⟨_, PSs.nox (pss_one (ps_ret (pe_lc (own := [("_law_k", 3)]) (g := gName 3) (tt := tYes) rfl nd (pi_range1 rfl gRange (pa_cons (pv 2) pa_nil)) (blkOk_by (N := nStreams) (sc := defScope sStreams) (by decide +kernel))
        (fun _ _ _ _ _ => pg_name (i := 3) nd rfl (Or.inl rfl)) (fun _ _ _ _ _ => pts_nil)
        (fun _ _ _ _ _ => pe_lc (own := [("_law_width", 4)]) (g := gName 4) (tt := tYes) rfl nd (pi_tupK (K := K) rfl (pv 1)) (blkOk_by (N := nStreams) (sc := scS1) (by decide +kernel))
          (fun _ _ _ _ _ => pg_name (i := 4) nd rfl (Or.inl rfl)) (fun _ _ _ _ _ => pts_nil)
          (fun _ _ _ _ _ => pe_lc (own := [("_law_j", 5)]) (g := gName 5) (tt := tYes) rfl nd (pi_range1 rfl gRange (pa_cons (pv 4) pa_nil)) (blkOk_by (N := nStreams) (sc := scS2) (by decide +kernel))
            (fun _ _ _ _ _ => pg_name (i := 5) nd rfl (Or.inl rfl)) (fun _ _ _ _ _ => pts_nil)
            (fun _ _ _ _ _ => pe_call GU hr rfl gU kU bU .nil pass0 (pa_cons (pv 0) pa_nil))))))), ?_⟩
    refine ⟨_, rfl, _, rfl, by omega, by omega, fun D hD => ?_⟩
    have nDp : D ≠ p := fun z => by
      obtain ⟨_, _, _, _, _, hx⟩ := hp
      rw [z, hx] at hD
      cases hD
    refine lc_range (fun j H' => ∃ (es : List Addr) (xss : List (List Int)), es.length = j ∧ H' D = some (.lst (es.map V.ref)) ∧ Al (RowAt [p, D] H') es xss ∧ (∀ xs ∈ xss, xs.length = m ∧ ∀ x ∈ xs, Num x) ∧ Kept p H H' ∧ PotAt H' p)
      ⟨[], [], rfl, upd_same, trivial, fun _ h => (List.not_mem_nil h).elim, Kept.past Kept.refl hD, hp.keep (Same.new (Same.refl _) hD)⟩ (fun j G hj e => ?_) (fun G e => ?_)
    · obtain ⟨es, xss, el, hd, al, nums, kG, hpG⟩ := e
      refine ⟨rfl, ?_⟩
      refine yes_ite ?_
      have htG := kG.tup hp htk
      refine ⟨_, rfl, tk, rfl, ⟨_, htG⟩, fun D2 hD2 => ?_⟩
      have nD2D : D2 ≠ D := (ne_of_none hd hD2).symm
      have nD2p : D2 ≠ p := fun z => by
        obtain ⟨_, _, _, _, _, hx⟩ := hpG
        rw [z, hx] at hD2
        cases hD2
      refine lc_tup (xs := List.replicate m (V.int 1)) (fun a H' => ∃ (rs : List Addr) (xs : List Int), xs.length = a ∧ H' D2 = some (.lst (rs.map V.ref)) ∧ Al (fun r x => r ∉ [D2, p, D] ∧ H' r = some (.lst [.int x])) rs xs ∧ (∀ x ∈ xs, Num x) ∧ Kept p G H' ∧ PotAt H' p)
        ⟨[], [], rfl, upd_same, trivial, fun _ h => (List.not_mem_nil h).elim, Kept.past Kept.refl hD2, hpG.keep (Same.new (Same.refl _) hD2)⟩ (fun a H' _ e => ?_) (fun a v H' ev e => ?_) (fun H' e => ?_)
      · obtain ⟨_, _, _, _, _, _, kk, _⟩ := e
        exact kk.tup hpG htG
      · obtain ⟨rs, xs, xl, hd2, al2, nx, kk, hp2⟩ := e
        obtain rfl : v = V.int 1 := by
          have := List.mem_of_getElem? ev
          exact List.eq_of_mem_replicate this
        have am : a < m := by
          have := (List.getElem?_eq_some_iff.mp ev).1
          rw [List.length_replicate] at this
          exact this
        refine ⟨rfl, ?_⟩
        refine yes_ite ?_
        refine ⟨_, rfl, _, rfl, by decide, by decide, fun D3 hD3 => ?_⟩
        have nD3p : D3 ≠ p := fun z => by
          obtain ⟨_, _, _, _, _, hx⟩ := hp2
          rw [z, hx] at hD3
          cases hD3
        have nD3D2 : D3 ≠ D2 := (ne_of_none hd2 hD3).symm
        have nD3D : D3 ≠ D := (ne_of_none (kk _ _ nDp hd) hD3).symm
        refine lc_range (fun b B => ∃ ys : List Int, ys.length = b ∧ B D3 = some (.lst (ys.map V.int)) ∧ (∀ y ∈ ys, Num y) ∧ Kept p H' B ∧ PotAt B p)
          ⟨[], rfl, upd_same, fun _ h => (List.not_mem_nil h).elim, Kept.past Kept.refl hD3, hp2.keep (Same.new (Same.refl _) hD3)⟩ (fun b B hb e => ?_) (fun B e => ?_)
        · obtain ⟨ys, yl, hd3, ny, kB, hpB⟩ := e
          refine ⟨rfl, ?_⟩
          refine yes_ite ?_
          refine ⟨_, rfl, p, rfl, hpB, fun y B2 y0 y1 k2 hpB2 => ?_⟩
          have hd3' := k2 _ _ nD3p hd3
          refine ⟨_, hd3', ?_, ys ++ [y], by rw [List.length_append, yl]; rfl, ?_, fun z hz => ?_, (kB.trans k2).past hD3, ?_⟩
          · rw [List.length_map, yl]
            exact Nat.lt_of_lt_of_le (show b < 2 by omega) (by decide)
          · rw [List.map_append]
            exact upd_same
          · rcases List.mem_append.mp hz with hz | hz
            · exact ny z hz
            · rcases List.mem_cons.mp hz with rfl | hz
              · exact ⟨y0, y1⟩
              · cases hz
          · obtain ⟨b1, b2, b3, b4, b5, b6⟩ := hpB2
            exact ⟨b1, b2, b3, b4, b5, by rw [upd_ne nD3p.symm]; exact b6⟩
        · obtain ⟨ys, yl, hd3, ny, kB, hpB⟩ := e
          obtain ⟨y, rfl⟩ : ∃ y, ys = [y] := match ys, yl with | [y], _ => ⟨y, rfl⟩
          have hd2B := kB _ _ nD2p hd2
          refine ⟨_, hd2B, ?_, rs ++ [D3], xs ++ [y], by rw [List.length_append, xl]; rfl, ?_, ?_, fun z hz => ?_, (kk.trans kB).past hD2, ?_⟩
          · rw [List.length_map, al2.len, xl]
            exact Nat.lt_of_lt_of_le (show a < 9 by omega) (by decide)
          · rw [List.map_append]
            exact upd_same
          · refine Al.snoc ⟨?_, ?_⟩ (al2.imp fun r' x' ⟨z1, z2⟩ => ⟨z1, ?_⟩)
            · simp only [List.mem_cons, List.not_mem_nil, or_false, not_or]
              exact ⟨nD3D2, nD3p, nD3D⟩
            · rw [upd_ne nD3D2]
              exact hd3
            · simp only [List.mem_cons, List.not_mem_nil, or_false, not_or] at z1
              rw [upd_ne z1.1]
              exact kB _ _ z1.2.1 z2
          · rcases List.mem_append.mp hz with hz | hz
            · exact nx z hz
            · rcases List.mem_cons.mp hz with rfl | hz
              · exact ny _ List.mem_cons_self
              · cases hz
          · obtain ⟨b1, b2, b3, b4, b5, b6⟩ := hpB
            exact ⟨b1, b2, b3, b4, b5, by rw [upd_ne nD2p.symm]; exact b6⟩
      · obtain ⟨rs, xs, xl, hd2, al2, nx, kk, hp2⟩ := e
        rw [List.length_replicate] at xl
        have hdH := kk _ _ nDp hd
        refine ⟨_, hdH, ?_, es ++ [D2], xss ++ [xs], by rw [List.length_append, el]; rfl, ?_, ?_, fun z hz => ?_, (kG.trans kk).past hD, ?_⟩
        · rw [List.length_map, el]
          exact Nat.lt_of_lt_of_le (show j < 10 by omega) (by decide)
        · rw [List.map_append]
          exact upd_same
        · have kU : KD [p, D] G (upd H' D (.lst (es.map V.ref ++ [V.ref D2]))) := (KD.kept (D := [p, D]) kk List.mem_cons_self).trans (KD.upd (List.mem_cons_of_mem _ List.mem_cons_self))
          refine Al.snoc ⟨?_, rs, ?_, al2.imp fun r x ⟨z1, z2⟩ => ?_⟩ (al.imp fun r x h => h.keep kU)
          · simp only [List.mem_cons, List.not_mem_nil, or_false, not_or]
            exact ⟨nD2p, nD2D⟩
          · rw [upd_ne nD2D]
            exact hd2
          · simp only [List.mem_cons, List.not_mem_nil, or_false, not_or] at z1 ⊢
            exact ⟨z1.2, by rw [upd_ne z1.2.2]; exact z2⟩
        · rcases List.mem_append.mp hz with hz | hz
          · exact nums z hz
          · rcases List.mem_cons.mp hz with rfl | hz
            · exact ⟨xl, nx⟩
            · cases hz
        · obtain ⟨b1, b2, b3, b4, b5, b6⟩ := hp2
          exact ⟨b1, b2, b3, b4, b5, by rw [upd_ne nDp.symm]; exact b6⟩
    · obtain ⟨es, xss, el, hd, al, nums, kG, hpG⟩ := e
      refine k D es xss G kG hpG hD hd (al.imp fun e xs ⟨h1, rs, h2, h3⟩ => ⟨fun z => h1 ?_, rs, h2, h3.imp fun r x ⟨z1, z2⟩ => ⟨fun z => z1 ?_, z2⟩⟩) nums
      · rcases List.mem_cons.mp z with rfl | z
        · exact List.mem_cons_self
        · cases z
      · rcases List.mem_cons.mp z with rfl | z
        · exact List.mem_cons_self
        · cases z
end
end Sw
namespace Sw
open PySem PySem.Spec PyProof.Rows L2
theorem sum_small : ∀ {row : List Int}, (∀ x ∈ row, Num x) → row.sum.natAbs ≤ row.length * 10 ^ 56
  | [], _ => by simp
  | x :: xs, h => by
    have h1 := sum_small (row := xs) fun y hy => h y (List.mem_cons_of_mem _ hy)
    have h2 := h x List.mem_cons_self
    unfold Num at h2
    rw [List.sum_cons, List.length_cons, Nat.succ_mul]
    omega
set_option exponentiation.threshold 1000 in
theorem due_log {wk : Wk} {row : List Int} (ok : okW wk) (hl : row.length = manyW wk) (nums : ∀ x ∈ row, Num x) : (dueW wk row).natAbs.log2 < 1920 := by
  cases wk with
  | gain b =>
    have hl : row.length = 1 := hl
    obtain ⟨x, rfl⟩ : ∃ x, row = [x] := match row, hl with | [x], _ => ⟨x, rfl⟩
    refine log2_of (b := 401) ?_ (by decide) (by decide +kernel)
    show (x * b).natAbs < _
    rw [Int.natAbs_mul]
    have h1 := (nums x List.mem_cons_self).lt
    have h2 := Num.lt (show Num b from ok)
    exact Nat.lt_of_le_of_lt (Nat.mul_le_mul (Nat.le_of_lt h1) (Nat.le_of_lt h2)) (by decide)
  | mix m =>
    have ok : 1 ≤ m ∧ m ≤ 8 := ok
    have hl : row.length = m := hl
    refine log2_of (b := 400) ?_ (by decide) (by decide +kernel)
    have h := sum_small nums
    show row.sum.natAbs < _
    omega
  | times =>
    have hl : row.length = 2 := hl
    obtain ⟨x, y, rfl⟩ : ∃ x y, row = [x, y] := match row, hl with | [x, y], _ => ⟨x, y, rfl⟩
    refine log2_of (b := 401) ?_ (by decide) (by decide +kernel)
    show (x * y).natAbs < _
    rw [Int.natAbs_mul]
    have h1 := (nums x List.mem_cons_self).lt
    have h2 := (nums y (List.mem_cons_of_mem _ List.mem_cons_self)).lt
    exact Nat.lt_of_le_of_lt (Nat.mul_le_mul (Nat.le_of_lt h1) (Nat.le_of_lt h2)) (by decide)
  | clip lo hi =>
    have hl : row.length = 1 := hl
    obtain ⟨x, rfl⟩ : ∃ x, row = [x] := match row, hl with | [x], _ => ⟨x, rfl⟩
    have ok : Num lo ∧ lo ≤ hi ∧ hi < 2 * 10 ^ 56 := ok
    have h1 : Num x := nums x List.mem_cons_self
    have h2 := ok.1
    unfold Num at h1 h2
    refine log2_of (b := 400) ?_ (by decide) (by decide +kernel)
    show (if (if x < hi then x else hi) > lo then (if x < hi then x else hi) else lo).natAbs < _
    split <;> split <;> omega
  | share b =>
    have hl : row.length = 1 := hl
    obtain ⟨x, rfl⟩ : ∃ x, row = [x] := match row, hl with | [x], _ => ⟨x, rfl⟩
    have h1 := (nums x List.mem_cons_self).lt
    refine log2_of (b := 200) ?_ (by decide) (by decide +kernel)
    show (x / b).natAbs < _
    exact Nat.lt_of_le_of_lt (Int.natAbs_ediv_le_natAbs x b) h1
  | choose =>
    have hl : row.length = 3 := hl
    obtain ⟨x, y, z, rfl⟩ : ∃ x y z, row = [x, y, z] := match row, hl with | [x, y, z], _ => ⟨x, y, z, rfl⟩
    refine log2_of (b := 200) ?_ (by decide) (by decide +kernel)
    show (if 0 < x then y else z).natAbs < _
    split
    · exact (nums y (by simp)).lt
    · exact (nums z (by simp)).lt
def spPRight {K : PySem.W.Frag} {C : Addr} (M : Mp K C) : Sp := fun vs H Q _ => ∃ (i : M.ι) (sp l : Addr) (es : List Addr) (xss : List (List Int)), vs = [.ref (M.nd i), .ref sp, .ref l] ∧ M.node i H ∧ SpecAt K H sp (M.wk i) ∧ H l = some (.lst (es.map V.ref)) ∧ Al (RowAt [] H) es xss ∧ (∀ xs ∈ xss, xs.length = manyW (M.wk i) ∧ ∀ x ∈ xs, Num x) ∧
  ∀ H', Same H H' → Q (.bl true) H'
section
variable {P : Program} {w : World} {K : PySem.W.Frag} {mg : Str → Option Value} {base : Heap} {f f1 f2 f3 f4 f5 f6 C : Addr} {fd fd1 fd2 fd3 fd4 fd5 fd6 : FuncData} {cs : Cs}
abbrev nRight : List Str := ["_law_node", "_law_spec_here", "_law_streams_here", "_law_memory", "_law_rows", "_law_handed", "_law_told", "_law_row"]
theorem scLRight : FnScope nRight ["_law_node", "_law_spec_here", "_law_streams_here"] (defScope sLRight) := ⟨rfl, rfl, rfl, by decide +kernel, rfl, by decide +kernel, by decide +kernel⟩
theorem ok_lRight (M : Mp K C) (F : FnP K "_law_right" sLRight f fd) (c : Cls K C)
    (GR : FnOk P w K mg base CX0 1 f3 fd3 ["self"] (spPFresh M)) (mR : Meth K C "fresh" f3) (bR : Binds K fd3 ["self"] []) (GF : FnOk P w K mg base CX0 3 f4 fd4 ["self", "memory", "rows"] (spPFire M)) (mF : Meth K C "fire" f4) (bF : Binds K fd4 ["self", "memory", "rows"] [])
    (GD : FnOk P w K mg base CX0 2 f5 fd5 ["_law_spec_here", "_law_rows"] (spGiven K)) (gD : mg "_law_given" = some (.ref f5)) (kD : PySem.W.keepIn K (.ref f5) = true) (bD : Binds K fd5 ["_law_spec_here", "_law_rows"] [])
    (GT : FnG P w K mg base CX0 1 f6 fd6 ["_law_told", "_law_due"] spIsTold) (gT : mg "_law_is_told" = some (.ref f6)) (kT : PySem.W.keepIn K (.ref f6) = true) (bT : Binds K fd6 ["_law_told", "_law_due"] [])
    (gList : mg "list" = none) : FnG P w K mg base CX0 4 f fd ["_law_node", "_law_spec_here", "_law_streams_here"] (spPRight M) := by
  refine F.okG scLRight (fun vs H Q E h => ?_) (fun cdv A outer s H vs Q E hr guard h => ?_)
  · obtain ⟨i, sp, l, es, xss, rfl, _⟩ := h
    rfl
  · obtain ⟨i, sp, l, es, xss, rfl, hn, hsp, hl, al, nums, k⟩ := h
    have hr2 : Room 2 _ := hr.mono (by decide)
    have hr1 : Room 1 _ := hr.mono (by decide)
    have un := hr.un
    have hu := hr.units
    have nd := scLRight.nd
    refine ⟨_, PSs.nox (pss_cons (ps_set (i := 3) nd rfl (Or.inl rfl) (pe_meth0 (pv 0) c mR GR hr1 bR .nil pass0))
      (pss_cons (ps_for PassesOwn.never rfl (pi_list (pv 2)) (pg_name (i := 4) nd rfl (Or.inl rfl))
        (pss_cons (ps_setLc (i := 5) (own := [("_law_row", 7)]) (g := gName 7) (tt := tYes) rfl nd rfl rfl (sw_true rfl rfl rfl rfl) (pi_list (pv 4)) (blkOk_by (N := nRight) (sc := defScope sLRight) (by decide +kernel))
            (fun _ _ _ _ _ => pg_name (i := 7) nd rfl (Or.inl rfl)) (fun _ _ _ _ _ => pts_nil) (fun _ _ _ _ _ => pe_callTy (call_list_ofK (K := K) rfl) (by rfl) gList PyProof.Rows.boot_list (pa_cons (pv 7) pa_nil)))
        (pss_cons (ps_set (i := 6) nd rfl (Or.inl rfl) (pe_meth (pv 0) c mF GF hr bF .nil pass0 (pa_cons (pv 3) (pa_cons (pv 5) pa_nil))))
        (pss_cons (ps_if (PW.pt (pw_or (pt_not (pt_val (pe_callG GT hr1 guard rfl gT kT bT .nil pass0 (pa_cons (pv 6) (pa_cons (pe_lst (pa_cons (pe_call GD hr2 rfl gD kD bD .nil pass0 (pa_cons (pv 1) (pa_cons (pv 4) pa_nil))) pa_nil)) pa_nil)))))
            (pw_or1 (pt_cmpR (op_neD hu) (pv 5) (pv 4) (nomark _))))) (pss_one (ps_ret pe_bl)) pss_nil)
        (pss_cons (ps_expr (pe_bm PySem.F.plainAttrs_list PySem.F.slot_list_append PySem.F.type_list_append mt_append (pe_ix ix_tup (pv 6) pe_int (fun _ _ => rfl)) (pa_cons pe_int pa_nil)))
        (pss_cons (ps_if (pt_not (pt_val (pe_callG GT hr1 guard rfl gT kT bT .nil pass0 (pa_cons (pe_meth (pv 0) c mF GF hr bF .nil pass0 (pa_cons (pv 3) (pa_cons (pv 5) pa_nil))) (pa_cons (pe_lst (pa_cons (pe_call GD hr2 rfl gD kD bD .nil pass0 (pa_cons (pv 1) (pa_cons (pv 4) pa_nil))) pa_nil)) pa_nil))))) (pss_one (ps_ret pe_bl)) pss_nil)
        (pss_one (ps_set (i := 3) nd rfl (Or.inl rfl) (pe_ix ix_tup (pv 6) pe_int (fun _ _ => rfl))))))))))
      (pss_one (ps_ret pe_bl)))), ?_⟩
    have okw := M.okw i H hn
    obtain ⟨fs, ⟨dx, hi⟩, no⟩ := M.ins i H hn
    have noR := no "fresh" (by decide +kernel)
    have noF := no "fire" (by decide +kernel)
    refine ⟨_, rfl, _, dx, fs, rfl, hi, noR, i, rfl, hn, fun mem H1 s1 hm1 => ?_⟩
    refine ⟨_, rfl, l, rfl, ⟨_, SqL.of (s1 _ _ hl)⟩, for_list (xs := es.map V.ref) (fun j σ G => ∃ (w4 w5 w6 : Option V) (v : V), σ = [some (.ref (M.nd i)), some (.ref sp), some (.ref l), some v, w4, w5, w6, none] ∧ Same H G ∧ M.mem i G v)
      ⟨_, _, _, mem, rfl, s1, hm1⟩ (fun j σ G _ e => by obtain ⟨_, _, _, _, _, sm, _⟩ := e; exact SqL.of (sm _ _ hl)) ?_ ?_⟩
    · rintro j x σ G ex ⟨w4, w5, w6, v, rfl, sG, hv⟩
      rw [List.getElem?_map] at ex
      obtain ⟨e, ee, rfl⟩ := Option.map_eq_some_iff.mp ex
      obtain ⟨xs, exs, rowH⟩ := al.get ee
      obtain ⟨xlen, xnum⟩ := nums xs (List.mem_of_getElem? exs)
      have rowG := rowH.same sG
      obtain ⟨_, rs, hrs, alr⟩ := id rowG
      refine ⟨_, rfl, e, rfl, ⟨_, SqL.of hrs⟩, fun D hD => ?_⟩
      refine lc_list (xs := rs.map V.ref) (fun a G' => ∃ rs2 : List Addr, G' D = some (.lst (rs2.map V.ref)) ∧ Al (fun r x => r ∉ [D] ∧ G' r = some (.lst [.int x])) rs2 (xs.take a) ∧ Same G G')
          ⟨[], upd_same, by rw [List.take_zero]; trivial, Same.past (Same.refl _) hD⟩ (fun a G' _ e => by obtain ⟨_, _, _, sm⟩ := e; exact SqL.of (sm _ _ hrs)) (fun a y G' ey e => ?_) (fun G' e => ?_)
      · obtain ⟨rs2, hE, al2, sm⟩ := e
        rw [List.getElem?_map] at ey
        obtain ⟨r, er, rfl⟩ := Option.map_eq_some_iff.mp ey
        obtain ⟨x, exx, rx⟩ := alr.get er
        refine ⟨rfl, ?_⟩
        refine yes_ite ?_
        refine ⟨_, rfl, r, _, rfl, .inl (SqL.of (sm _ _ rx.2)), fun q hq' => ?_⟩
        have qE : q ≠ D := (ne_of_none hE hq').symm
        refine ⟨_, by rw [upd_ne qE.symm]; exact hE, ?_, rs2 ++ [q], ?_, ?_, Same.past (Same.new sm hq') hD⟩
        · have m8 : manyW (M.wk i) ≤ 8 := by
            cases e : M.wk i with
            | mix m => rw [e] at okw; exact okw.2
            | gain b => exact (show 1 ≤ 8 by decide)
            | clip lo hi => exact (show 1 ≤ 8 by decide)
            | share b => exact (show 1 ≤ 8 by decide)
            | times => exact (show 2 ≤ 8 by decide)
            | choose => exact (show 3 ≤ 8 by decide)
          rw [List.length_map, al2.len, List.length_take]
          exact Nat.lt_of_le_of_lt (show _ ≤ 8 by omega) (by decide)
        · rw [List.map_append]
          exact upd_same
        · have tk : xs.take (a + 1) = xs.take a ++ [x] := by
            rw [List.take_succ, exx]
            rfl
          rw [tk]
          refine Al.snoc ⟨fun z => ?_, ?_⟩ (al2.imp fun r' x' ⟨z1, z2⟩ => ⟨z1, ?_⟩)
          · rcases List.mem_cons.mp z with z | z
            · exact qE z
            · cases z
          · rw [upd_ne qE]
            exact upd_same
          · have n1 : r' ≠ D := fun z => z1 (by rw [z]; exact List.mem_cons_self)
            rw [upd_ne n1, upd_ne (ne_of_none z2 hq')]
            exact z2
      · obtain ⟨rs2, hE, al2, sm⟩ := e
        rw [List.length_map, alr.len, List.take_length] at al2
        have sG' := sG.trans sm
        have rowD' : RowAt [] G' D xs := ⟨List.not_mem_nil, rs2, hE, al2.imp fun r x z => ⟨List.not_mem_nil, z.2⟩⟩
        have rowE : RowAt [] G' e xs := rowG.same sm
        have nG := M.nodeS i _ _ sG' hn
        have vG := M.memS i _ _ v sm hv
        have dl := due_log okw xlen xnum
        -- the firing
        refine ⟨_, rfl, _, dx, fs, rfl, sG' _ _ hi, noF, _, rfl, _, rfl, ?_⟩
        refine ⟨i, xs, v, D, rfl, nG, vG, rowD', xlen, xnum, fun t tl v' B1 b1 fr ht hv' htl => ?_⟩
        have sB1 := sG'.trans b1
        -- it is told
        refine ⟨_, rfl, _, rfl, _, rfl, ?_⟩
        refine ⟨sp, e, M.wk i, xs, rfl, hsp.same sB1, okw, rowE.same b1, xlen, xnum, fun B2 b2 => ⟨(by show 1 ≤ sizeLine; decide), fun u hu' => ?_⟩⟩
        have b3 := Same.new (o := .lst [V.int (dueW (M.wk i) xs)]) (Same.refl B2) hu'
        have b23 := b2.trans b3
        refine ⟨t, tl, u, v', dueW (M.wk i) xs, rfl, b23 _ _ ht, b23 _ _ htl, upd_same, dl, _, rfl, iteF ?_⟩
        refine ⟨_, rfl, _, rfl, rowD xs, rowD xs, dp_row (rowD'.same (b1.trans b23)), dp_row (rowE.same (b1.trans b23)), row_shaped _, row_shaped _, ?_⟩
        rw [row_eqv]
        refine ⟨_, rfl, iteF ?_⟩
        -- the told list is changed
        refine ⟨_, rfl, t, _, _, _, rfl, rfl, .inl (.inl (b23 _ _ ht)), atI_nat (j := 1) rfl, .inl ⟨rfl, _, SqL.of (b23 _ _ htl)⟩, ?_⟩
        refine ⟨tl, _, _, rfl, rfl, b23 _ _ htl, (by show 1 < sizeLine; decide), ?_⟩
        have v3 : M.mem i (upd B2 u (.lst [V.int (dueW (M.wk i) xs)])) v' := M.memS i _ _ v' b23 hv'
        have v4 := M.memL i _ v' tl _ (.lst ([V.int (dueW (M.wk i) xs)] ++ [V.int 7])) (b23 _ _ htl) v3
        have g4 : Same G' (upd (upd B2 u (.lst [V.int (dueW (M.wk i) xs)])) tl (.lst ([V.int (dueW (M.wk i) xs)] ++ [V.int 7]))) := Same.past (b1.trans b23) fr
        have t4 : (upd (upd B2 u (.lst [V.int (dueW (M.wk i) xs)])) tl (.lst ([V.int (dueW (M.wk i) xs)] ++ [V.int 7]))) t = some (.tup [v', .ref tl]) := by
          rw [upd_ne (fun z => by rw [z, htl] at ht; cases ht)]
          exact b23 _ _ ht
        generalize upd (upd B2 u (.lst [V.int (dueW (M.wk i) xs)])) tl (.lst ([V.int (dueW (M.wk i) xs)] ++ [V.int 7])) = B4 at g4 t4 v4
        have sB4 := sG'.trans g4
        -- fired once more
        refine ⟨_, rfl, _, dx, fs, rfl, sB4 _ _ hi, noF, _, rfl, _, rfl, ?_⟩
        refine ⟨i, xs, v, D, rfl, M.nodeS i _ _ sB4 hn, M.memS i _ _ v g4 vG, rowD'.same g4, xlen, xnum, fun t' tl' v'' B5 b5 _ ht' hv'' htl' => ?_⟩
        refine ⟨_, rfl, _, rfl, ?_⟩
        refine ⟨sp, e, M.wk i, xs, rfl, hsp.same (sB4.trans b5), okw, rowE.same (g4.trans b5), xlen, xnum, fun B6 b6 => ⟨(by show 1 ≤ sizeLine; decide), fun u' hu'' => ?_⟩⟩
        have b7 := Same.new (o := .lst [V.int (dueW (M.wk i) xs)]) (Same.refl B6) hu''
        have b67 := b6.trans b7
        refine ⟨t', tl', u', v'', dueW (M.wk i) xs, rfl, b67 _ _ ht', b67 _ _ htl', upd_same, dl, _, rfl, iteF ?_⟩
        have b57 := b5.trans b67
        refine ⟨_, rfl, t, _, _, _, rfl, rfl, .inl (.inl (b57 _ _ t4)), atI_nat (j := 0) rfl, ?_⟩
        exact ⟨_, _, _, v', rfl, sB4.trans b57, M.memS i _ _ v' b57 v4⟩
    · rintro σ G ⟨w4, w5, w6, v, rfl, sG, hv⟩
      exact k G sG
end
end Sw
namespace Sw
open PySem PySem.Spec PyProof.Rows L2
abbrev MpS (K : PySem.W.Frag) : Type 1 := Σ C : Addr, Mp K C
def Ms (K : PySem.W.Frag) (cs : Cs) : List (MpS K) := [⟨cs.g, gainM K cs.g⟩, ⟨cs.m, mixM K cs.m⟩, ⟨cs.t, timesM K cs.t⟩, ⟨cs.c, clipM K cs.c⟩, ⟨cs.s, shareM K cs.s⟩, ⟨cs.x, chooseM K cs.x⟩]
theorem ndW_any {K : PySem.W.Frag} {cs : Cs} {wk : Wk} {n : Addr} {H : Hp} (h : NdW K cs wk n H) : ∃ A, A ∈ Ms K cs ∧ ∃ i : A.2.ι, A.2.nd i = n ∧ A.2.wk i = wk ∧ A.2.node i H := by
  unfold Ms
  cases wk with
  | gain b => exact ⟨_, .head _, (⟨n, b⟩ : GI), rfl, rfl, h⟩
  | mix m => exact ⟨_, .tail _ (.head _), (⟨n, .mix m⟩ : PI), rfl, rfl, h⟩
  | times => exact ⟨_, .tail _ (.tail _ (.head _)), (⟨n, .times⟩ : PI), rfl, rfl, h⟩
  | clip lo hi => exact ⟨_, .tail _ (.tail _ (.tail _ (.head _))), (⟨n, .clip lo hi⟩ : PI), rfl, rfl, h⟩
  | share b => exact ⟨_, .tail _ (.tail _ (.tail _ (.tail _ (.head _)))), (⟨n, .share b⟩ : PI), rfl, rfl, h⟩
  | choose => exact ⟨_, .tail _ (.tail _ (.tail _ (.tail _ (.tail _ (.head _))))), (⟨n, .choose⟩ : PI), rfl, rfl, h⟩
theorem ones_ok8 : ∀ m : Nat, m ≤ 8 → SeqAt.shaped (onesD m) = true ∧ PyData.eqv (onesD m) (onesD m) = true := by decide +kernel
theorem many8 {wk : Wk} (ok : okW wk) : manyW wk ≤ 8 := by
  cases wk with
  | mix m => exact ok.2
  | gain b => exact (show 1 ≤ 8 by decide)
  | clip lo hi => exact (show 1 ≤ 8 by decide)
  | share b => exact (show 1 ≤ 8 by decide)
  | times => exact (show 2 ≤ 8 by decide)
  | choose => exact (show 3 ≤ 8 by decide)
theorem RowAt.weak {D : List Addr} {H : Hp} {e : Addr} {xs : List Int} (h : RowAt D H e xs) : RowAt [] H e xs := by
  obtain ⟨_, rs, h1, al⟩ := h
  exact ⟨List.not_mem_nil, rs, h1, al.imp fun r x z => ⟨List.not_mem_nil, z.2⟩⟩
def spLaw (K : PySem.W.Frag) : Sp := fun vs H Q _ => ∃ (a : Addr) (ns : List Int), vs = [.ref a] ∧ SqL K H a (ns.map V.int) ∧ ns.length ≤ 63 ∧ ∀ H', Q (.bl true) H'
section
variable {P : Program} {w : World} {K : PySem.W.Frag} {mg : Str → Option Value} {base : Heap} {f f1 f2 f3 f4 f5 f6 f7 C CN : Addr} {fd fd1 fd2 fd3 fd4 fd5 fd6 fd7 : FuncData} {cs : Cs}
theorem scLaw : FnScope ["_law_script", "_law_k", "_law_pot_here", "_law_spec_here", "_law_node"] ["_law_script"] (defScope sLaw) := ⟨rfl, rfl, rfl, by decide +kernel, rfl, by decide +kernel, by decide +kernel⟩
theorem ok_law (F : FnP K "law" sLaw f fd)
    (GCe : FnOk P w K mg base CX0 1 f1 fd1 ["_law_script", "_law_k"] (spCell K)) (gCe : mg "_law_cell" = some (.ref f1)) (kCe : PySem.W.keepIn K (.ref f1) = true) (bCe : Binds K fd1 ["_law_script", "_law_k"] [])
    (GPo : FnOk P w K mg base CX0 1 f2 fd2 ["_law_cell_here"] spPot) (gPo : mg "_law_pot" = some (.ref f2)) (kPo : PySem.W.keepIn K (.ref f2) = true) (bPo : Binds K fd2 ["_law_cell_here"] [])
    (GDr : FnOk P w K mg base CX0 1 f3 fd3 ["_law_pot_here", "_law_many"] spDraw) (gDr : mg "_law_draw" = some (.ref f3)) (kDr : PySem.W.keepIn K (.ref f3) = true) (bDr : Binds K fd3 ["_law_pot_here", "_law_many"] [])
    (GSp : FnOk P w K mg base CX0 3 f4 fd4 ["_law_pot_here"] (spSpec K)) (gSp : mg "_law_spec" = some (.ref f4)) (kSp : PySem.W.keepIn K (.ref f4) = true) (bSp : Binds K fd4 ["_law_pot_here"] [])
    (GMa : FnOk P w K mg base CX0 6 f5 fd5 ["_law_spec_here"] (spMade K cs)) (gMa : mg "_law_made" = some (.ref f5)) (kMa : PySem.W.keepIn K (.ref f5) = true) (bMa : Binds K fd5 ["_law_spec_here"] [])
    (GSt : FnOk P w K mg base CX0 3 f7 fd7 ["_law_pot_here", "_law_takes", "_law_many"] (spStreams K)) (gSt : mg "_law_streams" = some (.ref f7)) (kSt : PySem.W.keepIn K (.ref f7) = true) (bSt : Binds K fd7 ["_law_pot_here", "_law_takes", "_law_many"] [])
    (GRi : FnG P w K mg base CX0 4 f6 fd6 ["_law_node", "_law_spec_here", "_law_streams_here"] (fun vs H Q E => ∃ A, A ∈ Ms K cs ∧ spPRight A.2 vs H Q E)) (gRi : mg "_law_right" = some (.ref f6)) (kRi : PySem.W.keepIn K (.ref f6) = true) (bRi : Binds K fd6 ["_law_node", "_law_spec_here", "_law_streams_here"] [])
    (hT : ∀ A, A ∈ Ms K cs → MethC P w K mg base 1 "takes" ["self"] (spPTakes A.2) A.1) (hG : ∀ A, A ∈ Ms K cs → MethC P w K mg base 1 "gives" ["self"] (spPGives A.2) A.1) (hI : ∀ A, A ∈ Ms K cs → InsC K A.1 CN) (gN : mg "Node" = some (.ref CN))
    (gRange : mg "range" = none) (gMax : mg "max" = none) (gMin : mg "min" = none) (gLen : mg "len" = none) (gIs : mg "isinstance" = none) : FnG P w K mg base CX0 8 f fd ["_law_script"] (spLaw K) := by
  refine F.okG scLaw (fun vs H Q E h => ?_) (fun cdv A outer s H vs Q E hr guard h => ?_)
  · obtain ⟨a, ns, rfl, _⟩ := h
    rfl
  · obtain ⟨a, ns, rfl, hS, hlen, kk⟩ := h
    have hr6 : Room 6 _ := hr.mono (by decide)
    have hr4 : Room 4 _ := hr.mono (by decide)
    have hr3 : Room 3 _ := hr.mono (by decide)
    have hr1 : Room 1 _ := hr.mono (by decide)
    have hu := hr.units
    have nd := scLaw.nd
    refine ⟨_, PSs.nox (pss_cons (ps_for PassesOwn.never rfl (pi_range1 rfl gRange (pa_cons (pe_callB (call_max2 rfl) (by rfl) gMax (by decide +kernel) (pa_cons pe_int (pa_cons (pe_callB (call_min2 rfl) (by rfl) gMin (by decide +kernel)
          (pa_cons (pe_callB call_len_seq (by rfl) gLen PySem.boot_len (pa_cons (pv 0) pa_nil)) (pa_cons pe_int pa_nil))) pa_nil))) pa_nil)) (pg_name (i := 1) nd rfl (Or.inl rfl))
        (pss_cons (ps_set (i := 2) nd rfl (Or.inl rfl) (pe_call GPo hr1 rfl gPo kPo bPo .nil pass0 (pa_cons (pe_call GCe hr1 rfl gCe kCe bCe .nil pass0 (pa_cons (pv 0) (pa_cons (pv 1) pa_nil))) pa_nil)))
        (pss_cons (ps_set (i := 3) nd rfl (Or.inl rfl) (pe_call GSp hr3 rfl gSp kSp bSp .nil pass0 (pa_cons (pv 2) pa_nil)))
        (pss_cons (ps_set (i := 4) nd rfl (Or.inl rfl) (pe_call GMa hr6 rfl gMa kMa bMa .nil pass0 (pa_cons (pv 3) pa_nil)))
        (pss_cons (ps_if (PW.pt (pw_or (pt_not (pt_val (pe_callB call_isi (by rfl) gIs boot_isinstance (pa_cons (pv 4) (pa_cons (pe_glob (v := .ref CN) rfl gN rfl) pa_nil)))))
            (pw_or (pt_cmpR (op_neD hu) (pe_methOf0 (As := Ms K cs) (cl := fun A => A.1) (sp := fun A => spPTakes A.2) (pv 4) hT hr1) (pe_ix ix_tup (pv 3) pe_int (fun _ _ => rfl)) (nomark _))
              (pw_or1 (pt_cmpR op_ne (pe_methOf0 (As := Ms K cs) (cl := fun A => A.1) (sp := fun A => spPGives A.2) (pv 4) hG hr1) pe_int (nomark _)))))) (pss_one (ps_ret pe_bl)) pss_nil)
        (pss_one (ps_if (pt_not (pt_val (pe_callG GRi hr4 guard rfl gRi kRi bRi .nil pass0 (pa_cons (pv 4) (pa_cons (pv 3) (pa_cons
            (pe_call GSt hr3 rfl gSt kSt bSt .nil pass0 (pa_cons (pv 2) (pa_cons (pe_ix ix_tup (pv 3) pe_int (fun _ _ => rfl)) (pa_cons (pe_op op_add pe_int (pe_call GDr hr1 rfl gDr kDr bDr .nil pass0 (pa_cons (pv 2) (pa_cons pe_int pa_nil)))) pa_nil)))) pa_nil)))))) (pss_one (ps_ret pe_bl)) pss_nil)))))))
      (pss_one (ps_ret pe_bl))), ?_⟩
    refine ⟨_, rfl, a, _, rfl, .inl hS, _, _, rfl, _, _, rfl, _, rfl, ?_, ?_, for_range (fun i σ H' => ∃ (vs : List (Option V)), σ = some (.ref a) :: vs ∧ vs.length = 4 ∧ Same H H') ⟨_, rfl, rfl, Same.refl _⟩ ?_ ?_⟩
    · rw [List.length_map]
      split <;> split <;> omega
    · rw [List.length_map]
      split <;> split <;> omega
    · rintro i σ H1 hi ⟨vs, rfl, hvs, s1⟩
      obtain ⟨u1, u2, u3, u4, rfl⟩ : ∃ u1 u2 u3 u4, vs = [u1, u2, u3, u4] := by
        match vs, hvs with
        | [u1, u2, u3, u4], _ => exact ⟨_, _, _, _, rfl⟩
      refine ⟨_, rfl, _, rfl, a, ns, i, ?_, s1.seq hS, fun z => ?_⟩
      · rw [Int.zero_add]
        rfl
      refine ⟨z, rfl, fun p H2 np s2 hp => ?_⟩
      have p0 : H p = none := s1.free np
      have t2 := s1.trans s2
      refine ⟨_, rfl, p, rfl, hp, fun sp wk H3 k3 hp3 hsp ok => ?_⟩
      have t3 := Same.kept t2 p0 k3
      refine ⟨_, rfl, sp, wk, rfl, hsp, ok, fun n H4 s4 hnd => ?_⟩
      obtain ⟨A, hA, j, ej, ew, hj⟩ := ndW_any hnd
      subst ej ew
      have t4 := t3.trans s4
      have hp4 := hp3.keep s4
      have hsp4 := hsp.same s4
      obtain ⟨fs, ⟨dx, hin⟩, no⟩ := A.2.ins j H4 hj
      have IC := hI A hA
      obtain ⟨_, _, c, _, _, _⟩ := (hT A hA).ex
      refine ⟨_, rfl, _, _, _, _, true, rfl, ClsV.own _, IC.ty c hin, IC.kit, _, rfl, iteF ?_⟩
      refine ⟨_, rfl, A, _, dx, fs, hA, rfl, hin, no "takes" (by decide +kernel), j, rfl, hj, fun t H5 s5 ht => ?_⟩
      have hsp5 := hsp4.same s5
      obtain ⟨o, tk, q1, q2, q3⟩ := id hsp5
      obtain ⟨o1, o2⟩ := ones_ok8 _ (many8 ok)
      refine ⟨_, rfl, sp, _, _, _, rfl, rfl, q1, atI_nat (j := 2) rfl, onesD _, onesD _, .tup ht (dp_ones _), .tup q3 (dp_ones _), o1, o1, ?_⟩
      rw [o2]
      refine ⟨_, rfl, iteF ?_⟩
      refine ⟨_, rfl, A, _, dx, fs, hA, rfl, s5 _ _ hin, no "gives" (by decide +kernel), j, rfl, A.2.nodeS j _ _ s5 hj, rfl, _, rfl, iteNS rfl ?_⟩
      have hp5 := hp4.keep s5
      have t5 := t4.trans s5
      refine ⟨_, rfl, _, rfl, _, rfl, _, rfl, sp, _, _, _, rfl, rfl, q1, atI_nat (j := 2) rfl, _, rfl, p, 9, rfl, hp5, by decide, by decide, fun d H6 d0 d1 k6 hp6 => ?_⟩
      refine ⟨_, _, rfl, rfl, ?_⟩
      have t6 := Same.kept t5 p0 k6
      have hn6 : A.2.node j H6 := A.2.nodeK j _ _ p k6 hp5 (A.2.nodeS j _ _ s5 hj)
      have q3' : SqT K H6 tk _ := k6.tup hp5 q3
      refine ⟨p, tk, _, (1 + d).toNat, ?_, hp6, q3', many8 ok, by omega, fun l es xss H7 k7 hp7 _ hl al nums => ?_⟩
      · rw [Int.toNat_of_nonneg (by omega)]
        rfl
      refine ⟨A, hA, j, sp, l, es, xss, rfl, A.2.nodeK j _ _ p k7 hp6 hn6, (hsp5.kept k6 hp5).kept k7 hp6, hl, al.imp fun _ _ r => r.weak, nums, fun H8 s8 => ⟨_, rfl, iteF ?_⟩⟩
      exact ⟨_, rfl, rfl, (Same.kept t6 p0 k7).trans s8⟩
    · rintro σ H1 ⟨vs, rfl, hvs, s1⟩
      exact kk H1
end
end Sw
namespace Sw
open PySem PySem.Spec PyProof.Rows L2
/-! ### the head: facts by names -/
/-- as hookD, with one test more of the written part -/
def obsX (fa : List He.Fa) (fn : List He.DefD) (ex : PySem.W.Frag → Bool) (K : PySem.W.Frag) : Bool × He.AlD := (ex K, He.obsD fa fn K)
def obsXG (n : Nat) (fa : List He.Fa) (fn : List He.DefD) (ex : PySem.W.Frag → Bool) (g : Addr → Option Obj) : Bool × He.AlD := obsX fa fn ex (He.frG g (cStatics :: He.asD g n))
def hookX (n : Nat) (fa : List He.Fa) (fn : List He.DefD) (ex : PySem.W.Frag → Bool) : PySem.W.Hook where
  α := Bool × He.AlD
  obs := fun s => obsXG n fa fn ex s.heap.get?
  val := fun _ => (true, He.valD fn)
  says := fun _ h => ∃ K : PySem.W.Frag, K.In h ∧ ex K = true ∧ He.SaysD fa fn K
  of := fun _ _ e => ⟨_, He.frG_in, congrArg (fun z : Bool × He.AlD => z.1) e, congrArg (fun z : Bool × He.AlD => z.2) e⟩
  keeps := fun _ _ _ ⟨K, hK, c⟩ k => ⟨K, PySem.W.Frag.In.keeps hK k, c⟩
theorem obsXG_eq {n : Nat} {fa : List He.Fa} {fn : List He.DefD} {ex : PySem.W.Frag → Bool} {g : Addr → Option Obj} {s : Shared} (h : ∀ a, g a = s.heap.get? a) : obsXG n fa fn ex g = (hookX n fa fn ex).obs s := by
  have e : g = s.heap.get? := funext h
  rw [e] <;> rfl
def kitF (K : PySem.W.Frag) (t u : Value) (b : Bool) : Bool := decide (PySem.W.kitOne K t u = some b)
def dfn (x : Str) (st : Stmt) : He.DefD := ⟨(x, none), x, x, defArgs st, defBody st, defScope st, [], []⟩
def baseB (K : PySem.W.Frag) (C f : Addr) (m : Str) : Bool := PySem.W.readsIn K C (.type "type") && (decide (PySem.W.specialIn K (.ref C) "__getattribute__" = some (some (.builtin "type.__getattribute__"))) &&
  ((match PySem.W.findCls K (.ref C) (.type "type") m with
    | some (.val (.ref g)) => decide (g = f)
    | _ => false) && PySem.W.keepIn K (.ref f)))
theorem baseB_ok {K : PySem.W.Frag} {C f : Addr} {m : Str} (h : baseB K C f m = true) : BaseM K C m f := by
  obtain ⟨h1, h⟩ := He.ba h
  obtain ⟨h2, h⟩ := He.ba h
  obtain ⟨h3, h4⟩ := He.ba h
  refine ⟨h1, of_decide_eq_true h2, ?_, h4⟩
  cases e : PySem.W.findCls K (.ref C) (.type "type") m with
  | none =>
    rw [e] at h3
    cases h3
  | some r =>
    rw [e] at h3
    cases r with
    | val v =>
      cases v with
      | ref g => rw [of_decide_eq_true (show decide (g = f) = true from h3)]
      | _ => cases h3
    | get _ _ _ _ => cases h3
def fn : List He.DefD := [dfn "is_whole" sWhole, dfn "is_whole_within" sWithin, dfn "need" sNeed, dfn "run_firing" sFiring, dfn "_law_cell" sCell, dfn "_law_pot" sPot, dfn "_law_draw" sDraw, dfn "_law_number" sNumber, dfn "_law_streams" sStreams, dfn "_law_spec" sSpec, dfn "_law_made" sMade, dfn "_law_rounded" sRounded, dfn "_law_given" sGiven, dfn "_law_is_told" sIsTold, dfn "_law_right" sLRight, dfn "law" sLaw, (⟨("Node", some "__init__"), "__init__", "Node.__init__", defArgs sNodeInit, defBody sNodeInit, defScope sNodeInit, [], []⟩ : He.DefD), (⟨("Gain", some "__init__"), "__init__", "Gain.__init__", defArgs sGainInit, defBody sGainInit, defScope sGainInit, [], [("late", .int 0), ("begin", .int 0)]⟩ : He.DefD), (⟨("Gain", some "takes"), "takes", "Gain.takes", defArgs sGainTakes, defBody sGainTakes, defScope sGainTakes, [], []⟩ : He.DefD), (⟨("Gain", some "gives"), "gives", "Gain.gives", defArgs sGainGives, defBody sGainGives, defScope sGainGives, [], []⟩ : He.DefD), (⟨("Gain", some "fresh"), "fresh", "Gain.fresh", defArgs sGainFresh, defBody sGainFresh, defScope sGainFresh, [], []⟩ : He.DefD), (⟨("Gain", some "fire"), "fire", "Gain.fire", defArgs sGainFire, defBody sGainFire, defScope sGainFire, [], []⟩ : He.DefD), (⟨("Gain", some "work"), "work", "Gain.work", defArgs sGainWork, defBody sGainWork, defScope sGainWork, [], []⟩ : He.DefD), (⟨("Mix", some "__init__"), "__init__", "Mix.__init__", defArgs sMixInit, defBody sMixInit, defScope sMixInit, [], [("late", .int 0), ("begin", .int 0)]⟩ : He.DefD), (⟨("Mix", some "takes"), "takes", "Mix.takes", defArgs sMixTakes, defBody sMixTakes, defScope sMixTakes, [], []⟩ : He.DefD), (⟨("Mix", some "gives"), "gives", "Mix.gives", defArgs sMixGives, defBody sMixGives, defScope sMixGives, [], []⟩ : He.DefD), (⟨("Mix", some "fresh"), "fresh", "Mix.fresh", defArgs sMixFresh, defBody sMixFresh, defScope sMixFresh, [], []⟩ : He.DefD), (⟨("Mix", some "fire"), "fire", "Mix.fire", defArgs sMixFire, defBody sMixFire, defScope sMixFire, [], []⟩ : He.DefD), (⟨("Mix", some "work"), "work", "Mix.work", defArgs sMixWork, defBody sMixWork, defScope sMixWork, [], []⟩ : He.DefD), (⟨("Times", some "__init__"), "__init__", "Times.__init__", defArgs sTimesInit, defBody sTimesInit, defScope sTimesInit, [], [("late", .int 0), ("begin", .int 0)]⟩ : He.DefD), (⟨("Times", some "takes"), "takes", "Times.takes", defArgs sTimesTakes, defBody sTimesTakes, defScope sTimesTakes, [], []⟩ : He.DefD), (⟨("Times", some "gives"), "gives", "Times.gives", defArgs sTimesGives, defBody sTimesGives, defScope sTimesGives, [], []⟩ : He.DefD), (⟨("Times", some "fresh"), "fresh", "Times.fresh", defArgs sTimesFresh, defBody sTimesFresh, defScope sTimesFresh, [], []⟩ : He.DefD), (⟨("Times", some "fire"), "fire", "Times.fire", defArgs sTimesFire, defBody sTimesFire, defScope sTimesFire, [], []⟩ : He.DefD), (⟨("Times", some "work"), "work", "Times.work", defArgs sTimesWork, defBody sTimesWork, defScope sTimesWork, [], []⟩ : He.DefD), (⟨("Clip", some "__init__"), "__init__", "Clip.__init__", defArgs sClipInit, defBody sClipInit, defScope sClipInit, [], [("late", .int 0), ("begin", .int 0)]⟩ : He.DefD), (⟨("Clip", some "takes"), "takes", "Clip.takes", defArgs sClipTakes, defBody sClipTakes, defScope sClipTakes, [], []⟩ : He.DefD), (⟨("Clip", some "gives"), "gives", "Clip.gives", defArgs sClipGives, defBody sClipGives, defScope sClipGives, [], []⟩ : He.DefD), (⟨("Clip", some "fresh"), "fresh", "Clip.fresh", defArgs sClipFresh, defBody sClipFresh, defScope sClipFresh, [], []⟩ : He.DefD), (⟨("Clip", some "fire"), "fire", "Clip.fire", defArgs sClipFire, defBody sClipFire, defScope sClipFire, [], []⟩ : He.DefD), (⟨("Clip", some "work"), "work", "Clip.work", defArgs sClipWork, defBody sClipWork, defScope sClipWork, [], []⟩ : He.DefD), (⟨("Share", some "__init__"), "__init__", "Share.__init__", defArgs sShareInit, defBody sShareInit, defScope sShareInit, [], [("late", .int 0), ("begin", .int 0)]⟩ : He.DefD), (⟨("Share", some "takes"), "takes", "Share.takes", defArgs sShareTakes, defBody sShareTakes, defScope sShareTakes, [], []⟩ : He.DefD), (⟨("Share", some "gives"), "gives", "Share.gives", defArgs sShareGives, defBody sShareGives, defScope sShareGives, [], []⟩ : He.DefD), (⟨("Share", some "fresh"), "fresh", "Share.fresh", defArgs sShareFresh, defBody sShareFresh, defScope sShareFresh, [], []⟩ : He.DefD), (⟨("Share", some "fire"), "fire", "Share.fire", defArgs sShareFire, defBody sShareFire, defScope sShareFire, [], []⟩ : He.DefD), (⟨("Share", some "work"), "work", "Share.work", defArgs sShareWork, defBody sShareWork, defScope sShareWork, [], []⟩ : He.DefD), (⟨("Choose", some "__init__"), "__init__", "Choose.__init__", defArgs sChooseInit, defBody sChooseInit, defScope sChooseInit, [], [("late", .int 0), ("begin", .int 0)]⟩ : He.DefD), (⟨("Choose", some "takes"), "takes", "Choose.takes", defArgs sChooseTakes, defBody sChooseTakes, defScope sChooseTakes, [], []⟩ : He.DefD), (⟨("Choose", some "gives"), "gives", "Choose.gives", defArgs sChooseGives, defBody sChooseGives, defScope sChooseGives, [], []⟩ : He.DefD), (⟨("Choose", some "fresh"), "fresh", "Choose.fresh", defArgs sChooseFresh, defBody sChooseFresh, defScope sChooseFresh, [], []⟩ : He.DefD), (⟨("Choose", some "fire"), "fire", "Choose.fire", defArgs sChooseFire, defBody sChooseFire, defScope sChooseFire, [], []⟩ : He.DefD), (⟨("Choose", some "work"), "work", "Choose.work", defArgs sChooseWork, defBody sChooseWork, defScope sChooseWork, [], []⟩ : He.DefD)]
def fa : List He.Fa := [.glo "is_whole", .glo "is_whole_within", .glo "need", .glo "run_firing", .glo "_law_cell", .glo "_law_pot", .glo "_law_draw", .glo "_law_number", .glo "_law_streams", .glo "_law_spec", .glo "_law_made", .glo "_law_rounded", .glo "_law_given", .glo "_law_is_told", .glo "_law_right", .glo "law", .free "len", .free "max", .free "min", .free "range", .free "isinstance", .free "int", .free "bool", .free "list", .free "tuple", .free "repr", .free "sum", .free "abs", .free "sorted", .int "MOST_LATE" 99, .int "MOST_BEGIN" 9999, .int "MOST_MIXED" 8, .glo "Node", .glo "Gain", .glo "Mix", .glo "Times", .glo "Clip", .glo "Share", .glo "Choose", .cls "Gain", .noat "Gain" "made", .noat "Gain" "late_by", .noat "Gain" "begin_at", .noat "Gain" "by", .mkr "Gain", .meth "Gain" "takes", .meth "Gain" "gives", .meth "Gain" "fresh", .meth "Gain" "fire", .meth "Gain" "work", .cls "Mix", .noat "Mix" "made", .noat "Mix" "late_by", .noat "Mix" "begin_at", .noat "Mix" "many", .mkr "Mix", .meth "Mix" "takes", .meth "Mix" "gives", .meth "Mix" "fresh", .meth "Mix" "fire", .meth "Mix" "work", .cls "Times", .noat "Times" "made", .noat "Times" "late_by", .noat "Times" "begin_at", .mkr "Times", .meth "Times" "takes", .meth "Times" "gives", .meth "Times" "fresh", .meth "Times" "fire", .meth "Times" "work", .cls "Clip", .noat "Clip" "made", .noat "Clip" "late_by", .noat "Clip" "begin_at", .noat "Clip" "low", .noat "Clip" "high", .mkr "Clip", .meth "Clip" "takes", .meth "Clip" "gives", .meth "Clip" "fresh", .meth "Clip" "fire", .meth "Clip" "work", .cls "Share", .noat "Share" "made", .noat "Share" "late_by", .noat "Share" "begin_at", .noat "Share" "by", .mkr "Share", .meth "Share" "takes", .meth "Share" "gives", .meth "Share" "fresh", .meth "Share" "fire", .meth "Share" "work", .cls "Choose", .noat "Choose" "made", .noat "Choose" "late_by", .noat "Choose" "begin_at", .mkr "Choose", .meth "Choose" "takes", .meth "Choose" "gives", .meth "Choose" "fresh", .meth "Choose" "fire", .meth "Choose" "work"]
def ex (K : PySem.W.Frag) : Bool := insB K (He.ga K "Choose") (He.ga K "Node") && (insB K (He.ga K "Share") (He.ga K "Node") && (insB K (He.ga K "Clip") (He.ga K "Node") && (insB K (He.ga K "Times") (He.ga K "Node") && (insB K (He.ga K "Mix") (He.ga K "Node") && (insB K (He.ga K "Gain") (He.ga K "Node") && (baseB K (He.ga K "Node") (He.ma K (He.ga K "Node") "__init__") "__init__"))))))
abbrev R : PySem.W.OpenRow := PySem.W.OpenLaw.row PySem.Challenge.rw_sampleweave_k12_plain_nodes
abbrev hk : PySem.W.Hook := hookX 5 fa fn ex
def ob (s : PySem.W.SharedT) : Bool × He.AlD := obsXG 5 fa fn ex (HandSHeadRun.getT s)
theorem ob_eq (s : PySem.W.SharedT) : ob s = hk.obs s.abs := obsXG_eq (HandSHeadRun.getT_eq s)
def loose : List Str := ["_wall", "WeaveError", "NoNode", "is_whole", "is_whole_within", "need", "run_firing", "MOST_LATE", "MOST_BEGIN", "MOST_MIXED", "Node", "Gain", "Mix", "Times", "Clip", "Share", "Choose", "_law_cell", "_law_pot", "_law_draw", "_law_number", "_law_streams", "_law_spec", "_law_made", "_law_rounded", "_law_given", "_law_is_told", "_law_right"]
theorem run (w : World) : HandSHeadRun.RunEq R (PySem.W.view R.prog [33]) hk ob 9000 loose w := by
  intro os
  kernel_rfl
theorem facts {P : Program} {w : World} {K : PySem.W.Frag} {h : Heap} {mg : Str → Option Value} {f : Addr} (X : K.In h) (G : h.Ns mainGlobals mg) (hfa : mg ("law" : Str) = some (.ref f)) (cx : ex K = true) (c : He.SaysD fa fn K) :
    ∃ fd : FuncData, (∀ (s : Shared) (v : Value), BindsTo s fd ⟨[v], []⟩ [("_law_script", v)]) ∧ ∀ base : Heap, K.In base → base.Ns mainGlobals mg → FnG P w K mg base CX0 8 f fd ["_law_script"] (spLaw K) := by
  unfold ex at cx
  obtain ⟨d_is_whole, F_is_whole⟩ := c.def_ 0 (d := dfn "is_whole" sWhole) rfl
  have g_is_whole := He.glo_ok X G (c.fact 0 (f := .glo "is_whole") rfl)
  have b_is_whole : Binds K d_is_whole ["thing"] [] := FunD.bindsN F_is_whole fun _ _ _ _ _ _ us hl => match us, hl with | [_], _ => rfl
  obtain ⟨d_is_whole_within, F_is_whole_within⟩ := c.def_ 1 (d := dfn "is_whole_within" sWithin) rfl
  have g_is_whole_within := He.glo_ok X G (c.fact 1 (f := .glo "is_whole_within") rfl)
  have b_is_whole_within : Binds K d_is_whole_within ["thing", "least", "most"] [] := FunD.bindsN F_is_whole_within fun _ _ _ _ _ _ us hl => match us, hl with | [_, _, _], _ => rfl
  obtain ⟨d_need, F_need⟩ := c.def_ 2 (d := dfn "need" sNeed) rfl
  have g_need := He.glo_ok X G (c.fact 2 (f := .glo "need") rfl)
  have b_need : Binds K d_need ["holds", "field"] [] := FunD.bindsN F_need fun _ _ _ _ _ _ us hl => match us, hl with | [_, _], _ => rfl
  obtain ⟨d_run_firing, F_run_firing⟩ := c.def_ 3 (d := dfn "run_firing" sFiring) rfl
  have g_run_firing := He.glo_ok X G (c.fact 3 (f := .glo "run_firing") rfl)
  have b_run_firing : Binds K d_run_firing ["node", "memory", "rows"] [] := FunD.bindsN F_run_firing fun _ _ _ _ _ _ us hl => match us, hl with | [_, _, _], _ => rfl
  obtain ⟨d__law_cell, F__law_cell⟩ := c.def_ 4 (d := dfn "_law_cell" sCell) rfl
  have g__law_cell := He.glo_ok X G (c.fact 4 (f := .glo "_law_cell") rfl)
  have b__law_cell : Binds K d__law_cell ["_law_script", "_law_k"] [] := FunD.bindsN F__law_cell fun _ _ _ _ _ _ us hl => match us, hl with | [_, _], _ => rfl
  obtain ⟨d__law_pot, F__law_pot⟩ := c.def_ 5 (d := dfn "_law_pot" sPot) rfl
  have g__law_pot := He.glo_ok X G (c.fact 5 (f := .glo "_law_pot") rfl)
  have b__law_pot : Binds K d__law_pot ["_law_cell_here"] [] := FunD.bindsN F__law_pot fun _ _ _ _ _ _ us hl => match us, hl with | [_], _ => rfl
  obtain ⟨d__law_draw, F__law_draw⟩ := c.def_ 6 (d := dfn "_law_draw" sDraw) rfl
  have g__law_draw := He.glo_ok X G (c.fact 6 (f := .glo "_law_draw") rfl)
  have b__law_draw : Binds K d__law_draw ["_law_pot_here", "_law_many"] [] := FunD.bindsN F__law_draw fun _ _ _ _ _ _ us hl => match us, hl with | [_, _], _ => rfl
  obtain ⟨d__law_number, F__law_number⟩ := c.def_ 7 (d := dfn "_law_number" sNumber) rfl
  have g__law_number := He.glo_ok X G (c.fact 7 (f := .glo "_law_number") rfl)
  have b__law_number : Binds K d__law_number ["_law_pot_here"] [] := FunD.bindsN F__law_number fun _ _ _ _ _ _ us hl => match us, hl with | [_], _ => rfl
  obtain ⟨d__law_streams, F__law_streams⟩ := c.def_ 8 (d := dfn "_law_streams" sStreams) rfl
  have g__law_streams := He.glo_ok X G (c.fact 8 (f := .glo "_law_streams") rfl)
  have b__law_streams : Binds K d__law_streams ["_law_pot_here", "_law_takes", "_law_many"] [] := FunD.bindsN F__law_streams fun _ _ _ _ _ _ us hl => match us, hl with | [_, _, _], _ => rfl
  obtain ⟨d__law_spec, F__law_spec⟩ := c.def_ 9 (d := dfn "_law_spec" sSpec) rfl
  have g__law_spec := He.glo_ok X G (c.fact 9 (f := .glo "_law_spec") rfl)
  have b__law_spec : Binds K d__law_spec ["_law_pot_here"] [] := FunD.bindsN F__law_spec fun _ _ _ _ _ _ us hl => match us, hl with | [_], _ => rfl
  obtain ⟨d__law_made, F__law_made⟩ := c.def_ 10 (d := dfn "_law_made" sMade) rfl
  have g__law_made := He.glo_ok X G (c.fact 10 (f := .glo "_law_made") rfl)
  have b__law_made : Binds K d__law_made ["_law_spec_here"] [] := FunD.bindsN F__law_made fun _ _ _ _ _ _ us hl => match us, hl with | [_], _ => rfl
  obtain ⟨d__law_rounded, F__law_rounded⟩ := c.def_ 11 (d := dfn "_law_rounded" sRounded) rfl
  have g__law_rounded := He.glo_ok X G (c.fact 11 (f := .glo "_law_rounded") rfl)
  have b__law_rounded : Binds K d__law_rounded ["_law_sample", "_law_by"] [] := FunD.bindsN F__law_rounded fun _ _ _ _ _ _ us hl => match us, hl with | [_, _], _ => rfl
  obtain ⟨d__law_given, F__law_given⟩ := c.def_ 12 (d := dfn "_law_given" sGiven) rfl
  have g__law_given := He.glo_ok X G (c.fact 12 (f := .glo "_law_given") rfl)
  have b__law_given : Binds K d__law_given ["_law_spec_here", "_law_rows"] [] := FunD.bindsN F__law_given fun _ _ _ _ _ _ us hl => match us, hl with | [_, _], _ => rfl
  obtain ⟨d__law_is_told, F__law_is_told⟩ := c.def_ 13 (d := dfn "_law_is_told" sIsTold) rfl
  have g__law_is_told := He.glo_ok X G (c.fact 13 (f := .glo "_law_is_told") rfl)
  have b__law_is_told : Binds K d__law_is_told ["_law_told", "_law_due"] [] := FunD.bindsN F__law_is_told fun _ _ _ _ _ _ us hl => match us, hl with | [_, _], _ => rfl
  obtain ⟨d__law_right, F__law_right⟩ := c.def_ 14 (d := dfn "_law_right" sLRight) rfl
  have g__law_right := He.glo_ok X G (c.fact 14 (f := .glo "_law_right") rfl)
  have b__law_right : Binds K d__law_right ["_law_node", "_law_spec_here", "_law_streams_here"] [] := FunD.bindsN F__law_right fun _ _ _ _ _ _ us hl => match us, hl with | [_, _, _], _ => rfl
  obtain ⟨d_law, F_law⟩ := c.def_ 15 (d := dfn "law" sLaw) rfl
  have e := hfa.symm.trans (He.glo_ok X G (c.fact 15 (f := .glo "law") rfl))
  cases e
  have bL := FunD.bindsA (ps := ["_law_script"]) F_law fun _ _ _ _ _ _ us hl => match us, hl with | [_], _ => rfl
  obtain ⟨d_Node_DinitD, F_Node_DinitD⟩ := c.def_ 16 (d := (⟨("Node", some "__init__"), "__init__", "Node.__init__", defArgs sNodeInit, defBody sNodeInit, defScope sNodeInit, [], []⟩ : He.DefD)) rfl
  have b_Node_DinitD : Binds K d_Node_DinitD ["self", "arguments", "late", "begin"] [] := FunD.bindsN F_Node_DinitD fun _ _ _ _ _ _ us hl => match us, hl with | [_, _, _, _], _ => rfl
  obtain ⟨d_Gain_DinitD, F_Gain_DinitD⟩ := c.def_ 17 (d := (⟨("Gain", some "__init__"), "__init__", "Gain.__init__", defArgs sGainInit, defBody sGainInit, defScope sGainInit, [], [("late", .int 0), ("begin", .int 0)]⟩ : He.DefD)) rfl
  obtain ⟨d_Gain_takes, F_Gain_takes⟩ := c.def_ 18 (d := (⟨("Gain", some "takes"), "takes", "Gain.takes", defArgs sGainTakes, defBody sGainTakes, defScope sGainTakes, [], []⟩ : He.DefD)) rfl
  have b_Gain_takes : Binds K d_Gain_takes ["self"] [] := FunD.bindsN F_Gain_takes fun _ _ _ _ _ _ us hl => match us, hl with | [_], _ => rfl
  obtain ⟨d_Gain_gives, F_Gain_gives⟩ := c.def_ 19 (d := (⟨("Gain", some "gives"), "gives", "Gain.gives", defArgs sGainGives, defBody sGainGives, defScope sGainGives, [], []⟩ : He.DefD)) rfl
  have b_Gain_gives : Binds K d_Gain_gives ["self"] [] := FunD.bindsN F_Gain_gives fun _ _ _ _ _ _ us hl => match us, hl with | [_], _ => rfl
  obtain ⟨d_Gain_fresh, F_Gain_fresh⟩ := c.def_ 20 (d := (⟨("Gain", some "fresh"), "fresh", "Gain.fresh", defArgs sGainFresh, defBody sGainFresh, defScope sGainFresh, [], []⟩ : He.DefD)) rfl
  have b_Gain_fresh : Binds K d_Gain_fresh ["self"] [] := FunD.bindsN F_Gain_fresh fun _ _ _ _ _ _ us hl => match us, hl with | [_], _ => rfl
  obtain ⟨d_Gain_fire, F_Gain_fire⟩ := c.def_ 21 (d := (⟨("Gain", some "fire"), "fire", "Gain.fire", defArgs sGainFire, defBody sGainFire, defScope sGainFire, [], []⟩ : He.DefD)) rfl
  have b_Gain_fire : Binds K d_Gain_fire ["self", "memory", "rows"] [] := FunD.bindsN F_Gain_fire fun _ _ _ _ _ _ us hl => match us, hl with | [_, _, _], _ => rfl
  obtain ⟨d_Gain_work, F_Gain_work⟩ := c.def_ 22 (d := (⟨("Gain", some "work"), "work", "Gain.work", defArgs sGainWork, defBody sGainWork, defScope sGainWork, [], []⟩ : He.DefD)) rfl
  have b_Gain_work : Binds K d_Gain_work ["self", "kept", "rows"] [] := FunD.bindsN F_Gain_work fun _ _ _ _ _ _ us hl => match us, hl with | [_, _, _], _ => rfl
  obtain ⟨d_Mix_DinitD, F_Mix_DinitD⟩ := c.def_ 23 (d := (⟨("Mix", some "__init__"), "__init__", "Mix.__init__", defArgs sMixInit, defBody sMixInit, defScope sMixInit, [], [("late", .int 0), ("begin", .int 0)]⟩ : He.DefD)) rfl
  obtain ⟨d_Mix_takes, F_Mix_takes⟩ := c.def_ 24 (d := (⟨("Mix", some "takes"), "takes", "Mix.takes", defArgs sMixTakes, defBody sMixTakes, defScope sMixTakes, [], []⟩ : He.DefD)) rfl
  have b_Mix_takes : Binds K d_Mix_takes ["self"] [] := FunD.bindsN F_Mix_takes fun _ _ _ _ _ _ us hl => match us, hl with | [_], _ => rfl
  obtain ⟨d_Mix_gives, F_Mix_gives⟩ := c.def_ 25 (d := (⟨("Mix", some "gives"), "gives", "Mix.gives", defArgs sMixGives, defBody sMixGives, defScope sMixGives, [], []⟩ : He.DefD)) rfl
  have b_Mix_gives : Binds K d_Mix_gives ["self"] [] := FunD.bindsN F_Mix_gives fun _ _ _ _ _ _ us hl => match us, hl with | [_], _ => rfl
  obtain ⟨d_Mix_fresh, F_Mix_fresh⟩ := c.def_ 26 (d := (⟨("Mix", some "fresh"), "fresh", "Mix.fresh", defArgs sMixFresh, defBody sMixFresh, defScope sMixFresh, [], []⟩ : He.DefD)) rfl
  have b_Mix_fresh : Binds K d_Mix_fresh ["self"] [] := FunD.bindsN F_Mix_fresh fun _ _ _ _ _ _ us hl => match us, hl with | [_], _ => rfl
  obtain ⟨d_Mix_fire, F_Mix_fire⟩ := c.def_ 27 (d := (⟨("Mix", some "fire"), "fire", "Mix.fire", defArgs sMixFire, defBody sMixFire, defScope sMixFire, [], []⟩ : He.DefD)) rfl
  have b_Mix_fire : Binds K d_Mix_fire ["self", "memory", "rows"] [] := FunD.bindsN F_Mix_fire fun _ _ _ _ _ _ us hl => match us, hl with | [_, _, _], _ => rfl
  obtain ⟨d_Mix_work, F_Mix_work⟩ := c.def_ 28 (d := (⟨("Mix", some "work"), "work", "Mix.work", defArgs sMixWork, defBody sMixWork, defScope sMixWork, [], []⟩ : He.DefD)) rfl
  have b_Mix_work : Binds K d_Mix_work ["self", "kept", "rows"] [] := FunD.bindsN F_Mix_work fun _ _ _ _ _ _ us hl => match us, hl with | [_, _, _], _ => rfl
  obtain ⟨d_Times_DinitD, F_Times_DinitD⟩ := c.def_ 29 (d := (⟨("Times", some "__init__"), "__init__", "Times.__init__", defArgs sTimesInit, defBody sTimesInit, defScope sTimesInit, [], [("late", .int 0), ("begin", .int 0)]⟩ : He.DefD)) rfl
  obtain ⟨d_Times_takes, F_Times_takes⟩ := c.def_ 30 (d := (⟨("Times", some "takes"), "takes", "Times.takes", defArgs sTimesTakes, defBody sTimesTakes, defScope sTimesTakes, [], []⟩ : He.DefD)) rfl
  have b_Times_takes : Binds K d_Times_takes ["self"] [] := FunD.bindsN F_Times_takes fun _ _ _ _ _ _ us hl => match us, hl with | [_], _ => rfl
  obtain ⟨d_Times_gives, F_Times_gives⟩ := c.def_ 31 (d := (⟨("Times", some "gives"), "gives", "Times.gives", defArgs sTimesGives, defBody sTimesGives, defScope sTimesGives, [], []⟩ : He.DefD)) rfl
  have b_Times_gives : Binds K d_Times_gives ["self"] [] := FunD.bindsN F_Times_gives fun _ _ _ _ _ _ us hl => match us, hl with | [_], _ => rfl
  obtain ⟨d_Times_fresh, F_Times_fresh⟩ := c.def_ 32 (d := (⟨("Times", some "fresh"), "fresh", "Times.fresh", defArgs sTimesFresh, defBody sTimesFresh, defScope sTimesFresh, [], []⟩ : He.DefD)) rfl
  have b_Times_fresh : Binds K d_Times_fresh ["self"] [] := FunD.bindsN F_Times_fresh fun _ _ _ _ _ _ us hl => match us, hl with | [_], _ => rfl
  obtain ⟨d_Times_fire, F_Times_fire⟩ := c.def_ 33 (d := (⟨("Times", some "fire"), "fire", "Times.fire", defArgs sTimesFire, defBody sTimesFire, defScope sTimesFire, [], []⟩ : He.DefD)) rfl
  have b_Times_fire : Binds K d_Times_fire ["self", "memory", "rows"] [] := FunD.bindsN F_Times_fire fun _ _ _ _ _ _ us hl => match us, hl with | [_, _, _], _ => rfl
  obtain ⟨d_Times_work, F_Times_work⟩ := c.def_ 34 (d := (⟨("Times", some "work"), "work", "Times.work", defArgs sTimesWork, defBody sTimesWork, defScope sTimesWork, [], []⟩ : He.DefD)) rfl
  have b_Times_work : Binds K d_Times_work ["self", "kept", "rows"] [] := FunD.bindsN F_Times_work fun _ _ _ _ _ _ us hl => match us, hl with | [_, _, _], _ => rfl
  obtain ⟨d_Clip_DinitD, F_Clip_DinitD⟩ := c.def_ 35 (d := (⟨("Clip", some "__init__"), "__init__", "Clip.__init__", defArgs sClipInit, defBody sClipInit, defScope sClipInit, [], [("late", .int 0), ("begin", .int 0)]⟩ : He.DefD)) rfl
  obtain ⟨d_Clip_takes, F_Clip_takes⟩ := c.def_ 36 (d := (⟨("Clip", some "takes"), "takes", "Clip.takes", defArgs sClipTakes, defBody sClipTakes, defScope sClipTakes, [], []⟩ : He.DefD)) rfl
  have b_Clip_takes : Binds K d_Clip_takes ["self"] [] := FunD.bindsN F_Clip_takes fun _ _ _ _ _ _ us hl => match us, hl with | [_], _ => rfl
  obtain ⟨d_Clip_gives, F_Clip_gives⟩ := c.def_ 37 (d := (⟨("Clip", some "gives"), "gives", "Clip.gives", defArgs sClipGives, defBody sClipGives, defScope sClipGives, [], []⟩ : He.DefD)) rfl
  have b_Clip_gives : Binds K d_Clip_gives ["self"] [] := FunD.bindsN F_Clip_gives fun _ _ _ _ _ _ us hl => match us, hl with | [_], _ => rfl
  obtain ⟨d_Clip_fresh, F_Clip_fresh⟩ := c.def_ 38 (d := (⟨("Clip", some "fresh"), "fresh", "Clip.fresh", defArgs sClipFresh, defBody sClipFresh, defScope sClipFresh, [], []⟩ : He.DefD)) rfl
  have b_Clip_fresh : Binds K d_Clip_fresh ["self"] [] := FunD.bindsN F_Clip_fresh fun _ _ _ _ _ _ us hl => match us, hl with | [_], _ => rfl
  obtain ⟨d_Clip_fire, F_Clip_fire⟩ := c.def_ 39 (d := (⟨("Clip", some "fire"), "fire", "Clip.fire", defArgs sClipFire, defBody sClipFire, defScope sClipFire, [], []⟩ : He.DefD)) rfl
  have b_Clip_fire : Binds K d_Clip_fire ["self", "memory", "rows"] [] := FunD.bindsN F_Clip_fire fun _ _ _ _ _ _ us hl => match us, hl with | [_, _, _], _ => rfl
  obtain ⟨d_Clip_work, F_Clip_work⟩ := c.def_ 40 (d := (⟨("Clip", some "work"), "work", "Clip.work", defArgs sClipWork, defBody sClipWork, defScope sClipWork, [], []⟩ : He.DefD)) rfl
  have b_Clip_work : Binds K d_Clip_work ["self", "kept", "rows"] [] := FunD.bindsN F_Clip_work fun _ _ _ _ _ _ us hl => match us, hl with | [_, _, _], _ => rfl
  obtain ⟨d_Share_DinitD, F_Share_DinitD⟩ := c.def_ 41 (d := (⟨("Share", some "__init__"), "__init__", "Share.__init__", defArgs sShareInit, defBody sShareInit, defScope sShareInit, [], [("late", .int 0), ("begin", .int 0)]⟩ : He.DefD)) rfl
  obtain ⟨d_Share_takes, F_Share_takes⟩ := c.def_ 42 (d := (⟨("Share", some "takes"), "takes", "Share.takes", defArgs sShareTakes, defBody sShareTakes, defScope sShareTakes, [], []⟩ : He.DefD)) rfl
  have b_Share_takes : Binds K d_Share_takes ["self"] [] := FunD.bindsN F_Share_takes fun _ _ _ _ _ _ us hl => match us, hl with | [_], _ => rfl
  obtain ⟨d_Share_gives, F_Share_gives⟩ := c.def_ 43 (d := (⟨("Share", some "gives"), "gives", "Share.gives", defArgs sShareGives, defBody sShareGives, defScope sShareGives, [], []⟩ : He.DefD)) rfl
  have b_Share_gives : Binds K d_Share_gives ["self"] [] := FunD.bindsN F_Share_gives fun _ _ _ _ _ _ us hl => match us, hl with | [_], _ => rfl
  obtain ⟨d_Share_fresh, F_Share_fresh⟩ := c.def_ 44 (d := (⟨("Share", some "fresh"), "fresh", "Share.fresh", defArgs sShareFresh, defBody sShareFresh, defScope sShareFresh, [], []⟩ : He.DefD)) rfl
  have b_Share_fresh : Binds K d_Share_fresh ["self"] [] := FunD.bindsN F_Share_fresh fun _ _ _ _ _ _ us hl => match us, hl with | [_], _ => rfl
  obtain ⟨d_Share_fire, F_Share_fire⟩ := c.def_ 45 (d := (⟨("Share", some "fire"), "fire", "Share.fire", defArgs sShareFire, defBody sShareFire, defScope sShareFire, [], []⟩ : He.DefD)) rfl
  have b_Share_fire : Binds K d_Share_fire ["self", "memory", "rows"] [] := FunD.bindsN F_Share_fire fun _ _ _ _ _ _ us hl => match us, hl with | [_, _, _], _ => rfl
  obtain ⟨d_Share_work, F_Share_work⟩ := c.def_ 46 (d := (⟨("Share", some "work"), "work", "Share.work", defArgs sShareWork, defBody sShareWork, defScope sShareWork, [], []⟩ : He.DefD)) rfl
  have b_Share_work : Binds K d_Share_work ["self", "kept", "rows"] [] := FunD.bindsN F_Share_work fun _ _ _ _ _ _ us hl => match us, hl with | [_, _, _], _ => rfl
  obtain ⟨d_Choose_DinitD, F_Choose_DinitD⟩ := c.def_ 47 (d := (⟨("Choose", some "__init__"), "__init__", "Choose.__init__", defArgs sChooseInit, defBody sChooseInit, defScope sChooseInit, [], [("late", .int 0), ("begin", .int 0)]⟩ : He.DefD)) rfl
  obtain ⟨d_Choose_takes, F_Choose_takes⟩ := c.def_ 48 (d := (⟨("Choose", some "takes"), "takes", "Choose.takes", defArgs sChooseTakes, defBody sChooseTakes, defScope sChooseTakes, [], []⟩ : He.DefD)) rfl
  have b_Choose_takes : Binds K d_Choose_takes ["self"] [] := FunD.bindsN F_Choose_takes fun _ _ _ _ _ _ us hl => match us, hl with | [_], _ => rfl
  obtain ⟨d_Choose_gives, F_Choose_gives⟩ := c.def_ 49 (d := (⟨("Choose", some "gives"), "gives", "Choose.gives", defArgs sChooseGives, defBody sChooseGives, defScope sChooseGives, [], []⟩ : He.DefD)) rfl
  have b_Choose_gives : Binds K d_Choose_gives ["self"] [] := FunD.bindsN F_Choose_gives fun _ _ _ _ _ _ us hl => match us, hl with | [_], _ => rfl
  obtain ⟨d_Choose_fresh, F_Choose_fresh⟩ := c.def_ 50 (d := (⟨("Choose", some "fresh"), "fresh", "Choose.fresh", defArgs sChooseFresh, defBody sChooseFresh, defScope sChooseFresh, [], []⟩ : He.DefD)) rfl
  have b_Choose_fresh : Binds K d_Choose_fresh ["self"] [] := FunD.bindsN F_Choose_fresh fun _ _ _ _ _ _ us hl => match us, hl with | [_], _ => rfl
  obtain ⟨d_Choose_fire, F_Choose_fire⟩ := c.def_ 51 (d := (⟨("Choose", some "fire"), "fire", "Choose.fire", defArgs sChooseFire, defBody sChooseFire, defScope sChooseFire, [], []⟩ : He.DefD)) rfl
  have b_Choose_fire : Binds K d_Choose_fire ["self", "memory", "rows"] [] := FunD.bindsN F_Choose_fire fun _ _ _ _ _ _ us hl => match us, hl with | [_, _, _], _ => rfl
  obtain ⟨d_Choose_work, F_Choose_work⟩ := c.def_ 52 (d := (⟨("Choose", some "work"), "work", "Choose.work", defArgs sChooseWork, defBody sChooseWork, defScope sChooseWork, [], []⟩ : He.DefD)) rfl
  have b_Choose_work : Binds K d_Choose_work ["self", "kept", "rows"] [] := FunD.bindsN F_Choose_work fun _ _ _ _ _ _ us hl => match us, hl with | [_, _, _], _ => rfl
  have z_len := He.free_ok X G (c.fact 16 (f := .free "len") rfl)
  have z_max := He.free_ok X G (c.fact 17 (f := .free "max") rfl)
  have z_min := He.free_ok X G (c.fact 18 (f := .free "min") rfl)
  have z_range := He.free_ok X G (c.fact 19 (f := .free "range") rfl)
  have z_isinstance := He.free_ok X G (c.fact 20 (f := .free "isinstance") rfl)
  have z_int := He.free_ok X G (c.fact 21 (f := .free "int") rfl)
  have z_bool := He.free_ok X G (c.fact 22 (f := .free "bool") rfl)
  have z_list := He.free_ok X G (c.fact 23 (f := .free "list") rfl)
  have z_tuple := He.free_ok X G (c.fact 24 (f := .free "tuple") rfl)
  have z_repr := He.free_ok X G (c.fact 25 (f := .free "repr") rfl)
  have z_sum := He.free_ok X G (c.fact 26 (f := .free "sum") rfl)
  have z_abs := He.free_ok X G (c.fact 27 (f := .free "abs") rfl)
  have z_sorted := He.free_ok X G (c.fact 28 (f := .free "sorted") rfl)
  have z_MOST_LATE := He.int_ok X G (c.fact 29 (f := .int "MOST_LATE" 99) rfl)
  have z_MOST_BEGIN := He.int_ok X G (c.fact 30 (f := .int "MOST_BEGIN" 9999) rfl)
  have z_MOST_MIXED := He.int_ok X G (c.fact 31 (f := .int "MOST_MIXED" 8) rfl)
  have G_Node := He.glo_ok X G (c.fact 32 (f := .glo "Node") rfl)
  have G_Gain := He.glo_ok X G (c.fact 33 (f := .glo "Gain") rfl)
  have G_Mix := He.glo_ok X G (c.fact 34 (f := .glo "Mix") rfl)
  have G_Times := He.glo_ok X G (c.fact 35 (f := .glo "Times") rfl)
  have G_Clip := He.glo_ok X G (c.fact 36 (f := .glo "Clip") rfl)
  have G_Share := He.glo_ok X G (c.fact 37 (f := .glo "Share") rfl)
  have G_Choose := He.glo_ok X G (c.fact 38 (f := .glo "Choose") rfl)
  have c_Gain := He.cls_ok (c.fact 39 (f := .cls "Gain") rfl)
  have n_Gain_made := He.noat_ok (c.fact 40 (f := .noat "Gain" "made") rfl)
  have n_Gain_late_by := He.noat_ok (c.fact 41 (f := .noat "Gain" "late_by") rfl)
  have n_Gain_begin_at := He.noat_ok (c.fact 42 (f := .noat "Gain" "begin_at") rfl)
  have n_Gain_by := He.noat_ok (c.fact 43 (f := .noat "Gain" "by") rfl)
  have mk_Gain := He.mkr_ok (c.fact 44 (f := .mkr "Gain") rfl)
  have m_Gain_takes := He.meth_ok (c.fact 45 (f := .meth "Gain" "takes") rfl)
  have m_Gain_gives := He.meth_ok (c.fact 46 (f := .meth "Gain" "gives") rfl)
  have m_Gain_fresh := He.meth_ok (c.fact 47 (f := .meth "Gain" "fresh") rfl)
  have m_Gain_fire := He.meth_ok (c.fact 48 (f := .meth "Gain" "fire") rfl)
  have m_Gain_work := He.meth_ok (c.fact 49 (f := .meth "Gain" "work") rfl)
  have c_Mix := He.cls_ok (c.fact 50 (f := .cls "Mix") rfl)
  have n_Mix_made := He.noat_ok (c.fact 51 (f := .noat "Mix" "made") rfl)
  have n_Mix_late_by := He.noat_ok (c.fact 52 (f := .noat "Mix" "late_by") rfl)
  have n_Mix_begin_at := He.noat_ok (c.fact 53 (f := .noat "Mix" "begin_at") rfl)
  have n_Mix_many := He.noat_ok (c.fact 54 (f := .noat "Mix" "many") rfl)
  have mk_Mix := He.mkr_ok (c.fact 55 (f := .mkr "Mix") rfl)
  have m_Mix_takes := He.meth_ok (c.fact 56 (f := .meth "Mix" "takes") rfl)
  have m_Mix_gives := He.meth_ok (c.fact 57 (f := .meth "Mix" "gives") rfl)
  have m_Mix_fresh := He.meth_ok (c.fact 58 (f := .meth "Mix" "fresh") rfl)
  have m_Mix_fire := He.meth_ok (c.fact 59 (f := .meth "Mix" "fire") rfl)
  have m_Mix_work := He.meth_ok (c.fact 60 (f := .meth "Mix" "work") rfl)
  have c_Times := He.cls_ok (c.fact 61 (f := .cls "Times") rfl)
  have n_Times_made := He.noat_ok (c.fact 62 (f := .noat "Times" "made") rfl)
  have n_Times_late_by := He.noat_ok (c.fact 63 (f := .noat "Times" "late_by") rfl)
  have n_Times_begin_at := He.noat_ok (c.fact 64 (f := .noat "Times" "begin_at") rfl)
  have mk_Times := He.mkr_ok (c.fact 65 (f := .mkr "Times") rfl)
  have m_Times_takes := He.meth_ok (c.fact 66 (f := .meth "Times" "takes") rfl)
  have m_Times_gives := He.meth_ok (c.fact 67 (f := .meth "Times" "gives") rfl)
  have m_Times_fresh := He.meth_ok (c.fact 68 (f := .meth "Times" "fresh") rfl)
  have m_Times_fire := He.meth_ok (c.fact 69 (f := .meth "Times" "fire") rfl)
  have m_Times_work := He.meth_ok (c.fact 70 (f := .meth "Times" "work") rfl)
  have c_Clip := He.cls_ok (c.fact 71 (f := .cls "Clip") rfl)
  have n_Clip_made := He.noat_ok (c.fact 72 (f := .noat "Clip" "made") rfl)
  have n_Clip_late_by := He.noat_ok (c.fact 73 (f := .noat "Clip" "late_by") rfl)
  have n_Clip_begin_at := He.noat_ok (c.fact 74 (f := .noat "Clip" "begin_at") rfl)
  have n_Clip_low := He.noat_ok (c.fact 75 (f := .noat "Clip" "low") rfl)
  have n_Clip_high := He.noat_ok (c.fact 76 (f := .noat "Clip" "high") rfl)
  have mk_Clip := He.mkr_ok (c.fact 77 (f := .mkr "Clip") rfl)
  have m_Clip_takes := He.meth_ok (c.fact 78 (f := .meth "Clip" "takes") rfl)
  have m_Clip_gives := He.meth_ok (c.fact 79 (f := .meth "Clip" "gives") rfl)
  have m_Clip_fresh := He.meth_ok (c.fact 80 (f := .meth "Clip" "fresh") rfl)
  have m_Clip_fire := He.meth_ok (c.fact 81 (f := .meth "Clip" "fire") rfl)
  have m_Clip_work := He.meth_ok (c.fact 82 (f := .meth "Clip" "work") rfl)
  have c_Share := He.cls_ok (c.fact 83 (f := .cls "Share") rfl)
  have n_Share_made := He.noat_ok (c.fact 84 (f := .noat "Share" "made") rfl)
  have n_Share_late_by := He.noat_ok (c.fact 85 (f := .noat "Share" "late_by") rfl)
  have n_Share_begin_at := He.noat_ok (c.fact 86 (f := .noat "Share" "begin_at") rfl)
  have n_Share_by := He.noat_ok (c.fact 87 (f := .noat "Share" "by") rfl)
  have mk_Share := He.mkr_ok (c.fact 88 (f := .mkr "Share") rfl)
  have m_Share_takes := He.meth_ok (c.fact 89 (f := .meth "Share" "takes") rfl)
  have m_Share_gives := He.meth_ok (c.fact 90 (f := .meth "Share" "gives") rfl)
  have m_Share_fresh := He.meth_ok (c.fact 91 (f := .meth "Share" "fresh") rfl)
  have m_Share_fire := He.meth_ok (c.fact 92 (f := .meth "Share" "fire") rfl)
  have m_Share_work := He.meth_ok (c.fact 93 (f := .meth "Share" "work") rfl)
  have c_Choose := He.cls_ok (c.fact 94 (f := .cls "Choose") rfl)
  have n_Choose_made := He.noat_ok (c.fact 95 (f := .noat "Choose" "made") rfl)
  have n_Choose_late_by := He.noat_ok (c.fact 96 (f := .noat "Choose" "late_by") rfl)
  have n_Choose_begin_at := He.noat_ok (c.fact 97 (f := .noat "Choose" "begin_at") rfl)
  have mk_Choose := He.mkr_ok (c.fact 98 (f := .mkr "Choose") rfl)
  have m_Choose_takes := He.meth_ok (c.fact 99 (f := .meth "Choose" "takes") rfl)
  have m_Choose_gives := He.meth_ok (c.fact 100 (f := .meth "Choose" "gives") rfl)
  have m_Choose_fresh := He.meth_ok (c.fact 101 (f := .meth "Choose" "fresh") rfl)
  have m_Choose_fire := He.meth_ok (c.fact 102 (f := .meth "Choose" "fire") rfl)
  have m_Choose_work := He.meth_ok (c.fact 103 (f := .meth "Choose" "work") rfl)
  obtain ⟨ds1, v1, b1⟩ := FunD.binds0 (ps := ["self", "by", "late", "begin"]) F_Gain_DinitD 2 (by intro z; cases z) rfl (by
      intro D doc pm an cdv ct us ks l1 l2
      match us, ks, l1, l2 with
      | [_, _], [_, _], _, _ => exact ⟨_, _, _, _, _, _, rfl, rfl, _, _, _, _, _, _, rfl, rfl, rfl⟩)
  obtain ⟨ds2, v2, b2⟩ := FunD.binds0 (ps := ["self", "many", "late", "begin"]) F_Mix_DinitD 2 (by intro z; cases z) rfl (by
      intro D doc pm an cdv ct us ks l1 l2
      match us, ks, l1, l2 with
      | [_, _], [_, _], _, _ => exact ⟨_, _, _, _, _, _, rfl, rfl, _, _, _, _, _, _, rfl, rfl, rfl⟩)
  obtain ⟨ds3, v3, b3⟩ := FunD.binds0 (ps := ["self", "late", "begin"]) F_Times_DinitD 1 (by intro z; cases z) rfl (by
      intro D doc pm an cdv ct us ks l1 l2
      match us, ks, l1, l2 with
      | [_], [_, _], _, _ => exact ⟨_, _, _, _, _, _, rfl, rfl, _, _, _, _, _, _, rfl, rfl, rfl⟩)
  obtain ⟨ds4, v4, b4⟩ := FunD.binds0 (ps := ["self", "low", "high", "late", "begin"]) F_Clip_DinitD 3 (by intro z; cases z) rfl (by
      intro D doc pm an cdv ct us ks l1 l2
      match us, ks, l1, l2 with
      | [_, _, _], [_, _], _, _ => exact ⟨_, _, _, _, _, _, rfl, rfl, _, _, _, _, _, _, rfl, rfl, rfl⟩)
  obtain ⟨ds5, v5, b5⟩ := FunD.binds0 (ps := ["self", "by", "late", "begin"]) F_Share_DinitD 2 (by intro z; cases z) rfl (by
      intro D doc pm an cdv ct us ks l1 l2
      match us, ks, l1, l2 with
      | [_, _], [_, _], _, _ => exact ⟨_, _, _, _, _, _, rfl, rfl, _, _, _, _, _, _, rfl, rfl, rfl⟩)
  obtain ⟨ds6, v6, b6⟩ := FunD.binds0 (ps := ["self", "late", "begin"]) F_Choose_DinitD 1 (by intro z; cases z) rfl (by
      intro D doc pm an cdv ct us ks l1 l2
      match us, ks, l1, l2 with
      | [_], [_, _], _, _ => exact ⟨_, _, _, _, _, _, rfl, rfl, _, _, _, _, _, _, rfl, rfl, rfl⟩)
  refine ⟨d_law, fun s v => bL s [v] rfl, fun base _ _ => ?_⟩
  obtain ⟨i_Choose, cx⟩ := He.ba cx
  obtain ⟨i_Share, cx⟩ := He.ba cx
  obtain ⟨i_Clip, cx⟩ := He.ba cx
  obtain ⟨i_Times, cx⟩ := He.ba cx
  obtain ⟨i_Mix, cx⟩ := He.ba cx
  obtain ⟨i_Gain, cx⟩ := He.ba cx
  have T_Gain : NodeC K (He.ga K "Gain") := ⟨c_Gain, n_Gain_made, n_Gain_late_by, n_Gain_begin_at⟩
  have T_Mix : NodeC K (He.ga K "Mix") := ⟨c_Mix, n_Mix_made, n_Mix_late_by, n_Mix_begin_at⟩
  have T_Times : NodeC K (He.ga K "Times") := ⟨c_Times, n_Times_made, n_Times_late_by, n_Times_begin_at⟩
  have T_Clip : NodeC K (He.ga K "Clip") := ⟨c_Clip, n_Clip_made, n_Clip_late_by, n_Clip_begin_at⟩
  have T_Share : NodeC K (He.ga K "Share") := ⟨c_Share, n_Share_made, n_Share_late_by, n_Share_begin_at⟩
  have T_Choose : NodeC K (He.ga K "Choose") := ⟨c_Choose, n_Choose_made, n_Choose_late_by, n_Choose_begin_at⟩
  have G0 : FnOk P w K mg base CX0 1 _ d_is_whole ["thing"] (spWhole K) := ok_whole F_is_whole z_isinstance z_int z_bool
  have G1 : FnOk P w K mg base CX0 2 _ d_is_whole_within ["thing", "least", "most"] (spWithin K) := ok_within F_is_whole_within G0 g_is_whole F_is_whole.kp b_is_whole
  have G2 : FnOk P w K mg base CX0 1 _ d_need ["holds", "field"] spNeed := ok_need F_need
  have G7 : FnOk P w K mg base CX0 1 _ d__law_draw ["_law_pot_here", "_law_many"] spDraw := ok_draw F__law_draw
  have G8 : FnOk P w K mg base CX0 2 _ d__law_number ["_law_pot_here"] spNumber := ok_number F__law_number F__law_draw g__law_draw z_range
  have NI_Gain : FnOk P w K mg base CX0 3 _ d_Node_DinitD ["self", "arguments", "late", "begin"] (spNodeInit K (He.ga K "Gain")) := ok_nodeInit F_Node_DinitD G2 g_need F_need.kp b_need G1 g_is_whole_within F_is_whole_within.kp b_is_whole_within z_MOST_LATE z_MOST_BEGIN T_Gain
  have NI_Mix : FnOk P w K mg base CX0 3 _ d_Node_DinitD ["self", "arguments", "late", "begin"] (spNodeInit K (He.ga K "Mix")) := ok_nodeInit F_Node_DinitD G2 g_need F_need.kp b_need G1 g_is_whole_within F_is_whole_within.kp b_is_whole_within z_MOST_LATE z_MOST_BEGIN T_Mix
  have NI_Times : FnOk P w K mg base CX0 3 _ d_Node_DinitD ["self", "arguments", "late", "begin"] (spNodeInit K (He.ga K "Times")) := ok_nodeInit F_Node_DinitD G2 g_need F_need.kp b_need G1 g_is_whole_within F_is_whole_within.kp b_is_whole_within z_MOST_LATE z_MOST_BEGIN T_Times
  have NI_Clip : FnOk P w K mg base CX0 3 _ d_Node_DinitD ["self", "arguments", "late", "begin"] (spNodeInit K (He.ga K "Clip")) := ok_nodeInit F_Node_DinitD G2 g_need F_need.kp b_need G1 g_is_whole_within F_is_whole_within.kp b_is_whole_within z_MOST_LATE z_MOST_BEGIN T_Clip
  have NI_Share : FnOk P w K mg base CX0 3 _ d_Node_DinitD ["self", "arguments", "late", "begin"] (spNodeInit K (He.ga K "Share")) := ok_nodeInit F_Node_DinitD G2 g_need F_need.kp b_need G1 g_is_whole_within F_is_whole_within.kp b_is_whole_within z_MOST_LATE z_MOST_BEGIN T_Share
  have NI_Choose : FnOk P w K mg base CX0 3 _ d_Node_DinitD ["self", "arguments", "late", "begin"] (spNodeInit K (He.ga K "Choose")) := ok_nodeInit F_Node_DinitD G2 g_need F_need.kp b_need G1 g_is_whole_within F_is_whole_within.kp b_is_whole_within z_MOST_LATE z_MOST_BEGIN T_Choose
  have I_Gain := ok_gainInit (P := P) (w := w) (mg := mg) (base := base) F_Gain_DinitD G2 g_need F_need.kp b_need G0 g_is_whole F_is_whole.kp b_is_whole NI_Gain G_Node (baseB_ok cx) b_Node_DinitD T_Gain n_Gain_by
  have I_Mix := ok_mixInit (P := P) (w := w) (mg := mg) (base := base) F_Mix_DinitD G2 g_need F_need.kp b_need G1 g_is_whole_within F_is_whole_within.kp b_is_whole_within NI_Mix G_Node (baseB_ok cx) b_Node_DinitD z_MOST_MIXED T_Mix n_Mix_many
  have I_Times := ok_timesInit (P := P) (w := w) (mg := mg) (base := base) F_Times_DinitD NI_Times G_Node (baseB_ok cx) b_Node_DinitD T_Times
  have I_Clip := ok_clipInit (P := P) (w := w) (mg := mg) (base := base) F_Clip_DinitD G2 g_need F_need.kp b_need G0 g_is_whole F_is_whole.kp b_is_whole NI_Clip G_Node (baseB_ok cx) b_Node_DinitD T_Clip n_Clip_low n_Clip_high
  have I_Share := ok_shareInit (P := P) (w := w) (mg := mg) (base := base) F_Share_DinitD G2 g_need F_need.kp b_need G0 g_is_whole F_is_whole.kp b_is_whole NI_Share G_Node (baseB_ok cx) b_Node_DinitD T_Share n_Share_by
  have I_Choose := ok_chooseInit (P := P) (w := w) (mg := mg) (base := base) F_Choose_DinitD NI_Choose G_Node (baseB_ok cx) b_Node_DinitD T_Choose
  have GM : FnOk P w K mg base CX0 6 _ d__law_made ["_law_spec_here"] (spMade K ⟨He.ga K "Gain", He.ga K "Mix", He.ga K "Times", He.ga K "Clip", He.ga K "Share", He.ga K "Choose"⟩) := ok_made F__law_made mk_Gain I_Gain G_Gain b1 v1 mk_Mix I_Mix G_Mix b2 v2 mk_Times I_Times G_Times b3 v3 mk_Clip I_Clip G_Clip b4 v4 mk_Share I_Share G_Share b5 v5 mk_Choose I_Choose G_Choose b6 v6
  have GV : FnOk P w K mg base CX0 2 _ d__law_given ["_law_spec_here", "_law_rows"] (spGiven K) := ok_given F__law_given (ok_rounded F__law_rounded z_abs z_int) g__law_rounded F__law_rounded.kp b__law_rounded z_sum z_sorted z_int
  have GT : FnG P w K mg base CX0 1 _ d__law_is_told ["_law_told", "_law_due"] spIsTold := ok_isTold F__law_is_told z_isinstance z_list z_tuple z_len z_repr
  have W_Gain : FnOk P w K mg base CX0 1 _ d_Gain_work ["self", "kept", "rows"] (spGainWork K) := ok_gainWork F_Gain_work
  have R_Gain : FnOk P w K mg base CX0 2 _ d_run_firing ["node", "memory", "rows"] (spFiring K (He.ga K "Gain") (spGainWork K)) := ok_firing (k := 0) F_run_firing c_Gain (ok_gives F_Gain_gives) m_Gain_gives b_Gain_gives W_Gain m_Gain_work b_Gain_work wide_gainWork
  have tk_Gain := ok_gainTakes (P := P) (w := w) (mg := mg) (base := base) (C := (He.ga K "Gain")) F_Gain_takes
  have gv_Gain := gain_gives (P := P) (w := w) (mg := mg) (base := base) (C := (He.ga K "Gain")) F_Gain_gives
  have fr_Gain := gain_fresh (P := P) (w := w) (mg := mg) (base := base) F_Gain_fresh T_Gain n_Gain_by
  have fi_Gain := gain_fire F_Gain_fire R_Gain g_run_firing F_run_firing.kp b_run_firing
  have H_Gain : FnG P w K mg base CX0 4 _ d__law_right ["_law_node", "_law_spec_here", "_law_streams_here"] (spPRight (gainM K (He.ga K "Gain"))) := ok_lRight (gainM K (He.ga K "Gain")) F__law_right c_Gain fr_Gain m_Gain_fresh b_Gain_fresh fi_Gain m_Gain_fire b_Gain_fire GV g__law_given F__law_given.kp b__law_given GT g__law_is_told F__law_is_told.kp b__law_is_told z_list
  have W_Mix : FnOk P w K mg base CX0 1 _ d_Mix_work ["self", "kept", "rows"] (spPWork (mixM K (He.ga K "Mix"))) := ok_mixWork F_Mix_work z_sum
  have R_Mix : FnOk P w K mg base CX0 2 _ d_run_firing ["node", "memory", "rows"] (spFiring K (He.ga K "Mix") (spPWork (mixM K (He.ga K "Mix")))) := ok_firing (k := 0) F_run_firing c_Mix (ok_mixGives (sp := spGives1 (He.ga K "Mix")) (fun vs H Q E h => by obtain ⟨p, dx, fs, e, _, q⟩ := h; exact ⟨by rw [e]; rfl, q⟩) F_Mix_gives) m_Mix_gives b_Mix_gives W_Mix m_Mix_work b_Mix_work (wide_pWork _)
  have tk_Mix := ok_mixTakes (P := P) (w := w) (mg := mg) (base := base) (C := (He.ga K "Mix")) F_Mix_takes T_Mix n_Mix_many
  have gv_Mix : FnOk P w K mg base CX0 1 _ d_Mix_gives ["self"] (spPGives (mixM K (He.ga K "Mix"))) := ok_mixGives (fun vs H Q E h => by obtain ⟨i, e, _, q⟩ := h; exact ⟨by rw [e]; rfl, q⟩) F_Mix_gives
  have fr_Mix := ok_mixFresh (P := P) (w := w) (mg := mg) (base := base) F_Mix_fresh T_Mix
  have fi_Mix := ok_mixFire F_Mix_fire R_Mix g_run_firing F_run_firing.kp b_run_firing
  have H_Mix : FnG P w K mg base CX0 4 _ d__law_right ["_law_node", "_law_spec_here", "_law_streams_here"] (spPRight (mixM K (He.ga K "Mix"))) := ok_lRight (mixM K (He.ga K "Mix")) F__law_right c_Mix fr_Mix m_Mix_fresh b_Mix_fresh fi_Mix m_Mix_fire b_Mix_fire GV g__law_given F__law_given.kp b__law_given GT g__law_is_told F__law_is_told.kp b__law_is_told z_list
  have W_Times : FnOk P w K mg base CX0 1 _ d_Times_work ["self", "kept", "rows"] (spPWork (timesM K (He.ga K "Times"))) := ok_timesWork F_Times_work 
  have R_Times : FnOk P w K mg base CX0 2 _ d_run_firing ["node", "memory", "rows"] (spFiring K (He.ga K "Times") (spPWork (timesM K (He.ga K "Times")))) := ok_firing (k := 0) F_run_firing c_Times (ok_timesGives (sp := spGives1 (He.ga K "Times")) (fun vs H Q E h => by obtain ⟨p, dx, fs, e, _, q⟩ := h; exact ⟨by rw [e]; rfl, q⟩) F_Times_gives) m_Times_gives b_Times_gives W_Times m_Times_work b_Times_work (wide_pWork _)
  have tk_Times := ok_timesTakes (P := P) (w := w) (mg := mg) (base := base) (C := (He.ga K "Times")) F_Times_takes 
  have gv_Times : FnOk P w K mg base CX0 1 _ d_Times_gives ["self"] (spPGives (timesM K (He.ga K "Times"))) := ok_timesGives (fun vs H Q E h => by obtain ⟨i, e, _, q⟩ := h; exact ⟨by rw [e]; rfl, q⟩) F_Times_gives
  have fr_Times := ok_timesFresh (P := P) (w := w) (mg := mg) (base := base) F_Times_fresh T_Times
  have fi_Times := ok_timesFire F_Times_fire R_Times g_run_firing F_run_firing.kp b_run_firing
  have H_Times : FnG P w K mg base CX0 4 _ d__law_right ["_law_node", "_law_spec_here", "_law_streams_here"] (spPRight (timesM K (He.ga K "Times"))) := ok_lRight (timesM K (He.ga K "Times")) F__law_right c_Times fr_Times m_Times_fresh b_Times_fresh fi_Times m_Times_fire b_Times_fire GV g__law_given F__law_given.kp b__law_given GT g__law_is_told F__law_is_told.kp b__law_is_told z_list
  have W_Clip : FnOk P w K mg base CX0 1 _ d_Clip_work ["self", "kept", "rows"] (spPWork (clipM K (He.ga K "Clip"))) := ok_clipWork F_Clip_work T_Clip n_Clip_low n_Clip_high z_max z_min
  have R_Clip : FnOk P w K mg base CX0 2 _ d_run_firing ["node", "memory", "rows"] (spFiring K (He.ga K "Clip") (spPWork (clipM K (He.ga K "Clip")))) := ok_firing (k := 0) F_run_firing c_Clip (ok_clipGives (sp := spGives1 (He.ga K "Clip")) (fun vs H Q E h => by obtain ⟨p, dx, fs, e, _, q⟩ := h; exact ⟨by rw [e]; rfl, q⟩) F_Clip_gives) m_Clip_gives b_Clip_gives W_Clip m_Clip_work b_Clip_work (wide_pWork _)
  have tk_Clip := ok_clipTakes (P := P) (w := w) (mg := mg) (base := base) (C := (He.ga K "Clip")) F_Clip_takes 
  have gv_Clip : FnOk P w K mg base CX0 1 _ d_Clip_gives ["self"] (spPGives (clipM K (He.ga K "Clip"))) := ok_clipGives (fun vs H Q E h => by obtain ⟨i, e, _, q⟩ := h; exact ⟨by rw [e]; rfl, q⟩) F_Clip_gives
  have fr_Clip := ok_clipFresh (P := P) (w := w) (mg := mg) (base := base) F_Clip_fresh T_Clip
  have fi_Clip := ok_clipFire F_Clip_fire R_Clip g_run_firing F_run_firing.kp b_run_firing
  have H_Clip : FnG P w K mg base CX0 4 _ d__law_right ["_law_node", "_law_spec_here", "_law_streams_here"] (spPRight (clipM K (He.ga K "Clip"))) := ok_lRight (clipM K (He.ga K "Clip")) F__law_right c_Clip fr_Clip m_Clip_fresh b_Clip_fresh fi_Clip m_Clip_fire b_Clip_fire GV g__law_given F__law_given.kp b__law_given GT g__law_is_told F__law_is_told.kp b__law_is_told z_list
  have W_Share : FnOk P w K mg base CX0 1 _ d_Share_work ["self", "kept", "rows"] (spPWork (shareM K (He.ga K "Share"))) := ok_shareWork F_Share_work T_Share n_Share_by
  have R_Share : FnOk P w K mg base CX0 2 _ d_run_firing ["node", "memory", "rows"] (spFiring K (He.ga K "Share") (spPWork (shareM K (He.ga K "Share")))) := ok_firing (k := 0) F_run_firing c_Share (ok_shareGives (sp := spGives1 (He.ga K "Share")) (fun vs H Q E h => by obtain ⟨p, dx, fs, e, _, q⟩ := h; exact ⟨by rw [e]; rfl, q⟩) F_Share_gives) m_Share_gives b_Share_gives W_Share m_Share_work b_Share_work (wide_pWork _)
  have tk_Share := ok_shareTakes (P := P) (w := w) (mg := mg) (base := base) (C := (He.ga K "Share")) F_Share_takes 
  have gv_Share : FnOk P w K mg base CX0 1 _ d_Share_gives ["self"] (spPGives (shareM K (He.ga K "Share"))) := ok_shareGives (fun vs H Q E h => by obtain ⟨i, e, _, q⟩ := h; exact ⟨by rw [e]; rfl, q⟩) F_Share_gives
  have fr_Share := ok_shareFresh (P := P) (w := w) (mg := mg) (base := base) F_Share_fresh T_Share
  have fi_Share := ok_shareFire F_Share_fire R_Share g_run_firing F_run_firing.kp b_run_firing
  have H_Share : FnG P w K mg base CX0 4 _ d__law_right ["_law_node", "_law_spec_here", "_law_streams_here"] (spPRight (shareM K (He.ga K "Share"))) := ok_lRight (shareM K (He.ga K "Share")) F__law_right c_Share fr_Share m_Share_fresh b_Share_fresh fi_Share m_Share_fire b_Share_fire GV g__law_given F__law_given.kp b__law_given GT g__law_is_told F__law_is_told.kp b__law_is_told z_list
  have W_Choose : FnOk P w K mg base CX0 1 _ d_Choose_work ["self", "kept", "rows"] (spPWork (chooseM K (He.ga K "Choose"))) := ok_chooseWork F_Choose_work 
  have R_Choose : FnOk P w K mg base CX0 2 _ d_run_firing ["node", "memory", "rows"] (spFiring K (He.ga K "Choose") (spPWork (chooseM K (He.ga K "Choose")))) := ok_firing (k := 0) F_run_firing c_Choose (ok_chooseGives (sp := spGives1 (He.ga K "Choose")) (fun vs H Q E h => by obtain ⟨p, dx, fs, e, _, q⟩ := h; exact ⟨by rw [e]; rfl, q⟩) F_Choose_gives) m_Choose_gives b_Choose_gives W_Choose m_Choose_work b_Choose_work (wide_pWork _)
  have tk_Choose := ok_chooseTakes (P := P) (w := w) (mg := mg) (base := base) (C := (He.ga K "Choose")) F_Choose_takes 
  have gv_Choose : FnOk P w K mg base CX0 1 _ d_Choose_gives ["self"] (spPGives (chooseM K (He.ga K "Choose"))) := ok_chooseGives (fun vs H Q E h => by obtain ⟨i, e, _, q⟩ := h; exact ⟨by rw [e]; rfl, q⟩) F_Choose_gives
  have fr_Choose := ok_chooseFresh (P := P) (w := w) (mg := mg) (base := base) F_Choose_fresh T_Choose
  have fi_Choose := ok_chooseFire F_Choose_fire R_Choose g_run_firing F_run_firing.kp b_run_firing
  have H_Choose : FnG P w K mg base CX0 4 _ d__law_right ["_law_node", "_law_spec_here", "_law_streams_here"] (spPRight (chooseM K (He.ga K "Choose"))) := ok_lRight (chooseM K (He.ga K "Choose")) F__law_right c_Choose fr_Choose m_Choose_fresh b_Choose_fresh fi_Choose m_Choose_fire b_Choose_fire GV g__law_given F__law_given.kp b__law_given GT g__law_is_told F__law_is_told.kp b__law_is_told z_list
  have hT : ∀ A, A ∈ Ms K ⟨He.ga K "Gain", He.ga K "Mix", He.ga K "Times", He.ga K "Clip", He.ga K "Share", He.ga K "Choose"⟩ → MethC P w K mg base 1 "takes" ["self"] (spPTakes A.2) A.1 := fun A hA => by
    unfold Ms at hA
    simp only [List.mem_cons, List.not_mem_nil, or_false] at hA
    rcases hA with rfl | rfl | rfl | rfl | rfl | rfl
    · exact ⟨_, _, c_Gain, m_Gain_takes, tk_Gain, b_Gain_takes⟩
    · exact ⟨_, _, c_Mix, m_Mix_takes, tk_Mix, b_Mix_takes⟩
    · exact ⟨_, _, c_Times, m_Times_takes, tk_Times, b_Times_takes⟩
    · exact ⟨_, _, c_Clip, m_Clip_takes, tk_Clip, b_Clip_takes⟩
    · exact ⟨_, _, c_Share, m_Share_takes, tk_Share, b_Share_takes⟩
    · exact ⟨_, _, c_Choose, m_Choose_takes, tk_Choose, b_Choose_takes⟩
  have hG : ∀ A, A ∈ Ms K ⟨He.ga K "Gain", He.ga K "Mix", He.ga K "Times", He.ga K "Clip", He.ga K "Share", He.ga K "Choose"⟩ → MethC P w K mg base 1 "gives" ["self"] (spPGives A.2) A.1 := fun A hA => by
    unfold Ms at hA
    simp only [List.mem_cons, List.not_mem_nil, or_false] at hA
    rcases hA with rfl | rfl | rfl | rfl | rfl | rfl
    · exact ⟨_, _, c_Gain, m_Gain_gives, gv_Gain, b_Gain_gives⟩
    · exact ⟨_, _, c_Mix, m_Mix_gives, gv_Mix, b_Mix_gives⟩
    · exact ⟨_, _, c_Times, m_Times_gives, gv_Times, b_Times_gives⟩
    · exact ⟨_, _, c_Clip, m_Clip_gives, gv_Clip, b_Clip_gives⟩
    · exact ⟨_, _, c_Share, m_Share_gives, gv_Share, b_Share_gives⟩
    · exact ⟨_, _, c_Choose, m_Choose_gives, gv_Choose, b_Choose_gives⟩
  have hI : ∀ A, A ∈ Ms K ⟨He.ga K "Gain", He.ga K "Mix", He.ga K "Times", He.ga K "Clip", He.ga K "Share", He.ga K "Choose"⟩ → InsC K A.1 (He.ga K "Node") := fun A hA => by
    unfold Ms at hA
    simp only [List.mem_cons, List.not_mem_nil, or_false] at hA
    rcases hA with rfl | rfl | rfl | rfl | rfl | rfl
    · exact insB_ok i_Gain
    · exact insB_ok i_Mix
    · exact insB_ok i_Times
    · exact insB_ok i_Clip
    · exact insB_ok i_Share
    · exact insB_ok i_Choose
  have hR : ∀ A, A ∈ Ms K ⟨He.ga K "Gain", He.ga K "Mix", He.ga K "Times", He.ga K "Clip", He.ga K "Share", He.ga K "Choose"⟩ → FnG P w K mg base CX0 4 _ d__law_right ["_law_node", "_law_spec_here", "_law_streams_here"] (spPRight A.2) := fun A hA => by
    unfold Ms at hA
    simp only [List.mem_cons, List.not_mem_nil, or_false] at hA
    rcases hA with rfl | rfl | rfl | rfl | rfl | rfl
    · exact H_Gain
    · exact H_Mix
    · exact H_Times
    · exact H_Clip
    · exact H_Share
    · exact H_Choose
  exact ok_law F_law (ok_cell F__law_cell z_len) g__law_cell F__law_cell.kp b__law_cell (ok_pot F__law_pot z_max) g__law_pot F__law_pot.kp b__law_pot G7 g__law_draw F__law_draw.kp b__law_draw
    (ok_spec F__law_spec G7 g__law_draw F__law_draw.kp b__law_draw G8 g__law_number F__law_number.kp b__law_number z_abs) g__law_spec F__law_spec.kp b__law_spec GM g__law_made F__law_made.kp b__law_made
    (ok_streams F__law_streams G8 g__law_number F__law_number.kp b__law_number z_range) g__law_streams F__law_streams.kp b__law_streams (FnG.any hR) g__law_right F__law_right.kp b__law_right hT hG hI G_Node z_range z_max z_min z_len z_isinstance
end Sw
open PySem PySem.W PySem.Calls PyProof.Rows
theorem PySem.Challenge.cw_sampleweave_k12_plain_nodes_holds : PySem.Challenge.rw_sampleweave_k12_plain_nodes.Holds := by
  w_on; o_law
  refine HandSHeadRun.head_any (r := OpenLaw.row PySem.Challenge.rw_sampleweave_k12_plain_nodes) (q := view (OpenLaw.row PySem.Challenge.rw_sampleweave_k12_plain_nodes).prog [33]) (H := Sw.hk) (ob := Sw.ob) (M := 9000) (loose := Sw.loose) (d := HandSHeadRun.topDef (OpenLaw.row PySem.Challenge.rw_sampleweave_k12_plain_nodes).prog 33) (kwd := []) Sw.ob_eq
    (by kernel_rfl) (fun s => by kernel_rfl) Sw.run (by kernel_rfl) (by kernel_rfl) (by kernel_rfl) (by rfl) (by first | assumption | decide +kernel) (by decide +kernel) ⟨rfl, rfl, rfl, rfl, rfl, by decide +kernel⟩ ?hw ?hc
  case hw => w_witness2
  case hc =>
    refine L2.walk_goes (l := PySem.Challenge.rw_sampleweave_k12_plain_nodes) (n := 63) (k := 8) (x := "_law_script") (CX := L2.CX0) rfl (by decide) (by kernel_rfl) ⟨rfl, by decide, by decide⟩ ?F (fun _ _ _ _ z => z)
    intro w mg fa h Y G hmg0
    obtain ⟨K, KX, cx, c⟩ := Y
    have hmg : mg ("law" : PySem.Str) = some (.ref fa) := by
      have e : (HandSHeadRun.topDef (OpenLaw.row PySem.Challenge.rw_sampleweave_k12_plain_nodes).prog 33).name = ("law" : PySem.Str) := by kernel_rfl
      rw [← e]
      exact hmg0
    obtain ⟨fd, hb, hF⟩ := Sw.facts (P := (PySem.Challenge.rw_sampleweave_k12_plain_nodes).prog) (w := w) KX G hmg cx c
    exact ⟨K, fd, Sw.spLaw K, KX, hb, fun H a ns hl _ hS => ⟨a, ns, rfl, hS, hl, fun _ => rfl⟩, hF⟩
