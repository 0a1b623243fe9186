import PyProof.Rows.All
import Wide.All
import OpenK.AllK
import Wide.FinOn
import HandS.ForMost
import HandS.Wide
import HandS.Style
import HandS.TupAny
import PyProof.ReprRoads
import HandS.AnyAll
import HandS.EndTab
import HandS.FStrTup
import HandS.GenOver
import HandS.SetFor
import HandS.SetTxt0
import HandS.Strs
import PyProof.DictCopy
import HandS.IsInst
import HandS.Walk
import HandS.Conv
import PyProof.GenCompT
import PyProof.WalksPairs
import PyProof.TupleOfGen
import PySem.Challenge.RW_crossundo_k06_heaps_of_anything
set_option Elab.async false
set_option linter.all false
set_option maxRecDepth 100000
set_option maxHeartbeats 4000000
namespace Cu
open PySem PySem.Spec PyProof.Rows L2
/-- all but the object at a is as it was -/
def Upto (a : Addr) (H H' : Hp) : Prop := ∀ b o, b ≠ a → H b = some o → H' b = some o
theorem Upto.refl (a : Addr) (H : Hp) : Upto a H H := fun _ _ _ e => e
theorem Upto.trans {a : Addr} {H H1 H2 : Hp} (x : Upto a H H1) (y : Upto a H1 H2) : Upto a H H2 := fun b o n e => y b o n (x b o n e)
theorem Upto.of {a : Addr} {H H' : Hp} (x : Same H H') : Upto a H H' := fun b o _ e => x b o e
theorem Upto.upd {a : Addr} {H : Hp} {o : HO} : Upto a H (upd H a o) := fun b u n e => by rw [upd_ne n]; exact e
theorem same_upd {H : Hp} {p : Addr} {o : HO} (h : H p = none) : Same H (upd H p o) := fun b x e => by
  rw [upd_ne (ne_of_none e h)]
  exact e
theorem Upto.new {a p : Addr} {H : Hp} {o : HO} (h : H p = none) : Upto a H (L2.upd H p o) := .of (same_upd h)
theorem Upto.free {a l : Addr} {H H1 : Hp} (u : Upto a H H1) (n : l ≠ a) (e : H1 l = none) : H l = none := by
  cases h : H l with
  | none => rfl
  | some o =>
    rw [u l o n h] at e
    cases e
theorem Upto.put {a l : Addr} {H H2 : Hp} {o : HO} (u : Upto a H H2) (e : H l = none) : Upto a H (L2.upd H2 l o) := fun b x n eb => by
  rw [upd_ne (ne_of_none eb e)]
  exact u b x n eb
theorem Hand.ne {H : Hp} {a l : Addr} (h : ∃ o, H a = some o) (e : H l = none) : l ≠ a := fun z => by
  obtain ⟨o, eo⟩ := h
  rw [z, eo] at e
  cases e
theorem iffF {b : Bool} {A B : Prop} (h : b = false) (hB : B) : if b = true then A else B := by
  rw [h, if_neg Bool.false_ne_true]
  exact hB
theorem iffT {b : Bool} {A B : Prop} (h : b = true) (hA : A) : if b = true then A else B := by
  rw [h, if_pos rfl]
  exact hA
theorem ne_self (x : V) : (!decide (x = x)) = false := by
  rw [decide_eq_true rfl]
  rfl
theorem Upto.list {a l : Addr} {H H' : Hp} {xs : List V} (u : Upto a H H') (n : l ≠ a) (e : H l = some (.lst xs)) : H' l = some (.lst xs) := u l _ n e
/-- the hand: three ints; the third counts at most n draws -/
def Hand (H : Hp) (a : Addr) (n : Nat) : Prop := ∃ g x c : Int, H a = some (.lst [.int g, .int x, .int c]) ∧ 0 ≤ g ∧ g < 2 ^ 600 ∧ 0 ≤ x ∧ x < 2147483647 ∧ 0 ≤ c ∧ c ≤ n
theorem Hand.mono {H : Hp} {a : Addr} {n m : Nat} (h : Hand H a n) (l : n ≤ m) : Hand H a m := by
  obtain ⟨g, x, c, h1, h2, h3, h4, h5, h6, h7⟩ := h
  exact ⟨g, x, c, h1, h2, h3, h4, h5, h6, by omega⟩
theorem Hand.same {H H' : Hp} {a : Addr} {n : Nat} (h : Hand H a n) (s : Same H H') : Hand H' a n := by
  obtain ⟨g, x, c, h1, h2⟩ := h
  exact ⟨g, x, c, s _ _ h1, h2⟩
theorem Hand.at {H H' : Hp} {a : Addr} {n : Nat} (h : Hand H a n) (s : H' a = H a) : Hand H' a n := by
  obtain ⟨g, x, c, h1, h2⟩ := h
  exact ⟨g, x, c, s.trans h1, h2⟩
theorem Hand.some {H : Hp} {a : Addr} {n : Nat} (h : Hand H a n) : ∃ o, H a = some o := by
  obtain ⟨g, x, c, h1, h2⟩ := h
  exact ⟨_, h1⟩
theorem Hand.new {H : Hp} {a p : Addr} {o : HO} {n : Nat} (h : Hand H a n) (e : H p = none) : Hand (L2.upd H p o) a n := h.same (same_upd e)
section
variable {X : Cx}
/-- data that repr can show -/
structure Shw (d : PyData) : Prop where
  show_ : d.showable = true
  dict : d.hasDict = false
  dep : d.depth ≤ 60
  len : d.shown.length ≤ sizeLine
/-- repr(x) of data: None, bools, ints, texts, lists, tuples -/
def rReprD (K : PySem.W.Frag) : List V → Hp → VK → Prop := fun xs H Q => ∃ x d, xs = [x] ∧ Dp K H x d ∧ Shw d ∧ Q (.str d.shown) H
theorem call_reprD (hg : X.A.guards = some []) (hu : X.A.units + 64 < cLine) : CallR X (.builtin "repr") (rReprD X.K) := by
  intro pins s σ H xs us Q I r h
  obtain ⟨x, d, rfl, hd, ⟨hs, hn, h6, hz⟩, q⟩ := h
  obtain ⟨u, rfl, ru⟩ := vals1 r
  obtain ⟨as, rd⟩ := Dp.reads I d x u hd ru
  cases hd with
  | non =>
    cases ru
    exact PySem.P.repr_of_none ⟨.str _, H, I.tok _, ⟨_, rfl⟩, q⟩
  | bl b =>
    cases ru
    cases b
    · exact PySem.P.repr_of_bool ⟨.str _, H, I.tok _, ⟨_, rfl⟩, q⟩
    · exact PySem.P.repr_of_bool ⟨.str _, H, I.tok _, ⟨_, rfl⟩, q⟩
  | int i =>
    obtain ⟨t, rfl⟩ := ru
    refine PySem.P.repr_of_int ?_ ⟨.str _, H, I.tok _, ⟨_, rfl⟩, q⟩
    exact of_decide_eq_true hs
  | str y =>
    obtain ⟨t, rfl⟩ := ru
    exact PySem.P.repr_of_str ⟨.str _, H, I.tok _, ⟨_, rfl⟩, q⟩ hz
  | lst sq all =>
    obtain rfl : u = _ := ru
    exact repr_of_reads' rd hs (fun z => by rw [hn] at z; cases z) hg (by omega) (fun _ _ e => e) (fun h' t tk k => ⟨.str _, H, I.kept k, ⟨t, rfl⟩, q⟩) hz
  | tup sq all =>
    obtain rfl : u = _ := ru
    exact repr_of_reads' rd hs (fun z => by rw [hn] at z; cases z) hg (by omega) (fun _ _ e => e) (fun h' t tk k => ⟨.str _, H, I.kept k, ⟨t, rfl⟩, q⟩) hz
end
/-- a def's promise where no repr is under way -/
structure FnG (P : Program) (w : World) (K : PySem.W.Frag) (mg : Str → Option Value) (base : Heap) (CX : CXT) (k : Nat) (f : Addr) (fd : FuncData) (ps : List Str) (sp : Sp) : Prop where
  len : ∀ vs H Q E, sp vs H Q E → vs.length = ps.length
  run : ∀ (A : Around) (outer : List Env) (s : Shared) (H : Hp) (args : Args) (us : List Value) (vs : List V) (Q : VK) (E : XK), A.guards = some [] → Room k A → Env0 P w K mg base A outer s H →
    BindsTo s fd args (ps.zip us) → Vals vs us → sp vs H Q E → codeAny (model P w) A (.call (.ref f) args) (CR CX outer P w H s Q E) s
theorem FnG.of {P : Program} {w : World} {K : PySem.W.Frag} {mg : Str → Option Value} {base : Heap} {CX : CXT} {k : Nat} {f : Addr} {fd : FuncData} {ps : List Str} {sp : Sp} (F : FnOk P w K mg base CX k f fd ps sp) : FnG P w K mg base CX k f fd ps sp :=
  ⟨F.len, fun A outer s H args us vs Q E _ => F.run A outer s H args us vs Q E⟩
theorem FnG.mono {P : Program} {w : World} {K : PySem.W.Frag} {mg : Str → Option Value} {base : Heap} {CX : CXT} {j k : Nat} {f : Addr} {fd : FuncData} {ps : List Str} {sp : Sp} (F : FnG P w K mg base CX j f fd ps sp) (h : j ≤ k) : FnG P w K mg base CX k f fd ps sp :=
  ⟨F.len, fun A outer s H args us vs Q E g hr => F.run A outer s H args us vs Q E g (hr.mono h)⟩
section
variable {X : Cx} {CX : CXT} {k : Nat} {f : Addr} {fd : FuncData} {ps : List Str} {sp : Sp} {dvs : List V} {ds : List Value} {E : XK} {x : Str} {p pos : Pos} {e : Expr} {es : List Expr} {t : TA}
theorem pe_callG (F : FnG X.prog X.w X.K X.mg X.base CX k f fd ps sp) (gd : X.A.guards = some []) (hr : Room k X.A) (hg : Gl X x) (hm : X.mg x = some (.ref f)) (hk : PySem.W.keepIn X.K (.ref f) = true) (hb : Binds X.K fd ps ds) (hd : Vals dvs ds) (hx : Passes CX X E)
    (ha : PA X (e :: es) t) (hdb : (x == ("__debug__" : Str)) = false := by decide) (he : starEach (e :: es) X.env = (false, eval e X.env) :: starEach es X.env := by rfl) (hpl : (backTo pos (starEach es X.env)).any (·.1) = false := by rfl) :
    PE X (.Call (.Name x p) (e :: es) [] pos) (tCall sp dvs E t) := by
  constructor
  intro pins s σ H Q I h
  apply wpAny_Call_Name_kw
  apply ld_glob I hg hm _ hdb
  refine PySem.W.callWith_K (h₀ := X.base) I.ok.mod.kin hk (thn (ha.run pos pins s σ H _ I h) ?_) he hpl
  rintro us s1 ⟨vs, H1, I1, r, q⟩
  refine ⟨I1.kIn, ?_⟩
  have rr := r.append hd
  have ll : (us ++ ds).length = ps.length := rr.length.symm.trans (F.len _ _ _ _ q)
  apply wpAny_call
  refine codeAny_mono (F.run X.A X.stack s1 H1 ⟨us, []⟩ (us ++ ds) (vs ++ dvs) Q E gd hr I1.env0 (hb s1 us I1.kIn ll) rr q) ?_
  intro z s2 hz
  match z, hz with
  | .error er, hz => exact hx pins σ H1 s1 er s2 I1 hz
  | .ok (.ret u), hz => exact I1.after hz
  | .ok .next, hz => exact hz.elim
  | .ok .brk, hz => exact hz.elim
  | .ok .cont, hz => exact hz.elim
end

/-- a def by its body, where no repr is under way -/
theorem okG {P : Program} {w : World} {K : PySem.W.Frag} {mg : Str → Option Value} {base : Heap} {x qual : Str} {st : Stmt} {f : Addr} {fd : FuncData} {N ps : List Str} {k : Nat} {sp : Sp} (F : Fun K x qual st f fd) (S : FnScope N ps (defScope st)) (len : ∀ vs H Q E, sp vs H Q E → vs.length = ps.length)
    (hbody : ∀ (cdv : Value) (A : Around) (outer : List Env) (s : Shared) (H : Hp) (vs : List V) (Q : VK) (E : XK), (A.deeper (envOfC qual (defScope st) s.heap.objs.size f cdv)).guards = some [] → Room k (A.deeper (envOfC qual (defScope st) s.heap.objs.size f cdv)) → sp vs H Q E →
      ∃ t, PSs (cxOf CX0 P w K mg base N qual (defScope st) f cdv A outer s H E).nox (defBody st) t ∧ t { nx := fun _ H' => Q .non H', rt := Q } (start N vs) H) : FnG P w K mg base CX0 (k + 1) f fd ps sp := by
  obtain ⟨oc, od, kV, doc, pm, an, cdv, ct, osl, rfl, lk, hcd⟩ := F.ex
  constructor
  · exact len
  intro A outer s H args us vs Q E gd hr e0 hb r hsp
  have keep : ∀ b o, base.get? b = some o → s.heap.get? b = some o := fun b o e => (e0.bs b o e).1
  have kin := e0.mod.kin.keeps keep
  have par : ∀ y ∈ ps.zip us, (defScope st).names.lookup y.1 = some .local ∨ ((defScope st).names.lookup y.1 = some .cell ∧ ((cellsFrom (s.heap.objs.size + 1) (defScope st).names []).lookup y.1).isSome = true) := by
    intro y hy
    have mem : y.1 ∈ ps := (List.of_mem_zip (a := y.1) (b := y.2) hy).1
    cases S.par y.1 mem with
    | inl q => exact Or.inl q
    | inr q => exact Or.inr (And.intro q (PySem.W.cellsFrom_some _ _ _ (Or.inl q)))
  apply codeAny_call_function hr.depth (kin _ _ lk) rfl S.co S.gen rfl (PySem.W.codeRec_of kin hcd)
  apply hb
  apply wpAny_newFunctionEnv_cells S.kind par
  rintro env rfl s1 ic
  refine And.intro ((e0.mod.nolimit.keeps keep).keeps ic.toInCall.keep) (codeAny_func ?_)
  obtain ⟨t, ht, hq⟩ := hbody cdv A outer s H vs Q E gd (hr.deeper _) hsp
  have I0 := inv_start (CX := CX0) (qual := qual) (f := f) (cd := cdv) (E := E) S hr.hd e0 (len _ _ _ _ hsp) r ic
  refine wpAny_mono (ht.nox.run [] s1 _ H _ I0 hq) ?_ (fun _ _ z => z)
  intro fl s' hs
  match fl, hs with
  | .ret u, ⟨v, σ', H', J, rv, q⟩ => exact ⟨v, H', J.os, J.bare, J.base, J.hok, rv, q⟩
  | .next, ⟨σ', H', J, q⟩ => exact ⟨V.non, H', J.os, J.bare, J.base, J.hok, rfl, q⟩
  | .brk, ⟨_, _, _, q⟩ => exact q.elim
  | .cont, ⟨_, _, _, q⟩ => exact q.elim

section
variable {P : Program} {w : World} {K : PySem.W.Frag} {mg mb : Str → Option Value} {k : Nat} {fa a : Addr} {tb : List (Addr × Addr)} {fd : FuncData} {x : Str} {sp : Sp} {s1 : Shared} {vs : List Value} {ns : List Int}
/-- what is tracked when the law begins: its script s (unless the top owns it) and the tables -/
structure Begin (K : PySem.W.Frag) (h : Heap) (tabs : List Addr) (a : Addr) (vs : List Value) (ns : List Int) (H : Hp) : Prop where
  tabAt : ∀ b ∈ tabs, H b = some (.tbl #[])
  tabIs : ∀ b ∈ tabs, h.get? b = some { cls := .none, data := .fields #[] }
  tabK : ∀ b ∈ tabs, K.lookup b = none
  seq : SqL K H a (ns.map V.int)
  other : ∀ b, b ∉ tabs → b ≠ a → H b = none
  script : a ∉ tabs → H a = none ∨ (K.lookup a = none ∧ H a = some (.frz { cls := .type "list", data := .seq vs.toArray } (.lst (ns.map V.int))))
theorem Begin.kinds {H : Hp} {tabs : List Addr} {h : Heap} (B : Begin K h tabs a vs ns H) (b : Addr) : H b = none ∨ b ∈ tabs ∨ (b = a ∧ K.lookup a = none ∧ H b = some (.frz { cls := .type "list", data := .seq vs.toArray } (.lst (ns.map V.int)))) := by
  by_cases m : b ∈ tabs
  · exact .inr (.inl m)
  · by_cases e : b = a
    · subst e
      rcases B.script m with z | ⟨z1, z2⟩
      · exact .inl z
      · exact .inr (.inr ⟨rfl, z1, z2⟩)
    · exact .inl (B.other b m e)
/-- an object that is neither a table nor the script is not tracked -/
theorem Begin.out {H : Hp} {tabs : List Addr} {h : Heap} (B : Begin K h tabs a vs ns H) (ha : h.get? a = some { cls := .type "list", data := .seq vs.toArray }) {b : Addr} {o : Obj} (e : h.get? b = some o)
    (n1 : ∀ us n, o.data ≠ .seq us n) (n2 : o.data ≠ .fields #[]) : H b = none := by
  rcases B.kinds b with z | z | ⟨z, _⟩
  · exact z
  · have q := e.symm.trans (B.tabIs b z)
    cases q
    exact absurd rfl n2
  · subst z
    have q := e.symm.trans ha
    cases q
    exact absurd rfl (n1 _ _)
theorem Begin.run {H : Hp} (B : Begin K s1.heap (tb.map (·.2)) a vs ns H) (hok : HOk P w H s1.heap) (KX : K.In s1.heap) (hns : s1.heap.Ns mainGlobals mg) (hb : s1.heap.Ns builtinsNs mb) (hbb : ∀ x : Str, x ≠ "__name__" → mb x = bootBuiltins x)
    (hlim : s1.heap.NoLimit) (hg : s1.gens = #[]) (cds : ∀ p ∈ tb, PySem.W.CodeHd s1.heap p.1 p.2)
    (hbm : ∃ (bm : Addr) (ob : Obj), mg "__builtins__" = some (.ref bm) ∧ bm ≠ builtinsNs ∧ s1.heap.get? bm = some ob ∧ ob.cls = .type "module" ∧ ob.dict = some builtinsNs ∧ ob.data = .plain)
    (ha : s1.heap.get? a = some { cls := .type "list", data := .seq vs.toArray }) (hr : Room k callerA)
    (hsy : ∃ mm, s1.heap.Ns sysModules mm) (F : ∀ base : Heap, K.In base → base.Ns mainGlobals mg → (∀ p ∈ tb, GxR.TabB base mg p.1 p.2) → (∃ o, base.get? sysModules = some o) → FnG P w K mg base CX0 k fa fd [x] sp)
    (bind : ∀ (s : Shared) (u : Value), BindsTo s fd ⟨[u], []⟩ [(x, u)]) (want : sp [.ref a] H (fun v _ => v = .bl true) fun _ _ _ => False) :
    codeAny (model P w) callerA (.call (.ref fa) ⟨[.ref a], []⟩) (fun r s' => r = .ok (.ret (.bool true)) ∧ OldK s1.heap s'.heap ∧ s'.os = s1.os ∧ AllBare s'.gens) s1 := by
  have out := fun {b : Addr} {o : Obj} => B.out (b := b) (o := o) ha
  have low : ∀ {b : Addr} {o : Obj}, s1.heap.get? b = some o → H b = none → (hidT s1.heap H).get? b = some o := fun e n => hidT_get e n
  have lowNs : ∀ {b : Addr} {m : Str → Option Value}, s1.heap.Ns b m → (hidT s1.heap H).Ns b m := by
    rintro b m ⟨o, es, ep, e, d, r⟩
    refine ⟨o, es, ep, low e (out e ?_ ?_), d, r⟩
    · intro us n z
      cases d.symm.trans z
    · intro z
      cases d.symm.trans z
  have lowK : K.In (hidT s1.heap H) := by
    intro b o e
    refine low (KX b o e) ?_
    rcases B.kinds b with z | z | ⟨z1, z2, _⟩
    · exact z
    · cases (B.tabK b z).symm.trans e
    · subst z1
      cases z2.symm.trans e
  have lim : (hidT s1.heap H).NoLimit := by
    obtain ⟨mc, q1, q2⟩ := hlim
    exact ⟨mc, lowNs q1, q2⟩
  have tabs : ∀ p ∈ tb, GxR.TabB (hidT s1.heap H) mg p.1 p.2 := by
    intro p hp
    have isT := B.tabIs p.2 (List.mem_map.mpr ⟨p, hp, rfl⟩)
    constructor
    · obtain ⟨o, us, file, tf, flags, tg, inF, text, tt, e1, r1, r2, r3, rest⟩ := cds p hp
      refine ⟨o, us, file, tf, flags, tg, inF, text, tt, low e1 (out e1 ?_ ?_), r1, r2, r3, rest⟩
      · intro us n z
        cases r2.symm.trans z
      · intro z
        have z' := r2.symm.trans z
        cases z'
        simp at r3
    · obtain ⟨bm, ob, b1, b2, b3, b4, b5, b6⟩ := hbm
      refine ⟨bm, ob, b1, b2, ?_, ?_, low b3 (out b3 ?_ ?_), b4, b5, b6⟩
      · intro q
        obtain ⟨o, es, ep, e, hd, _⟩ := hns
        rw [← q, b3] at e
        cases e
        cases b6.symm.trans hd
      · intro q
        rw [q, isT] at b3
        cases b3
        cases b6
      · intro us n z
        cases b6.symm.trans z
      · intro z
        cases b6.symm.trans z
    · intro z
      obtain ⟨o, es, ep, e, hd, _⟩ := hns
      rw [z, isT] at e
      cases e
      cases hd
  have md : L2.Mod K mg (hidT s1.heap H) := ⟨lowK, lowNs hns, ⟨mb, lowNs hb, hbb⟩, lim⟩
  have env : Env0 P w K mg (hidT s1.heap H) callerA [] s1 H := by
    refine ⟨rfl, md, fun b o e => of_hidT e, Nat.le_of_eq (hidT_size _ _), trivial, ?_, hok, .of_eq hg⟩
    intro b z
    cases z
  have sysb : ∃ o, (hidT s1.heap H).get? sysModules = some o := by
    obtain ⟨mm, z⟩ := hsy
    obtain ⟨o, _, _, e, _⟩ := lowNs z
    exact ⟨o, e⟩
  have go := (F _ lowK (lowNs hns) tabs sysb).run callerA [] s1 H ⟨[.ref a], []⟩ [.ref a] [.ref a] _ _ rfl hr env (bind s1 (.ref a)) (.cons rfl .nil) want
  refine codeAny_mono go ?_
  intro r s' h
  match r, h with
  | .error e, h => exact False.elim h
  | .ok .next, h => exact h.elim
  | .ok .brk, h => exact h.elim
  | .ok .cont, h => exact h.elim
  | .ok (.ret u), ⟨v, H', os, bare, un, hok', rel, q⟩ =>
    cases q
    cases rel
    have stay : ∀ b o, b ∉ tb.map (·.2) → s1.heap.get? b = some o → s'.heap.get? b = some o := by
      intro b o nb e
      rcases B.kinds b with z | z | ⟨z1, _, z⟩
      · exact un.keep b o e z (by intro m; cases m) (by intro m; cases m)
      · exact absurd z nb
      · have e1 := (hok b _ z).1
        have e2 := (hok' b _ (un.frzs b _ _ z)).1
        rw [e] at e1
        cases e1
        exact e2
    have more : ∀ p ∈ tb, ∃ us : Array Value, s'.heap.get? p.2 = some { cls := .none, data := .fields us } := by
      intro p hp
      obtain ⟨us, z⟩ := un.tbls p.2 #[] (B.tabAt _ (List.mem_map.mpr ⟨p, hp, rfl⟩))
      exact ⟨_, hok' p.2 _ z⟩
    refine ⟨rfl, ⟨?_, ?_⟩, os, bare⟩
    · intro b o e
      by_cases m : b ∈ tb.map (·.2)
      · have isT := B.tabIs b m
        obtain ⟨p, hp, rfl⟩ := List.mem_map.mp m
        obtain ⟨us, hu⟩ := more p hp
        rw [isT] at e
        cases e
        refine .inr (.inl ⟨((cds p hp).tab isT).isCodeTable, rfl, #[], us, rfl, ?_⟩)
        rw [Array.empty_append]
        exact hu
      · exact .inl (stay b o m e)
    · intro b o e
      by_cases m : b ∈ tb.map (·.2)
      · obtain ⟨p, hp, rfl⟩ := List.mem_map.mp m
        obtain ⟨us, hu⟩ := more p hp
        exact ⟨_, hu⟩
      · exact ⟨o, stay b o m e⟩
/-- such a heap there is -/
theorem begin_ex (tabs : List Addr) (hT : ∀ b ∈ tabs, s1.heap.get? b = some { cls := .none, data := .fields #[] }) (nT : ∀ b ∈ tabs, K.lookup b = none) (KX : K.In s1.heap)
    (ha : s1.heap.get? a = some { cls := .type "list", data := .seq vs.toArray }) (hi : IntsAre vs ns) (hl : ns.length ≤ sizeLine) : ∃ H, Begin K s1.heap tabs a vs ns H ∧ HOk P w H s1.heap := by
  have na : a ∉ tabs := by
    intro m
    cases (hT a m).symm.trans ha
  by_cases hk : K.lookup a = none
  · let H : Hp := fun b => if b ∈ tabs then some (.tbl #[]) else if b = a then some (.frz { cls := .type "list", data := .seq vs.toArray } (.lst (ns.map V.int))) else none
    have atT : ∀ b ∈ tabs, H b = some (.tbl #[]) := fun b m => if_pos m
    have atA : H a = some (.frz { cls := .type "list", data := .seq vs.toArray } (.lst (ns.map V.int))) := (if_neg na).trans (if_pos rfl)
    have atN : ∀ b, b ∉ tabs → b ≠ a → H b = none := fun b m e => (if_neg m).trans (if_neg e)
    refine ⟨H, ⟨atT, hT, nT, .inl (.inr ⟨_, atA⟩), atN, fun _ => .inr ⟨hk, atA⟩⟩, ?_⟩
    intro b u z
    by_cases m : b ∈ tabs
    · cases (atT b m).symm.trans z
      exact hT b m
    · by_cases e : b = a
      · subst e
        cases atA.symm.trans z
        refine ⟨ha, ?_, vs, _, vals_ints hi, ha⟩
        rw [List.length_map]
        exact hl
      · cases (atN b m e).symm.trans z
  · obtain ⟨o, ho⟩ := Option.ne_none_iff_exists'.mp hk
    have e := KX a o ho
    rw [ha] at e
    cases e
    let H : Hp := fun b => if b ∈ tabs then some (.tbl #[]) else none
    have atT : ∀ b ∈ tabs, H b = some (.tbl #[]) := fun b m => if_pos m
    have atN : ∀ b, b ∉ tabs → H b = none := fun b m => if_neg m
    refine ⟨H, ⟨atT, hT, nT, .inr ⟨_, vs.toArray, _, ho, rfl, rfl, rfl, ?_, ?_⟩, fun b m _ => atN b m, fun _ => .inl (atN a na)⟩, ?_⟩
    · rw [List.size_toArray, hi.length]
      exact hl
    · simpa using vals_ints hi
    · intro b u z
      by_cases m : b ∈ tabs
      · cases (atT b m).symm.trans z
        exact hT b m
      · cases (atN b m).symm.trans z
end
/-- all that the end of a law asks of its promise -/
def LawG (l : PySem.W.OpenLaw) (w : World) (K : PySem.W.Frag) (k n : Nat) (x : Str) (mg : Str → Option Value) (fa : Addr) (h : Heap) : Prop :=
  ∃ (fd : FuncData) (tb : List (Addr × Addr)) (sp : Sp), (∀ p ∈ tb, h.get? p.2 = some { cls := .none, data := .fields #[] }) ∧ (∀ p ∈ tb, K.lookup p.2 = none) ∧ (∀ p ∈ tb, PySem.W.CodeHd h p.1 p.2) ∧
    (∀ (s : Shared) (u : Value), BindsTo s fd ⟨[u], []⟩ [(x, u)]) ∧
    (∀ (H : Hp) (a : Addr) (ns : List Int), ns.length ≤ n → (∀ p ∈ tb, H p.2 = some (.tbl #[])) → SqL K H a (ns.map V.int) → sp [.ref a] H (fun v _ => v = .bl true) fun _ _ _ => False) ∧
    ∀ base : Heap, K.In base → base.Ns mainGlobals mg → (∀ p ∈ tb, GxR.TabB base mg p.1 p.2) → (∃ o, base.get? sysModules = some o) → FnG l.prog w K mg base CX0 k fa fd [x] sp
theorem walkG {l : PySem.W.OpenLaw} {n k : Nat} {q : Program} {loose : List Str} {XP : (Str → Option Value) → Heap → Prop} {YP : World → Heap → Prop} {d : DefRec} {K : Params → PySem.W.Frag} {x : Str}
    (hn : l.most = some n) (hn2 : n ≤ sizeLine) (hdf : d.params.defaults = []) (hr : Room k callerA) (hY : ∀ (w : World) (h : Heap), YP w h → (K w.params).In h)
    (noImp : importsNone q = true) (F : ∀ (w : World) (mg mb : Str → Option Value) (mean : ExcName → Option Value) (fa : Addr) (h : Heap), Top q (PySem.W.looseW q loose) mean mg mb h → YP w h → (K w.params).In h → h.Ns mainGlobals mg → mg d.name = some (.ref fa) → LawG l w (K w.params) k n x mg fa h) :
    PySem.W.WalkO q loose XP YP l.row.toRowW d [] (fun f vs => PySem.call f vs) := by
  apply Att.attach_call hn hdf
  intro w s0 s1 mg mb fa o pm cd doc a vs ns G Y ho hd hcd hmg hobj hints hlen hg
  have KX := hY w _ Y
  obtain ⟨fd, tb, sp, hT, nT, C, hb, hsp, hF⟩ := F w mg mb _ fa _ G.T Y KX G.T.g hmg
  have hT' : ∀ b ∈ tb.map (·.2), s1.heap.get? b = some { cls := .none, data := .fields #[] } := by
    intro b m
    obtain ⟨p, hp, rfl⟩ := List.mem_map.mp m
    exact hT p hp
  have nT' : ∀ b ∈ tb.map (·.2), (K w.params).lookup b = none := by
    intro b m
    obtain ⟨p, hp, rfl⟩ := List.mem_map.mp m
    exact nT p hp
  obtain ⟨H, B, hok⟩ := begin_ex (P := l.prog) (w := w) (tb.map (·.2)) hT' nT' KX hobj hints (Nat.le_trans hlen hn2)
  exact B.run hok KX G.T.g G.T.b G.T.builtins G.T.nolimit hg C G.T.bmain hobj hr (let ⟨mm, z, _⟩ := (G.T.seer noImp).mods; ⟨mm, z⟩) hF hb (hsp H a ns hlen (fun p hp => B.tabAt _ (List.mem_map.mpr ⟨p, hp, rfl⟩)) B.seq)
/-- a if t else b, both of the kind D: what follows is shown once -/
theorem ifx {b : Bool} {ta : TE} {Q : VK} {σ : L2.St} {H : Hp} {v : V} (D : V → Prop) (hA : b = true → (∀ v, D v → Q v H) → ta σ H Q) (hv : D v) (all : ∀ v, D v → Q v H) : if b = true then ta σ H Q else tC v σ H Q := by
  by_cases h : b = true
  · rw [if_pos h]
    exact hA h all
  · rw [if_neg h]
    exact all v hv
theorem at_of {α : Type} {xs : List α} {i : Int} (h0 : 0 ≤ i) (h1 : i < xs.length) : ∃ v, xs[i.toNat]? = some v ∧ atI xs i = some v := by
  have hj : i.toNat < xs.length := by omega
  refine ⟨xs[i.toNat], List.getElem?_eq_getElem hj, ?_⟩
  have e := atI_nat (List.getElem?_eq_getElem hj)
  rwa [Int.toNat_of_nonneg h0] at e
theorem b01 (b : Bool) : -(2 ^ 64) < (if b = true then (1 : Int) else 0) ∧ (if b = true then (1 : Int) else 0) < 2 ^ 64 := by cases b <;> decide
theorem b01_mul (b : Bool) {x B : Int} (h0 : 0 ≤ x) (h1 : x < B) : 0 ≤ x * (if b = true then (1 : Int) else 0) ∧ x * (if b = true then (1 : Int) else 0) < B := by
  cases b
  · rw [if_neg Bool.false_ne_true, Int.mul_zero]
    omega
  · rw [if_pos rfl, Int.mul_one]
    omega
/-- a comprehension without a test -/
theorem lc_yes {σ : L2.St} {H : Hp} {A B : Hp → Prop} (h : A H) : tYes σ H fun b H3 => if b = true then A H3 else B H3 := by
  show (if true = true then A H else B H)
  rw [if_pos rfl]
  exact h
theorem same_put {H H2 : Hp} {l : Addr} {o : HO} (u : Same H H2) (e : H l = none) : Same H (L2.upd H2 l o) := fun b x eb => by
  rw [upd_ne (ne_of_none eb e)]
  exact u b x eb
theorem same_upto {a : Addr} {H H1 H2 : Hp} (s : Same H H1) (u : Upto a H1 H2) (e : H a = none) : Same H H2 := fun b x eb => u b x (ne_of_none eb e) (s b x eb)
end Cu

namespace Cu
open PySem PySem.Spec PyProof.Rows L2
/-! ### texts -/
abbrev tl (x : Str) : List Nat := x.cps.toList
def mkS (l : List Nat) : Str := ⟨l.toArray⟩
theorem tl_mk (l : List Nat) : tl (mkS l) = l := List.toList_toArray
theorem tl_len (x : Str) : (tl x).length = x.length := Array.length_toList
theorem ext_t {x y : Str} (h : tl x = tl y) : x = y := PyProof.Rows.ext_toList h
theorem tl_app (x y : Str) : tl (x ++ y) = tl x ++ tl y := TL.tl_append x y
theorem cut_both (z : Str) (i j : Nat) : tl (cutS z (some (i : Int)) (some (j : Int))) = ((tl z).drop i).take (j - i) := by
  show ((z.cps.toList.drop (HT.sIx z.length 0 (some (i : Int)))).take (HT.sIx z.length z.length (some (j : Int)) - HT.sIx z.length 0 (some (i : Int)))).toArray.toList = (z.cps.toList.drop i).take (j - i)
  rw [HT.sIx_nat, HT.sIx_nat, List.toList_toArray]
  have hl : z.cps.toList.length = z.length := Array.length_toList
  by_cases h : i ≤ z.length
  · rw [Nat.min_eq_left h]
    by_cases h2 : j ≤ z.length
    · rw [Nat.min_eq_left h2]
    · rw [Nat.min_eq_right (by omega), List.take_of_length_le (by rw [List.length_drop]; omega), List.take_of_length_le (by rw [List.length_drop]; omega)]
  · rw [Nat.min_eq_right (show z.length ≤ i by omega), List.drop_eq_nil_of_le (show z.cps.toList.length ≤ z.length by omega), List.drop_eq_nil_of_le (show z.cps.toList.length ≤ i by omega), List.take_nil, List.take_nil]
theorem cut_left (z : Str) (j : Nat) : tl (cutS z none (some (j : Int))) = (tl z).take j := by
  show ((z.cps.toList.drop (HT.sIx z.length 0 none)).take (HT.sIx z.length z.length (some (j : Int)) - HT.sIx z.length 0 none)).toArray.toList = z.cps.toList.take j
  rw [HT.sIx_nat, HT.sIx_none, List.toList_toArray, List.drop_zero, Nat.sub_zero]
  have hl : z.cps.toList.length = z.length := Array.length_toList
  by_cases h2 : j ≤ z.length
  · rw [Nat.min_eq_left h2]
  · rw [Nat.min_eq_right (by omega), List.take_of_length_le (by omega), List.take_of_length_le (by omega)]
theorem cut_right (z : Str) (i : Nat) : tl (cutS z (some (i : Int)) none) = (tl z).drop i := by
  show ((z.cps.toList.drop (HT.sIx z.length 0 (some (i : Int)))).take (HT.sIx z.length z.length none - HT.sIx z.length 0 (some (i : Int)))).toArray.toList = z.cps.toList.drop i
  rw [HT.sIx_nat, HT.sIx_none, List.toList_toArray]
  have hl : z.cps.toList.length = z.length := Array.length_toList
  by_cases h : i ≤ z.length
  · rw [Nat.min_eq_left h, List.take_of_length_le (by rw [List.length_drop]; omega)]
  · rw [Nat.min_eq_right (by omega), List.drop_eq_nil_of_le (by omega), List.drop_eq_nil_of_le (by omega), List.take_nil]
/-- all signs are ASCII -/
def Asc (z : Str) : Prop := ∀ c ∈ tl z, c < 128
theorem asc_of {x : Str} {l : List Nat} (h : ∀ c ∈ tl x, c ∈ l) (k : ∀ c ∈ l, c < 128) : Asc x := fun c m => k c (h c m)
theorem joinL_nil : ∀ ys : List (List Nat), TL.joinL [] ys = ys.flatten
  | [] => rfl
  | [p] => by simp [TL.joinL]
  | p :: q :: r => by
    show p ++ ([] ++ TL.joinL [] (q :: r)) = _
    rw [joinL_nil (q :: r), List.nil_append, List.flatten_cons (l := p)]
/-- ''.join(ys) -/
theorem tl_join0 (ys : List Str) : tl (Txt.join (Str.ofString "") ys) = (ys.map tl).flatten := by
  have e := TL.tl_join (Str.ofString "") ys
  rw [← TL.join_eq] at e
  rw [show tl (Txt.join (Str.ofString "") ys) = TL.joinL (TL.tl (Str.ofString "")) (ys.map TL.tl) from e]
  exact joinL_nil _
/-! ### data that can be shown -/
structure Good (n k : Nat) (d : PyData) : Prop where
  len : d.shown.length ≤ n
  dep : d.depth ≤ k
  show_ : d.showable = true
  dict : d.hasDict = false
theorem Good.mono {n k n' k' : Nat} {d : PyData} (g : Good n k d) (hn : n ≤ n') (hk : k ≤ k') : Good n' k' d := ⟨Nat.le_trans g.len hn, Nat.le_trans g.dep hk, g.show_, g.dict⟩
theorem good_none {n k : Nat} (h : 4 ≤ n) : Good n k .none := ⟨Nat.le_trans (by decide +kernel) h, by simp [PyData.depth], by simp [PyData.showable], by simp [PyData.hasDict]⟩
theorem good_bool {n k : Nat} (b : Bool) (h : 5 ≤ n) : Good n k (.bool b) := ⟨Nat.le_trans (by cases b <;> decide +kernel) h, by simp [PyData.depth], by simp [PyData.showable], by simp [PyData.hasDict]⟩
theorem good_int {n k : Nat} {i : Int} (h : i.natAbs.log2 < 1920) (hn : 2000 ≤ n) : Good n k (.int i) := by
  refine ⟨?_, by simp [PyData.depth], by simp [PyData.showable, h], by simp [PyData.hasDict]⟩
  have e := int_text_length_le (k := 1920) (by decide) h
  simp only [PyData.shown]
  rw [PySem.ofString_length]
  omega
theorem good_str {n k : Nat} {z : Str} (h : Asc z) (hn : 10 * z.length + 2 ≤ n) : Good n k (.str z) := by
  refine ⟨?_, by simp [PyData.depth], by simp [PyData.showable], by simp [PyData.hasDict]⟩
  simp only [PyData.shown]
  exact Nat.le_trans (StrLaws.reprText_len z fun c m => Nat.lt_trans (h c m) (by decide)) hn
theorem piled_le {n : Nat} : ∀ ds : List PyData, (∀ d ∈ ds, d.shown.length ≤ n) → piled (PyData.shownAll ds) ≤ (n + 2) * ds.length
  | [], _ => by simp [PyData.shownAll, piled]
  | d :: r, h => by
    have h1 := h d List.mem_cons_self
    have h2 := piled_le r fun z m => h z (List.mem_cons_of_mem _ m)
    simp only [PyData.shownAll]
    rw [piled_cons, List.length_cons, Nat.mul_succ]
    omega
theorem list_text (ts : List Str) : (listText ts).length ≤ piled ts + 2 := by
  cases ts with
  | nil => decide +kernel
  | cons t r =>
    have e := textFrom_length_pos r 1 (("[" : Str) ++ (if (0 : Nat) > 0 then ", " else "" : String) ++ t) (by decide)
    have e2 : (("[" : Str) ++ (if (0 : Nat) > 0 then ", " else "" : String) ++ t).length = 1 + t.length := by
      rw [strLen_append, strLen_append]
      rfl
    show (textFrom 1 _ r ++ Str.ofString "]").length ≤ _
    rw [strLen_append, e, e2, piled_cons]
    have e3 : (Str.ofString "]").length = 1 := rfl
    omega
theorem all_of {n k : Nat} : ∀ ds : List PyData, (∀ d ∈ ds, Good n k d) → PyData.depthAll ds ≤ k ∧ PyData.showableAll ds = true ∧ PyData.hasDictAll ds = false
  | [], _ => by simp [PyData.depthAll, PyData.showableAll, PyData.hasDictAll]
  | d :: r, h => by
    obtain ⟨h1, h2, h3⟩ := all_of r fun z m => h z (List.mem_cons_of_mem _ m)
    have g := h d List.mem_cons_self
    have g2 := g.dep
    simp only [PyData.depthAll, PyData.showableAll, PyData.hasDictAll, g.show_, g.dict, h2, h3, Bool.and_self, Bool.or_self, and_self, and_true]
    omega
theorem good_list {n k m : Nat} {ds : List PyData} (h : ∀ d ∈ ds, Good n k d) (hm : (n + 2) * ds.length + 2 ≤ m) : Good m (k + 1) (.list ds) := by
  obtain ⟨h1, h2, h3⟩ := all_of ds h
  have p := piled_le ds fun d z => (h d z).len
  have t := list_text (PyData.shownAll ds)
  refine ⟨?_, ?_, ?_, ?_⟩
  · simp only [PyData.shown]
    omega
  · simp only [PyData.depth]
    omega
  · simp only [PyData.showable]
    exact h2
  · simp only [PyData.hasDict]
    exact h3
theorem good_tup {n k m : Nat} {ds : List PyData} (h : ∀ d ∈ ds, Good n k d) (hm : (n + 2) * ds.length + 2 ≤ m) : Good m (k + 1) (.tuple ds) := by
  obtain ⟨h1, h2, h3⟩ := all_of ds h
  have p := piled_le ds fun d z => (h d z).len
  have t := fmt_text (PyData.shownAll ds)
  refine ⟨?_, ?_, ?_, ?_⟩
  · simp only [PyData.shown]
    omega
  · simp only [PyData.depth]
    omega
  · simp only [PyData.showable]
    exact h2
  · simp only [PyData.hasDict]
    exact h3
theorem Good.shw {n k : Nat} {d : PyData} (g : Good n k d) (hn : n ≤ 16000000 := by decide) (hk : k ≤ 60 := by decide) : Shw d := ⟨g.show_, g.dict, Nat.le_trans g.dep hk, Nat.le_trans (Nat.le_trans g.len hn) (by decide)⟩
end Cu

namespace Cu
open PySem PySem.Spec PyProof.Rows L2
/-! ### generator expressions whose element changes nothing -/
/-- what xv gives when it is walked from the state s1: n items, the i-th as Pf says; its walk leans on no table -/
def Src (prog : Program) (w : World) (P : Addr) (s1 : Shared) (xv : Value) (n : Nat) (Pf : Nat → Value → Prop) : Prop :=
  ∀ (A : Around) (E : Value → Shared → Prop) (Q : Value → Shared → Prop),
    (∀ (o : Obj) (fp : List Addr) (go : Nat → Heap → Prop), (∀ A' : Around, A'.handled = none → Walks prog w A' s1.heap.objs.size fp [s1.heap.objs.size] n Pf go) → go 0 (s1.heap.push o) → (∀ b ∈ fp, b ≤ s1.heap.objs.size ∧ b ≠ P) →
      Q (.ref s1.heap.objs.size) { s1 with heap := s1.heap.push o }) → A.handled = none → wpAny (model prog w) A (pyIter xv) Q E s1
theorem src_str {prog : Program} {w : World} {P : Addr} {s1 : Shared} {a : Str} {t : Tok} (hP : P < s1.heap.objs.size) : Src prog w P s1 (.str a t) a.cps.size (SignAt a) := by
  intro A E Q h hh
  apply wpAny_pyIter_str
  intro o go W st
  apply h o _ go W st
  intro b hb
  rcases List.mem_cons.mp hb with rfl | z
  · exact ⟨Nat.le_refl _, fun e => Nat.lt_irrefl _ (e ▸ hP)⟩
  · cases z
/-- the element, evaluated in the generator's own frame: it changes nothing and gives what F says -/
def Calm (X : Cx) (P : Addr) (scope : Scope) (x : Str) (elt : Expr) (s1 : Shared) (Pf F : Nat → Value → Prop) : Prop :=
  ∀ (cenv : Env) (A' : Around) (E' : Value → Shared → Prop) (i : Nat) (v : Value) (s2 : Shared) (m2 : Str → Option Value), cenv.scope = scope → cenv.globals = X.env.globals → cenv.builtins = builtinsNs → cenv.cells = cloFrom X.env.cells scope.names [] →
    A'.handled = none → Pf i v → s2.heap.Ns cenv.locals m2 → m2 x = some v → (∀ b u, b ≠ P → s1.heap.get? b = some u → s2.heap.get? b = some u) →
    wpAny (model X.prog X.w) A' (eval elt cenv) (fun y s3 => F i y ∧ Keeps s2 s3) E' s2
/-- the generator g is ready to be walked -/
def Set_ (X : Cx) (pins : List (Addr × Obj)) (σ : L2.St) (H1 : Hp) (P : Addr) (n : Nat) (F : Nat → Value → Prop) (g : Addr) (s5 : Shared) : Prop :=
  ∃ (fp wr : List Addr) (G : Array GenState → Array GenState → Prop) (go : Nat → Shared → Prop), WalksS X.prog X.w X.A.in1 g fp wr G n F go ∧ go 0 s5 ∧
    ∀ s', Moved wr G s5 s' → ∃ H2, GxR.Tabbed P H1 H2 ∧ Inv X pins σ H2 s'
theorem walksS_imp {prog : Program} {w : World} {A : Around} {I : Addr} {fp wr : List Addr} {G : Array GenState → Array GenState → Prop} {n : Nat} {F F' : Nat → Value → Prop} {go : Nat → Shared → Prop} (W : WalksS prog w A I fp wr G n F go) (h : ∀ j y, F j y → F' j y) :
    WalksS prog w A I fp wr G n F' go where
  sub := W.sub
  grefl := W.grefl
  gtrans := W.gtrans
  frame := W.frame
  item := fun i s Q E hi st q => W.item i s Q E hi st fun v s' hv => q v s' (h i v hv)
  done := W.done
  self := W.self
section
variable {X : Cx} {pins : List (Addr × Obj)} {σ : L2.St} {H : Hp} {s : Shared}
theorem gen_make {c P : Addr} {elt iter : Expr} {x : Str} {px gpos : Pos} {scope : Scope} {te : TE} {k : Nat} {Q' : Value → Shared → Prop} {R : V → Hp → Prop}
    (hr : Room k X.A) (TB : GxR.TabB X.base X.mg c P) (hcode : X.env.code = .ref c) (S : GxR.GenS X.env scope x) (hi : PE X iter te) (hs : ∀ v, genFold iter X.env v = pure v) (I : Inv X pins σ H s)
    (h : te σ H fun v H1 => GxR.TabG H1 P ∧ R v H1)
    (src : ∀ v H1 s1 u, R v H1 → GxR.TabG H1 P → Inv X pins σ H1 s1 → RelV v u → P < s1.heap.objs.size → ∃ n Pf F, Src X.prog X.w P s1 u n Pf ∧ Calm X P scope x elt s1 Pf F ∧ ∀ g s5, Set_ X pins σ H1 P n F g s5 → Q' (.ref g) s5) :
    wpAny (model X.prog X.w) X.A (eval (.GeneratorExp elt [⟨.Name x px, iter, [], 0⟩] scope gpos) X.env) Q' X.xe s := by
  have dp : X.A.depth < recursionLimit := by
    have := hr.dp
    omega
  apply wpAny_GeneratorExp_walksQ hr.hd S.co (closure_ok S.free) S.cell S.dot S.loc S.kind dp _ hs
  refine thn (hi.run pins s σ H _ I h) ?_
  rintro xv s1 ⟨v, H1, I1, r1, tab, hR⟩
  obtain ⟨ps, hP, tr⟩ := id tab
  have isP : s1.heap.get? P = some { cls := .none, data := .fields ps } := I1.hok P _ hP
  have ltP : P < s1.heap.objs.size := Heap.lt_size isP
  obtain ⟨n, Pf, F, sc, calm, fin⟩ := src v H1 s1 xv hR tab I1 r1 ltP
  apply sc _ _ _ _ hr.hd
  intro o fp go W st hfp
  have isP2 : (s1.heap.push o).get? P = some { cls := .none, data := .fields ps } := Heap.get?_push_of_some _ isP
  have cd : PySem.W.CodeHd (s1.heap.push o) c P := TB.code.keeps fun b u e => Heap.get?_push_of_some _ (I1.bk b u e)
  have lim2 := I1.nolimit.push o
  refine And.intro lim2 ?_
  -- behind the making of the code object
  have rest : ∀ (code : Value) (h3 : Heap) (tk : Nat) (qs : Array Value), Heap.ExtBut P (s1.heap.push o) h3 → (s1.heap.push o).objs.size ≤ h3.objs.size → h3.get? P = some { cls := .none, data := .fields qs } → (∃ more, qs = ps ++ more) → TriplesOk qs.toList →
      wpAny (model X.prog X.w) X.A (builtinsFor X.env.globals X.env.builtins) (fun bi s4 =>
        ∃ it fp wr n₀ Pf St₀ pz F, Value.ref s1.heap.objs.size = .ref it ∧ (∀ A' : Around, A'.handled = none → Walks X.prog X.w A' it fp wr n₀ Pf St₀) ∧ St₀ 0 s4.heap ∧ (∀ b ∈ fp, b < s4.heap.objs.size) ∧ s4.heap.NoLimit ∧ cStatics ∉ wr ∧
          (∀ href : Heap, (∀ b o, s4.heap.get? b = some o → href.get? b = some o) → QuietGen X.prog X.w (genEnv scope (cloFrom X.env.cells scope.names []) s4.heap.objs.size code bi X.env) x [] elt (List.range s4.heap.objs.size) wr Pf pz F href) ∧
          (∀ a h₅ tk gs, gs.bare = true → s4.heap.objs.size < a → h₅.objs.size = a + 1 → (∀ b o, s4.heap.get? b = some o → h₅.get? b = some o) →
            WalksS X.prog X.w X.A.in4 a (a :: s4.heap.objs.size :: List.range s4.heap.objs.size) (s4.heap.objs.size :: wr) (GenOnlyQ s4.gens.size) (passing pz n₀ 0).length
              (fun j y => ∃ i, (passing pz n₀ 0)[j]? = some i ∧ F i y) (GenAt X.prog X.w X.A.in4 a s4.gens.size s4.heap.objs.size (List.range s4.heap.objs.size) wr pz n₀ F) →
            GenAt X.prog X.w X.A.in4 a s4.gens.size s4.heap.objs.size (List.range s4.heap.objs.size) wr pz n₀ F 0 { s4 with gens := s4.gens.push gs, toks := tk, heap := h₅ } →
            Q' (.ref a) { s4 with gens := s4.gens.push gs, toks := tk, heap := h₅ })) X.xe { s1 with heap := h3, toks := tk } := by
    intro code h3 tk qs ex size isP3 grown tr3
    obtain ⟨bm, ob, b1, b2, b3, b4, b5, b6, b7, b8⟩ := TB.bm
    have old3 : ∀ b u, b ≠ P → s1.heap.get? b = some u → h3.get? b = some u := fun b u nb e => ex b u nb (Heap.get?_push_of_some _ e)
    have itlt : s1.heap.objs.size < h3.objs.size := by
      have q : (s1.heap.push o).objs.size = s1.heap.objs.size + 1 := Heap.size_push ..
      omega
    obtain ⟨mc, nsc, _⟩ := id I1.nolimit
    have ltc : cStatics < s1.heap.objs.size := nsc.lt
    have ncP : cStatics ≠ P := by
      intro e
      obtain ⟨o', es, ep, ho, hd, _⟩ := nsc
      rw [e, isP] at ho
      cases ho
      cases hd
    have gl : h3.Ns X.env.globals X.mg := by
      rw [I1.ok.glob]
      exact ((I1.mod.glob.keeps I1.bk).push o).extBut ex TB.gP
    apply wpAny_builtinsFor gl b1 b2 (old3 _ _ b4 (I1.bk _ _ b5)) b6 b7 b8
    refine ⟨s1.heap.objs.size, fp, [s1.heap.objs.size], n, Pf, go, (fun _ => true), F, rfl, W, ?_, ?_, lim2.extBut ex ncP, ?_, ?_, ?_⟩
    · exact (W X.A hr.hd).frame _ _ _ st fun b hb u e => ex b u (hfp b hb).2 e
    · intro b hb
      exact Nat.lt_of_le_of_lt (hfp b hb).1 itlt
    · intro z
      rcases List.mem_cons.mp z with z | z
      · exact Nat.ne_of_lt ltc z
      · cases z
    · intro href kept
      constructor
      · intro A' E' i v s2 m2 hA hPv hn hm hk
        simp only [List.forIn_nil]
        exact wpAny_pure ⟨rfl, GxR.keeps_refl _⟩
      · intro A' E' i v s2 m2 hA hPv hp hn hm hk
        refine calm _ A' E' i v s2 m2 rfl rfl rfl rfl hA hPv hn hm ?_
        intro b u nb e
        have l1 := Heap.lt_size e
        refine hk b (List.mem_range.mpr (Nat.lt_trans l1 itlt)) ?_ u (kept b u (old3 b u nb e))
        intro z
        rcases List.mem_cons.mp z with z | z
        · exact Nat.ne_of_lt l1 z
        · cases z
    · intro g h5 tk5 gs bare lt5 sz5 keep5 W5 at5
      simp only [GxR.passing_true, List.length_range] at W5
      refine fin g _ ⟨_, _, _, _, walksS_imp W5.in4_1 ?_, at5, ?_⟩
      · rintro j y ⟨i, hj, hF⟩
        obtain ⟨hlt, ej⟩ := List.getElem?_eq_some_iff.mp hj
        rw [List.getElem_range] at ej
        rw [ej]
        exact hF
      · intro s' mv
        obtain ⟨more, em⟩ := grown
        have out : ∀ b u, s1.heap.get? b = some u → b ∉ h3.objs.size :: [s1.heap.objs.size] := by
          intro b u e hb
          have l1 : b < s1.heap.objs.size := Heap.lt_size e
          rcases List.mem_cons.mp hb with z | z
          · exact Nat.lt_irrefl _ (Nat.lt_trans (z ▸ l1 : (h3.objs.size : Nat) < s1.heap.objs.size) itlt)
          · rcases List.mem_cons.mp z with z | z
            · exact Nat.ne_of_lt l1 z
            · cases z
        have other : ∀ b u, b ≠ P → s1.heap.get? b = some u → s'.heap.get? b = some u := fun b u nb e => mv.heap b u (out b u e) (keep5 b u (old3 b u nb e))
        have tabNow : s'.heap.get? P = some { cls := .none, data := .fields (ps ++ more) } := by
          rw [← em]
          exact mv.heap P _ (out P _ isP) (keep5 P _ isP3)
        have J := GxR.inv_tab (more := more) (h' := s'.heap) (g' := s'.gens) (d' := s'.drawn) (t' := s'.toks) I1 hP other tabNow (AllBare.movedS (I1.bare.push bare) mv)
        rw [GxR.sh_eta s1 s' mv.os] at J
        refine ⟨upd H1 P (.tbl (ps ++ more)), ⟨⟨ps ++ more, upd_same, ?_⟩, fun b nb => upd_ne nb⟩, J⟩
        rw [← em]
        exact tr3
  cases hit : codeAmong gpos ps.toList with
  | none =>
    apply wpAny_genexprCodeX hcode (cd.code isP2 tr) (cd.tab isP2) hit
    intro c' h' tk ex ge lt co' _ tab' _
    obtain ⟨o1, vs, f1, tf, fl, tg, inF, tx, tt, op, _, _, _, _, _, _, _, _, _, tr', _⟩ := co'
    exact rest _ h' tk _ ex (Nat.le_trans ge (Nat.le_of_lt lt)) tab'.2 ⟨_, rfl⟩ tr'
  | some cv =>
    apply wpAny_genexprCode_hit hcode (cd.code isP2 tr) hit
    exact rest cv (s1.heap.push o) s1.toks ps (Heap.ExtBut.refl _ _) (Nat.le_refl _) isP2 ⟨#[], by simp⟩ tr
/-- all(test for x in iter): the test of the i-th item is tr i -/
def tAllG (P : Addr) (te : TE) (R : V → Hp → Nat → (Nat → Bool) → Prop) : TE := fun σ H Q => te σ H fun v H1 => GxR.TabG H1 P ∧ ∃ n tr, R v H1 n tr ∧ ∀ H2, GxR.Tabbed P H1 H2 → Q (.bl ((List.range n).all tr)) H2
/-- what a rule for all(..) asks of the walked thing and the element -/
def GenR (X : Cx) (P : Addr) (scope : Scope) (x : Str) (elt : Expr) (R : V → Hp → Nat → (Nat → Bool) → Prop) : Prop :=
  ∀ pins σ v H1 s1 u n tr, R v H1 n tr → GxR.TabG H1 P → Inv X pins σ H1 s1 → RelV v u → P < s1.heap.objs.size → ∃ Pf F, Src X.prog X.w P s1 u n Pf ∧ Calm X P scope x elt s1 Pf F ∧ TruthOf X.prog X.w X.A.in1 F tr
theorem pe_allG {c P : Addr} {elt iter : Expr} {x : Str} {px p pos gpos : Pos} {scope : Scope} {te : TE} {k : Nat} {R : V → Hp → Nat → (Nat → Bool) → Prop}
    (hr : Room k X.A) (hg : Gl X "all") (hm : X.mg "all" = none) (TB : GxR.TabB X.base X.mg c P) (hcode : X.env.code = .ref c) (S : GxR.GenS X.env scope x) (hi : PE X iter te) (rule : GenR X P scope x elt R)
    (hs : ∀ v, genFold iter X.env v = pure v := by intro _; rfl)
    (he : starEach [.GeneratorExp elt [⟨.Name x px, iter, [], 0⟩] scope gpos] X.env = (false, eval (.GeneratorExp elt [⟨.Name x px, iter, [], 0⟩] scope gpos) X.env) :: starEach [] X.env := by rfl) :
    PE X (.Call (.Name "all" p) [.GeneratorExp elt [⟨.Name x px, iter, [], 0⟩] scope gpos] [] pos) (tAllG P te R) := by
  constructor
  intro pins s σ H Q I h
  apply wpAny_Call_Name_kw
  apply ld_blt I hg hm (show bootBuiltins "all" = some (.builtin "all") by decide +kernel)
  apply PyProof.Rows.callWith_builtin1 _ he (by rfl)
  rw [he]
  show wpAny _ _ (spliced ((false, eval (.GeneratorExp elt [⟨.Name x px, iter, [], 0⟩] scope gpos) X.env) :: backTo pos (starEach [] X.env))) _ _ s
  apply Calls.spliced_cons
  apply gen_make (R := fun v H1 => ∃ n tr, R v H1 n tr ∧ ∀ H2, GxR.Tabbed P H1 H2 → Q (.bl ((List.range n).all tr)) H2) hr TB hcode S hi hs I h
  rintro v H1 s1 u ⟨n, tr, hR, q⟩ tab I1 ru ltP
  obtain ⟨Pf, F, sc, calm, tru⟩ := rule pins σ v H1 s1 u n tr hR tab I1 ru ltP
  refine ⟨n, Pf, F, sc, calm, ?_⟩
  rintro g s5 ⟨fp, wr, G, go, W, st, inv⟩
  apply Calls.spliced_nil
  apply call_all_walkS
  apply W.self 0 _ _ _ st
  refine ⟨g, fp, wr, G, n, F, go, tr, rfl, W, st, tru, ?_⟩
  intro s' mv
  obtain ⟨H2, tb, J⟩ := inv s' mv
  exact ⟨.bl _, H2, J, rfl, q H2 tb⟩
end
end Cu

namespace Cu
open PySem PySem.Spec PyProof.Rows L2
/-! ### data with dicts -/
def keyD : Key → PyData
  | .inl i => .int i
  | .inr x => .str x
mutual
inductive Dx (H : Hp) : V → PyData → Prop
  | non : Dx H .non .none
  | bl (b : Bool) : Dx H (.bl b) (.bool b)
  | int (i : Int) : Dx H (.int i) (.int i)
  | str (x : Str) : Dx H (.str x) (.str x)
  | lst {a : Addr} {xs : List V} {ds : List PyData} (e : H a = some (.lst xs)) (k : DxAll H xs ds) : Dx H (.ref a) (.list ds)
  | tup {a : Addr} {xs : List V} {ds : List PyData} (e : H a = some (.tup xs)) (k : DxAll H xs ds) : Dx H (.ref a) (.tuple ds)
  | dct {a : Addr} {kvs : List (Key × V)} {ds : List (PyData × PyData)} (e : H a = some (.dK kvs)) (k : DxKv H kvs ds) : Dx H (.ref a) (.dict ds)
inductive DxAll (H : Hp) : List V → List PyData → Prop
  | nil : DxAll H [] []
  | cons {v : V} {vs : List V} {d : PyData} {ds : List PyData} (h : Dx H v d) (t : DxAll H vs ds) : DxAll H (v :: vs) (d :: ds)
inductive DxKv (H : Hp) : List (Key × V) → List (PyData × PyData) → Prop
  | nil : DxKv H [] []
  | cons {k : Key} {v : V} {r : List (Key × V)} {d : PyData} {ds : List (PyData × PyData)} (h : Dx H v d) (t : DxKv H r ds) : DxKv H ((k, v) :: r) ((keyD k, d) :: ds)
end
/-- what the relation leans on stays -/
def Stays (H H' : Hp) : Prop := ∀ b o, H b = some o → (∃ xs, o = .lst xs) ∨ (∃ xs, o = .tup xs) ∨ (∃ kvs, o = .dK kvs) → H' b = some o
mutual
theorem Dx.stays {H H' : Hp} (s : Stays H H') : ∀ (d : PyData) (v : V), Dx H v d → Dx H' v d
  | .none, _, h => by
    cases h
    exact .non
  | .bool b, _, h => by
    cases h
    exact .bl b
  | .int i, _, h => by
    cases h
    exact .int i
  | .str x, _, h => by
    cases h
    exact .str x
  | .list ds, _, h => by
    cases h with
    | lst e k => exact .lst (s _ _ e (.inl ⟨_, rfl⟩)) (DxAll.stays s ds _ k)
  | .tuple ds, _, h => by
    cases h with
    | tup e k => exact .tup (s _ _ e (.inr (.inl ⟨_, rfl⟩))) (DxAll.stays s ds _ k)
  | .dict ds, _, h => by
    cases h with
    | dct e k => exact .dct (s _ _ e (.inr (.inr ⟨_, rfl⟩))) (DxKv.stays s ds _ k)
theorem DxAll.stays {H H' : Hp} (s : Stays H H') : ∀ (ds : List PyData) (vs : List V), DxAll H vs ds → DxAll H' vs ds
  | [], _, h => by
    cases h
    exact .nil
  | d :: ds, _, h => by
    cases h with
    | cons h t => exact .cons (Dx.stays s d _ h) (DxAll.stays s ds _ t)
theorem DxKv.stays {H H' : Hp} (s : Stays H H') : ∀ (ds : List (PyData × PyData)) (vs : List (Key × V)), DxKv H vs ds → DxKv H' vs ds
  | [], _, h => by
    cases h
    exact .nil
  | (_, d) :: ds, _, h => by
    cases h with
    | cons h t => exact .cons (Dx.stays s d _ h) (DxKv.stays s ds _ t)
end
section
variable {X : Cx} {pins : List (Addr × Obj)} {σ : L2.St} {H : Hp} {s : Shared}
theorem not_sys (sy : ∃ o, X.base.get? sysModules = some o) (I : Inv X pins σ H s) {a : Addr} {o : HO} (e : H a = some o) : sysModules ≠ a := by
  intro z
  obtain ⟨ob, eb⟩ := sy
  have n := (I.bs _ _ eb).2
  rw [z, e] at n
  cases n
theorem keys_read {h : Heap} : ∀ (ds : List (PyData × PyData)) {es : List DictEntry} {kvs : List (Key × V)} {vs : List (Key × Value)}, Pairs (mixKind X.prog X.w) es vs → KV kvs vs → DxKv H kvs ds → ReadsAll h (es.map (·.key)) (ds.map (·.1)) []
  | [], _, _, _, p, r, d => by
    cases d
    cases r
    cases p
    exact .nil
  | (_, _) :: ds, _, _, _, p, r, d => by
    cases d with
    | @cons k _ _ _ _ h6 h7 =>
      cases r with
      | cons h4 h5 =>
        cases p with
        | @cons e _ _ _ h1 h2 h3 =>
          have q := keys_read (h := h) ds h3 h5 h7
          have ek : keyIs k e.key = true := by
            have z := h1
            rw [← h4.1] at z
            exact z
          rcases keyIs_shape ek with ⟨i, t, rfl, e2⟩ | ⟨x, t, rfl, e2⟩
          · rw [List.map_cons, List.map_cons, e2]
            exact ReadsAll.cons (as := []) (Reads.int i t) q
          · rw [List.map_cons, List.map_cons, e2]
            exact ReadsAll.cons (as := []) (Reads.str x t) q
mutual
theorem Dx.reads (sy : ∃ o, X.base.get? sysModules = some o) (I : Inv X pins σ H s) : ∀ (d : PyData) (v : V) (u : Value), Dx H v d → RelV v u → ∃ as, Reads s.heap u d as ∧ sysModules ∉ as
  | .none, _, _, h, r => by
    cases h
    cases r
    exact ⟨_, Reads.none, fun z => (nomatch z)⟩
  | .bool b, _, _, h, r => by
    cases h
    cases r
    exact ⟨_, Reads.bool b, fun z => (nomatch z)⟩
  | .int i, _, _, h, r => by
    cases h
    obtain ⟨t, rfl⟩ := r
    exact ⟨_, Reads.int i t, fun z => (nomatch z)⟩
  | .str x, _, _, h, r => by
    cases h
    obtain ⟨t, rfl⟩ := r
    exact ⟨_, Reads.str x t, fun z => (nomatch z)⟩
  | .list ds, _, _, h, r => by
    cases h with
    | lst e k =>
      cases r
      obtain ⟨_, its, n, rv, eo⟩ := I.hok _ _ e
      obtain ⟨as, hr, hn⟩ := DxAll.reads sy I ds _ its k rv
      refine ⟨_, Reads.list eo rfl rfl (by rw [List.toList_toArray]; exact hr), fun z => ?_⟩
      rcases List.mem_cons.mp z with z | z
      · exact not_sys sy I e z
      · exact hn z
  | .tuple ds, _, _, h, r => by
    cases h with
    | tup e k =>
      cases r
      obtain ⟨_, its, rv, o, ho, hc, n, hd⟩ := I.hok _ _ e
      obtain ⟨as, hr, hn⟩ := DxAll.reads sy I ds _ its k rv
      exact ⟨_, Reads.tuple ho hc hd (by rw [List.toList_toArray]; exact hr), hn⟩
  | .dict ds, _, _, h, r => by
    cases h with
    | dct e k =>
      cases r
      obtain ⟨_, _, vs, kv, o, es, ep, ho, hx, hd, hk, hp, _⟩ := I.hok _ _ e
      obtain ⟨bs, hr, hn⟩ := DxKv.reads sy I ds _ vs es.toList k kv hp
      refine ⟨_, Reads.dict (as := []) ho hx.1 hd (keys_read ds hp kv k) hr, fun z => ?_⟩
      rcases List.mem_append.mp z with z | z
      · rcases List.mem_cons.mp z with z | z
        · exact not_sys sy I e z
        · cases z
      · exact hn z
theorem DxAll.reads (sy : ∃ o, X.base.get? sysModules = some o) (I : Inv X pins σ H s) : ∀ (ds : List PyData) (vs : List V) (us : List Value), DxAll H vs ds → Vals vs us → ∃ as, ReadsAll s.heap us ds as ∧ sysModules ∉ as
  | [], _, _, h, r => by
    cases h
    cases r
    exact ⟨_, ReadsAll.nil, fun z => (nomatch z)⟩
  | d :: ds, _, _, h, r => by
    cases h with
    | cons h1 h2 =>
      cases r with
      | cons r1 r2 =>
        obtain ⟨as, q1, n1⟩ := Dx.reads sy I d _ _ h1 r1
        obtain ⟨bs, q2, n2⟩ := DxAll.reads sy I ds _ _ h2 r2
        exact ⟨_, ReadsAll.cons q1 q2, fun z => (List.mem_append.mp z).elim n1 n2⟩
theorem DxKv.reads (sy : ∃ o, X.base.get? sysModules = some o) (I : Inv X pins σ H s) : ∀ (ds : List (PyData × PyData)) (kvs : List (Key × V)) (vs : List (Key × Value)) (es : List DictEntry), DxKv H kvs ds → KV kvs vs → Pairs (mixKind X.prog X.w) es vs →
    ∃ as, ReadsAll s.heap (es.map (·.val)) (ds.map (·.2)) as ∧ sysModules ∉ as
  | [], _, _, _, h, r, p => by
    cases h
    cases r
    cases p
    exact ⟨_, ReadsAll.nil, fun z => (nomatch z)⟩
  | (_, d) :: ds, _, _, _, h, r, p => by
    cases h with
    | cons h1 h2 =>
      cases r with
      | cons r1 r2 =>
        cases p with
        | cons p1 p2 p3 =>
          obtain ⟨bs, q2, n2⟩ := DxKv.reads sy I ds _ _ _ h2 r2 p3
          obtain ⟨as, q1, n1⟩ := Dx.reads sy I d _ _ h1 r1.2
          refine ⟨_, ReadsAll.cons (as := as) ?_ q2, fun z => (List.mem_append.mp z).elim n1 n2⟩
          show Reads s.heap _ d as
          dsimp only
          rw [p2]
          exact q1
end
end
/-- data that repr can show, dicts too -/
structure Shx (d : PyData) : Prop where
  show_ : d.showable = true
  dep : d.depth ≤ 60
  len : d.shown.length ≤ sizeLine
def rReprX : List V → Hp → VK → Prop := fun xs H Q => ∃ x d, xs = [x] ∧ Dx H x d ∧ Shx d ∧ Q (.str d.shown) H
theorem call_reprX {X : Cx} (sy : ∃ o, X.base.get? sysModules = some o) (hg : X.A.guards = some []) (hu : X.A.units + 64 < cLine) : CallR X (.builtin "repr") rReprX := by
  intro pins s σ H xs us Q I r h
  obtain ⟨x, d, rfl, hd, ⟨hs, h6, hz⟩, q⟩ := h
  obtain ⟨u, rfl, ru⟩ := vals1 r
  obtain ⟨as, rd, ns⟩ := Dx.reads sy I d x u hd ru
  have fin : ∀ a, u = .ref a → wpAny (model X.prog X.w) X.A (call (.builtin "repr") [u]) (EP X pins σ Q) X.xe s := by
    rintro a rfl
    exact repr_of_reads' rd hs (fun _ => ns) hg (by omega) (fun _ _ e => e) (fun h' t tk k => ⟨.str _, H, I.kept k, ⟨t, rfl⟩, q⟩) hz
  cases hd with
  | non =>
    cases ru
    exact PySem.P.repr_of_none ⟨.str _, H, I.tok _, ⟨_, rfl⟩, q⟩
  | bl b =>
    cases ru
    cases b
    · exact PySem.P.repr_of_bool ⟨.str _, H, I.tok _, ⟨_, rfl⟩, q⟩
    · exact PySem.P.repr_of_bool ⟨.str _, H, I.tok _, ⟨_, rfl⟩, q⟩
  | int i =>
    obtain ⟨t, rfl⟩ := ru
    refine PySem.P.repr_of_int ?_ ⟨.str _, H, I.tok _, ⟨_, rfl⟩, q⟩
    exact of_decide_eq_true hs
  | str y =>
    obtain ⟨t, rfl⟩ := ru
    exact PySem.P.repr_of_str ⟨.str _, H, I.tok _, ⟨_, rfl⟩, q⟩ hz
  | lst _ _ => exact fin _ ru
  | tup _ _ => exact fin _ ru
  | dct _ _ => exact fin _ ru
/-- bounds of what is shown -/
structure Gx (n k : Nat) (d : PyData) : Prop where
  len : d.shown.length ≤ n
  dep : d.depth ≤ k
  show_ : d.showable = true
theorem Gx.shx {n k : Nat} {d : PyData} (g : Gx n k d) (hn : n ≤ 16000000 := by decide) (hk : k ≤ 60 := by decide) : Shx d := ⟨g.show_, Nat.le_trans g.dep hk, Nat.le_trans (Nat.le_trans g.len hn) (by decide)⟩
theorem Gx.mono {n k n' k' : Nat} {d : PyData} (g : Gx n k d) (hn : n ≤ n') (hk : k ≤ k') : Gx n' k' d := ⟨Nat.le_trans g.len hn, Nat.le_trans g.dep hk, g.show_⟩
theorem Good.gx {n k : Nat} {d : PyData} (g : Good n k d) : Gx n k d := ⟨g.len, g.dep, g.show_⟩
theorem gx_all {n k : Nat} : ∀ ds : List PyData, (∀ d ∈ ds, Gx n k d) → PyData.depthAll ds ≤ k ∧ PyData.showableAll ds = true
  | [], _ => by simp [PyData.depthAll, PyData.showableAll]
  | d :: r, h => by
    obtain ⟨h1, h2⟩ := gx_all r fun z m => h z (List.mem_cons_of_mem _ m)
    have g := h d List.mem_cons_self
    have g2 := g.dep
    simp only [PyData.depthAll, PyData.showableAll, g.show_, h2, Bool.and_self, and_true]
    omega
theorem gx_list {n k m : Nat} {ds : List PyData} (h : ∀ d ∈ ds, Gx n k d) (hm : (n + 2) * ds.length + 2 ≤ m) : Gx m (k + 1) (.list ds) := by
  obtain ⟨h1, h2⟩ := gx_all ds h
  have p := piled_le ds fun d z => (h d z).len
  have t := list_text (PyData.shownAll ds)
  refine ⟨?_, ?_, ?_⟩
  · simp only [PyData.shown]
    omega
  · simp only [PyData.depth]
    omega
  · simp only [PyData.showable]
    exact h2
theorem gx_tup {n k m : Nat} {ds : List PyData} (h : ∀ d ∈ ds, Gx n k d) (hm : (n + 2) * ds.length + 2 ≤ m) : Gx m (k + 1) (.tuple ds) := by
  obtain ⟨h1, h2⟩ := gx_all ds h
  have p := piled_le ds fun d z => (h d z).len
  have t := fmt_text (PyData.shownAll ds)
  refine ⟨?_, ?_, ?_⟩
  · simp only [PyData.shown]
    omega
  · simp only [PyData.depth]
    omega
  · simp only [PyData.showable]
    exact h2
/-! ### a def by its body, its code object known -/
theorem okC {P : Program} {w : World} {K : PySem.W.Frag} {mg : Str → Option Value} {base : Heap} {x qual : Str} {st : Stmt} {f c : Addr} {fd : FuncData} {N ps : List Str} {k : Nat} {sp : Sp} (F : Fun K x qual st f fd) (hc : fd.code = .ref c) (S : FnScope N ps (defScope st)) (len : ∀ vs H Q E, sp vs H Q E → vs.length = ps.length)
    (hbody : ∀ (A : Around) (outer : List Env) (s : Shared) (H : Hp) (vs : List V) (Q : VK) (E : XK), Room k (A.deeper (envOfC qual (defScope st) s.heap.objs.size f (.ref c))) → sp vs H Q E →
      ∃ t, PSs (cxOf CX0 P w K mg base N qual (defScope st) f (.ref c) A outer s H E).nox (defBody st) t ∧ t { nx := fun _ H' => Q .non H', rt := Q } (start N vs) H) : FnOk P w K mg base CX0 (k + 1) f fd ps sp := by
  obtain ⟨oc, od, kV, doc, pm, an, cdv, ct, osl, rfl, lk, hcd⟩ := F.ex
  have e : cdv = .ref c := hc
  subst e
  refine fn_of lk hcd S len ?_
  intro A outer s H vs Q E hr hsp
  obtain ⟨t, h, q⟩ := hbody A outer s H vs Q E hr hsp
  exact ⟨t, h.nox, q⟩
theorem code_of {K : PySem.W.Frag} {x : Str} {f c P : Addr} {oc : Value} {od : Option Addr} {fd : FuncData} {sl : Array (Option Value)} (a : PySem.W.nsIn K mainGlobals x = some (some (.ref f))) (l : K.lookup f = some ⟨oc, od, .func fd, sl⟩) (ht : PySem.W.tabIn K x = some (c, P)) : fd.code = .ref c := by
  unfold PySem.W.tabIn at ht
  rw [a] at ht
  dsimp only at ht
  rw [l] at ht
  dsimp only at ht
  split at ht
  · rename_i c' hc
    split at ht
    · split at ht
      · cases Option.some.inj ht
        exact hc
      · cases ht
    · cases ht
  · cases ht
theorem out_of_K {K : PySem.W.Frag} {h : Heap} {P : Addr} (X : K.In h) (nt : PySem.W.noTabs K = true) (e : h.get? P = some (PySem.W.tabObj #[])) : K.lookup P = none := by
  cases q : K.lookup P with
  | none => rfl
  | some o =>
    have e2 := X P o q
    rw [e] at e2
    cases e2
    have e3 := List.all_eq_true.mp nt _ (PySem.W.mem_of_lookupK q)
    exact absurd (show false = true from e3) Bool.false_ne_true
end Cu

namespace Cu
open PySem PySem.Spec PyProof.Rows L2
/-! ### all(test for x in text) -/
def RText (pb : Nat → Bool) : V → Hp → Nat → (Nat → Bool) → Prop := fun v _ n tr => ∃ a : Str, v = .str a ∧ n = a.cps.size ∧ tr = GxR.trF pb a.cps.toList
/-- what the generator's frame knows of the module -/
structure Around1 (X : Cx) (cenv : Env) (h : Heap) : Prop where
  gl : h.Ns cenv.globals X.mg
  bl : ∃ mb, h.Ns cenv.builtins mb ∧ ∀ x : Str, x ≠ "__name__" → mb x = bootBuiltins x
/-- the element is a test of the sign -/
def SignTest (X : Cx) (scope : Scope) (x : Str) (elt : Expr) (pb : Nat → Bool) : Prop :=
  ∀ (cenv : Env) (A' : Around) (E' : Value → Shared → Prop) (c : Nat) (t : Tok) (s2 : Shared) (m2 : Str → Option Value), cenv.scope = scope → A'.handled = none → Around1 X cenv s2.heap → s2.heap.Ns cenv.locals m2 → m2 x = some (.str ⟨#[c]⟩ t) →
    wpAny (model X.prog X.w) A' (eval elt cenv) (fun y s3 => y = .bool (pb c) ∧ Keeps s2 s3) E' s2
theorem genR_text {X : Cx} {P : Addr} {scope : Scope} {x : Str} {elt : Expr} {pb : Nat → Bool} (hel : SignTest X scope x elt pb) : GenR X P scope x elt (RText pb) := by
  rintro pins σ v H1 s1 u n tr ⟨a, rfl, rfl, rfl⟩ ⟨ps, hP, _⟩ I ru ltP
  obtain ⟨t, rfl⟩ := ru
  refine ⟨SignAt a, fun i y => ∃ c, a.cps[i]? = some c ∧ y = .bool (pb c), src_str ltP, ?_, ?_⟩
  · intro cenv A' E' i v s2 m2 e1 e2 e3 e4 hh hv hn hm keep
    obtain ⟨c, t, hc, rfl⟩ := hv
    have kb : ∀ b u, X.base.get? b = some u → s2.heap.get? b = some u := by
      intro b u e
      have q := I.bs b u e
      refine keep b u ?_ q.1
      intro z
      rw [z, hP] at q
      cases q.2
    have ar : Around1 X cenv s2.heap := by
      constructor
      · rw [e2, I.ok.glob]
        exact I.mod.glob.keeps kb
      · obtain ⟨mb, q1, q2⟩ := I.mod.blt
        rw [e3]
        exact ⟨mb, q1.keeps kb, q2⟩
    refine wpAny_mono (hel cenv A' E' c t s2 m2 e1 hh ar hn hm) ?_ (fun _ _ z => z)
    rintro y s3 ⟨rfl, k⟩
    exact ⟨⟨c, hc, rfl⟩, k⟩
  · rintro i y s2 Q E ⟨c, hc, rfl⟩ q
    have e : a.cps.toList[i]? = some c := by
      rw [Array.getElem?_toList]
      exact hc
    rw [GxR.trF_some e] at q
    exact wpAny_truthy_bool q
theorem text_all (a : Str) (pb : Nat → Bool) : (List.range a.cps.size).all (GxR.trF pb a.cps.toList) = (tl a).all pb := GxR.all_signs a pb
/-- lo <= x <= hi -/
def between (lo hi : Str) (c : Nat) : Bool := !decide ([c] < lo.cps.toList) && !decide (hi.cps.toList < [c])
theorem eval_between {X : Cx} {scope : Scope} {x lo hi : Str} {j1 j2 : Nat} {p1 p2 p3 p4 : Pos} {cenv : Env} {A' : Around} {E' : Value → Shared → Prop} {c : Nat} {t : Tok} {s2 : Shared} {m2 : Str → Option Value} {Q : Value → Shared → Prop}
    (hk : scope.kind = .function) (hl : scope.names.lookup x = some .local) (hd : (x == ("__debug__" : Str)) = false) (e1 : cenv.scope = scope) (hn : s2.heap.Ns cenv.locals m2) (hm : m2 x = some (.str ⟨#[c]⟩ t))
    (q : ∀ tk, Q (.bool (between lo hi c)) { s2 with toks := tk }) :
    wpAny (model X.prog X.w) A' (eval (.Compare (.Constant (.str lo) j1 p1) [.LtE, .LtE] [.Name x p2, .Constant (.str hi) j2 p3] p4) cenv) Q E' s2 := by
  refine Compare_chain ?_
  apply Calls.Constant_str
  apply chain_link
  refine wpAny_Name (wpAny_loadName_local (by rw [e1]; exact hk) (show cenv.scope.names.lookup x = some .local by rw [e1]; exact hl) hn hm ?_) hd
  apply PySem.P.le_str
  apply wpAny_truthy_bool
  by_cases h : [c] < lo.cps.toList
  · have e : (!decide ([c] < lo.cps.toList)) = false := by
      rw [decide_eq_true h]
      rfl
    show (if (!decide ([c] < lo.cps.toList)) = true then _ else Q (.bool (!decide ([c] < lo.cps.toList))) _)
    rw [e]
    have z := q (s2.toks + 1)
    unfold between at z
    rw [e, Bool.false_and] at z
    exact z
  · have e : (!decide ([c] < lo.cps.toList)) = true := by
      rw [decide_eq_false h]
      rfl
    show (if (!decide ([c] < lo.cps.toList)) = true then _ else Q (.bool (!decide ([c] < lo.cps.toList))) _)
    rw [e, if_pos rfl]
    apply chain_last
    apply Calls.Constant_str
    apply PySem.P.le_str
    have z := q (s2.toks + 1 + 1)
    unfold between at z
    rw [e, Bool.true_and] at z
    exact z
theorem test_between {X : Cx} {scope : Scope} {x lo hi : Str} {j1 j2 : Nat} {p1 p2 p3 p4 : Pos} (hk : scope.kind = .function) (hl : scope.names.lookup x = some .local) (hd : (x == ("__debug__" : Str)) = false := by decide) :
    SignTest X scope x (.Compare (.Constant (.str lo) j1 p1) [.LtE, .LtE] [.Name x p2, .Constant (.str hi) j2 p3] p4) (between lo hi) := by
  intro cenv A' E' c t s2 m2 e1 hh ar hn hm
  exact eval_between hk hl hd e1 hn hm fun tk => ⟨rfl, GxR.keeps_tok _ _⟩
/-- lo <= x <= hi and ord(x) != N -/
theorem test_between_ord {X : Cx} {scope : Scope} {x lo hi N : Str} {n : Int} {tn : Tok} {j1 j2 : Nat} {p1 p2 p3 p4 p5 p6 p7 p8 p9 p10 : Pos} (hk : scope.kind = .function) (hl : scope.names.lookup x = some .local) (ho : scope.names.lookup ("ord" : Str) = some .globalImplicit)
    (hN : scope.names.lookup N = some .globalImplicit) (mo : X.mg "ord" = none) (mN : X.mg N = some (.int n tn)) (hd : (x == ("__debug__" : Str)) = false := by decide) (hdN : (N == ("__debug__" : Str)) = false := by decide) :
    SignTest X scope x (.BoolOp .And [.Compare (.Constant (.str lo) j1 p1) [.LtE, .LtE] [.Name x p2, .Constant (.str hi) j2 p3] p4, .Compare (.Call (.Name "ord" p5) [.Name x p6] [] p7) [.NotEq] [.Name N p8] p9] p10) (fun c => between lo hi c && ((c : Int) != n)) := by
  intro cenv A' E' c t s2 m2 e1 hh ar hn hm
  have kf : cenv.scope.kind = .function := by rw [e1]; exact hk
  apply BoolOp_and
  apply eval_between hk hl hd e1 hn hm
  intro tk
  apply wpAny_truthy_bool
  obtain ⟨mb, hb, hbb⟩ := ar.bl
  cases hbt : between lo hi c with
  | false =>
    show (if false = true then _ else _)
    rw [if_neg Bool.false_ne_true]
    refine ⟨?_, GxR.keeps_tok _ _⟩
    show Value.bool false = Value.bool (between lo hi c && _)
    rw [hbt, Bool.false_and]
  | true =>
    show (if true = true then _ else _)
    rw [if_pos rfl]
    apply BoolOp_one
    refine wpAny_Compare1 ?_
    refine wpAny_Call_Name_kw ?_
    refine Calls.Name_function_global (s := { s2 with toks := tk }) kf (show cenv.scope.names.lookup ("ord" : Str) = some .globalImplicit by rw [e1]; exact ho) ?_
    refine Calls.loadGlobal_builtin (s := { s2 with toks := tk }) ar.gl mo hb ((hbb "ord" (by decide)).trans (show bootBuiltins "ord" = some (.builtin "ord") by decide +kernel)) ?_
    refine PyProof.Rows.callWith_builtin1 ?_ rfl rfl
    show wpAny _ _ (spliced ((false, eval (.Name x p6) cenv) :: backTo p7 (starEach [] cenv))) _ _ _
    refine Calls.spliced_cons ?_
    refine wpAny_Name (wpAny_loadName_local (s := { s2 with toks := tk }) kf (show cenv.scope.names.lookup x = some .local by rw [e1]; exact hl) hn hm ?_) hd
    refine Calls.spliced_nil ?_
    refine PySem.P.ord_of_char ?_
    refine Calls.Name_function_global (s := { s2 with toks := tk + 1 }) kf (show cenv.scope.names.lookup N = some .globalImplicit by rw [e1]; exact hN) ?_ hdN
    refine Calls.loadGlobal_global (s := { s2 with toks := tk + 1 }) ar.gl mN ?_
    refine PySem.P.ne_int ?_
    refine ⟨?_, GxR.keeps_tok _ _⟩
    show Value.bool ((c : Int) != n) = Value.bool (between lo hi c && _)
    rw [hbt, Bool.true_and]
theorem gen_scope {env : Env} {scope : Scope} {x : Str} (h1 : scope.kind = .function) (h2 : scope.isCoroutine = false) (h3 : ∀ y ∈ scope.names, y.2 ≠ .cell ∧ y.2 ≠ .free) (h4 : scope.names.lookup (".0" : Str) = some NameKind.local) (h5 : scope.names.lookup x = some .local) : GxR.GenS env scope x :=
  ⟨h1, h2, fun y m => (h3 y m).1, h4, h5, fun y m e => absurd e (h3 y m).2⟩
/-- a comprehension over a text -/
theorem lc_str {a : Str} {g : TG} {tt : TT} {te : TE} {vs : List Nat} {σ : L2.St} {H1 : Hp} {D : Addr} {Qd : Hp → Prop} (Pv : Nat → Hp → Prop) (h0 : Pv 0 (upd H1 D (.lst [])))
    (hs : ∀ i c H, (tl a)[i]? = some c → Pv i H → g (.str ⟨#[c]⟩) (wipe σ vs) H fun σ2 H2 => wipe σ2 vs = wipe σ vs ∧ tt σ2 H2 fun b H3 =>
      if b = true then te σ2 H3 fun y H4 => ∃ acc, H4 D = some (.lst acc) ∧ acc.length < sizeLine ∧ Pv (i + 1) (upd H4 D (.lst (acc ++ [y]))) else Pv (i + 1) H3) (hd : ∀ H, Pv a.cps.size H → Qd H) :
    ∃ W : Nat → Nat → Hp → Prop, (∃ m, W 0 m (upd H1 D (.lst []))) ∧ ∀ i m H, W i m H →
      ((Its a).stop i H ∧ Qd H) ∨ ((Its a).go i H ∧ ∃ Nx : Hp → Prop, (∀ H', Nx H' → ∃ m', m' < m ∧ W (i + 1) m' H') ∧ ∀ x H', (Its a).yld i H x H' → g x (wipe σ vs) H' fun σ2 H2 => wipe σ2 vs = wipe σ vs ∧ tt σ2 H2 fun b H3 =>
        if b = true then te σ2 H3 fun y H4 => ∃ acc, H4 D = some (.lst acc) ∧ acc.length < sizeLine ∧ Nx (upd H4 D (.lst (acc ++ [y]))) else Nx H3) := by
  refine ⟨fun i m H => m = a.cps.size - i ∧ i ≤ a.cps.size ∧ Pv i H, ⟨a.cps.size, by simp, Nat.zero_le _, h0⟩, ?_⟩
  rintro i m H ⟨rfl, le, p⟩
  rcases Nat.lt_or_ge i a.cps.size with lt | ge
  · refine .inr ⟨lt, Pv (i + 1), ?_, ?_⟩
    · intro H' p'
      exact ⟨a.cps.size - (i + 1), by omega, rfl, lt, p'⟩
    · rintro x H' ⟨rfl, c, hc, rfl⟩
      exact hs i c _ (by rw [Array.getElem?_toList]; exact hc) p
  · obtain rfl : i = a.cps.size := by omega
    exact .inl ⟨Nat.le_refl _, hd H p⟩
theorem one_lt (c d : Nat) : decide ([c] < [d]) = decide (c < d) := by
  rw [decide_eq_decide, List.cons_lt_cons_iff]
  constructor
  · rintro (h | ⟨_, h⟩)
    · exact h
    · exact absurd h (List.not_lt_nil _)
  · exact Or.inl
theorem all_take (pb : Nat → Bool) (l : List Nat) : ((l.map pb).all id) = l.all pb := by
  rw [List.all_map]
  rfl
theorem tri0 : TriplesOk (#[] : Array Value).toList := True.intro
theorem tabIn_of {K : PySem.W.Frag} {x : Str} {f c P : Addr} {oc ox : Value} {od oy : Option Addr} {fd : FuncData} {sl sz : Array (Option Value)} {vs : Array Value} (a : PySem.W.nsIn K mainGlobals x = some (some (.ref f))) (l : K.lookup f = some ⟨oc, od, .func fd, sl⟩) (hc : fd.code = .ref c)
    (lc : K.lookup c = some ⟨ox, oy, .fields vs, sz⟩) (pv : vs[11]? = some (.ref P)) : PySem.W.tabIn K x = some (c, P) := by
  unfold PySem.W.tabIn
  rw [a]
  dsimp only
  rw [l]
  dsimp only
  rw [hc]
  dsimp only
  rw [lc]
  dsimp only
  rw [pv]
/-- two tables -/
theorem tabsAt_of {h : Heap} {c1 p1 c2 p2 : Addr} (a : PySem.W.CodeHd h c1 p1 ∧ h.get? p1 = some (PySem.W.tabObj #[])) (b : PySem.W.CodeHd h c2 p2 ∧ h.get? p2 = some (PySem.W.tabObj #[])) : ∀ p ∈ [(c1, p1), (c2, p2)], h.get? p.2 = some { cls := .none, data := .fields #[] } := by
  intro p m
  rcases List.mem_cons.mp m with rfl | m
  · exact a.2
  · rw [List.mem_singleton.mp m]
    exact b.2
theorem tabsK_of {K : PySem.W.Frag} {c1 p1 c2 p2 : Addr} (a : K.lookup p1 = none) (b : K.lookup p2 = none) : ∀ p ∈ [(c1, p1), (c2, p2)], K.lookup p.2 = none := by
  intro p m
  rcases List.mem_cons.mp m with rfl | m
  · exact a
  · rw [List.mem_singleton.mp m]
    exact b
theorem tabsC_of {h : Heap} {c1 p1 c2 p2 : Addr} (a : PySem.W.CodeHd h c1 p1 ∧ h.get? p1 = some (PySem.W.tabObj #[])) (b : PySem.W.CodeHd h c2 p2 ∧ h.get? p2 = some (PySem.W.tabObj #[])) : ∀ p ∈ [(c1, p1), (c2, p2)], PySem.W.CodeHd h p.1 p.2 := by
  intro p m
  rcases List.mem_cons.mp m with rfl | m
  · exact a.1
  · rw [List.mem_singleton.mp m]
    exact b.1
end Cu

namespace Cu
open PySem PySem.Spec PyProof.Rows L2
/-! ### t[::-1] of a tuple -/
section
variable {prog : Program} {w : World} {A : Around} {E : Value → Shared → Prop} {s : Shared}
theorem places_back (n : Nat) : Builtin.Slice.slicePlaces ((n : Int) - 1) (-1) (-1) = n := by
  unfold Builtin.Slice.slicePlaces
  have h1 : ¬ ((-1 : Int) > 0) := by decide
  rw [if_neg h1]
  split
  · rw [show (- -1 : Int) = 1 by decide, Int.ediv_one]
    omega
  · omega
theorem fm_congr {α β : Type} {f g : α → Option β} : ∀ (l : List α), (∀ k ∈ l, f k = g k) → l.filterMap f = l.filterMap g
  | [], _ => rfl
  | a :: r, h => by
    rw [List.filterMap_cons, List.filterMap_cons, h a List.mem_cons_self, fm_congr r fun k m => h k (List.mem_cons_of_mem _ m)]
theorem pick_back (xs : Array Value) : ((List.range xs.size).filterMap fun (k : Nat) => xs[((xs.size : Int) - 1 + (k : Int) * -1).toNat]?).toArray = xs.toList.reverse.toArray := by
  have e : (List.range xs.size).filterMap (fun (k : Nat) => xs[((xs.size : Int) - 1 + (k : Int) * -1).toNat]?) = ((List.range xs.size).map (fun k => xs.size - 1 - k)).filterMap (fun k => xs[k]?) := by
    rw [List.filterMap_map]
    apply fm_congr
    intro k m
    have := List.mem_range.mp m
    show xs[((xs.size : Int) - 1 + (k : Int) * -1).toNat]? = xs[xs.size - 1 - k]?
    rw [show ((xs.size : Int) - 1 + (k : Int) * -1).toNat = xs.size - 1 - k by omega]
  rw [e, PySem.W.krv_range, List.filterMap_reverse, PySem.W.krv_all]
theorem applied_back {sl : Addr} {vs : Value} {n : Nat} {Q : Int × Int × Nat → Shared → Prop} (hs : s.heap.IsSliceOf sl .none .none vs) (ps : IsPart vs (some (-1))) (h : Q ((n : Int) - 1, -1, n) s) :
    wpAny (model prog w) A (Builtin.Slice.sliceApplied (.ref sl) (pure (n : Int))) Q E s := by
  obtain ⟨os, hos, hcs, hds⟩ := id hs
  unfold Builtin.Slice.sliceApplied Builtin.Slice.sliceFields
  refine wpAny_bind (wpAny_bind (wpAny_field hos hds (x := .none) rfl (wpAny_bind (wpAny_field hos hds (x := .none) rfl (wpAny_bind (wpAny_field hos hds (x := vs) rfl (wpAny_pure ?_)))))))
  refine wpAny_bind (HT.slicePart_ ps ?_)
  show wpAny _ _ (if ((-1 : Int) == 0) = true then _ else _) _ _ s
  rw [if_neg (by decide)]
  refine wpAny_bind (HT.slicePart_ .none (wpAny_bind (HT.slicePart_ .none (wpAny_bind (wpAny_pure ?_)))))
  show wpAny _ _ (pure ((n : Int) - 1, (-1 : Int), Builtin.Slice.slicePlaces ((n : Int) - 1) (-1) (-1))) _ _ s
  rw [places_back]
  exact wpAny_pure h
theorem get_back {t sl : Addr} {items : Array Value} {vs : Value} {Q : Value → Shared → Prop} (ht : IsTup s.heap t items) (hs : s.heap.IsSliceOf sl .none .none vs) (ps : IsPart vs (some (-1)))
    (h : Q (.ref s.heap.objs.size) { s with heap := s.heap.push { cls := .type "tuple", data := .seq items.toList.reverse.toArray } }) (hsz : items.size ≤ sizeLine) : wpAny (model prog w) A (getItem (.ref t) (.ref sl)) Q E s := by
  have fits : sizeOk (.seq items.toList.reverse.toArray) := by
    show items.toList.reverse.toArray.size ≤ sizeLine
    rw [List.size_toArray, List.length_reverse, Array.length_toList]
    exact hsz
  obtain ⟨os, hos, hcs, hds⟩ := id hs
  have isSl : s.TypeIs (.ref sl) "slice" := ⟨os, hos, hcs⟩
  unfold getItem
  try with_reducible refine wpAny_holding ?_
  first | refine wpAny_bind (wpAny_pure ?_) | skip
  refine wpAny_bind (wpAny_sequenceKey ht.typeIs (by decide) ?_)
  refine wpAny_bind (wpAny_callSpecial?_slot (name := Str.ofString "__getitem__") ht.typeIs PyProof.Rows.slot_tuple_getitem
    (wpAny_call_entry PyProof.Rows.slot_tuple_getitem ht.typeIs entry_tuple_getitem ?_ (args_tuple_getitem _ _)))
  show wpAny _ _ (Builtin.Tuple.tupleItemsOf (.ref t) >>= _) _ _ s
  refine wpAny_bind (tupleItemsOf_ ht ?_)
  refine wpAny_bind (wpAny_typeOf isSl ?_)
  rw [if_pos (by decide)]
  refine wpAny_bind (applied_back hs ps ?_)
  have no : ¬ ((((items.size : Int) - 1) == 0 && (-1 : Int) == 1 && items.size == items.size) = true) := by
    intro q
    rw [Bool.and_eq_true, Bool.and_eq_true] at q
    exact absurd (eq_of_beq q.1.2) (by decide)
  show wpAny _ _ (if (((items.size : Int) - 1) == 0 && (-1 : Int) == 1 && items.size == items.size) = true then _ else _) _ _ s
  rw [if_neg no, pick_back]
  first
    | exact wpAny_bind (m := Builtin.Tuple.tupleExact _) (wpAny_newObj_type (wpAny_pure ⟨_, rfl, wpAny_pure h⟩) fits)
    | exact wpAny_bind (m := Builtin.Tuple.tupleExact _) (wpAny_newObj_type (wpAny_bind (wpAny_pure (wpAny_pure ⟨_, rfl, wpAny_pure h⟩))) fits)
    | exact wpAny_bind (wpAny_bind (m := Builtin.Tuple.tupleExact _) (wpAny_newObj_type (wpAny_pure (wpAny_pure ⟨_, rfl, wpAny_pure h⟩)) fits))
    | exact wpAny_bind (wpAny_bind (m := Builtin.Tuple.tupleExact _) (wpAny_newObj_type (wpAny_pure ⟨_, rfl, wpAny_pure h⟩) fits))
end
section
variable {X : Cx}
def tRevT (K : PySem.W.Frag) (te : TE) : TE := fun σ H Q => te σ H fun x H1 => ∃ a xs, x = .ref a ∧ SqT K H1 a xs ∧ ∀ p, H1 p = none → Q (.ref p) (upd H1 p (.tup xs.reverse))
theorem pe_revT {e : Expr} {te : TE} {k : Nat} {p1 p2 p3 pos : Pos} (he : PE X e te) : PE X (.Subscript e (.Slice none none (some (.UnaryOp .USub (.Constant (.int 1) k p1) p2)) p3) pos) (tRevT X.K te) := by
  constructor
  intro pins s σ H Q I h
  refine Subscript_ (thn (he.run pins s σ H _ I h) ?_)
  rintro v s1 ⟨x, H1, I1, r1, a, xs, rfl, hx, q⟩
  cases r1
  have step : PO X (some (.UnaryOp .USub (.Constant (.int 1) k p1) p2)) (tPart (tUn (rU fun i => .int (-i)) (tC (.int 1)))) := po_some (pe_un un_neg pe_int)
  refine wpAny_Slice (thn (po_none.run pins s1 σ H1 (fun o H2 => o = none ∧ H2 = H1) I1 ⟨rfl, rfl⟩) ?_)
  rintro vl s2 ⟨l, H2, I2, pl, el, e2⟩
  rw [e2] at I2
  rw [el] at pl
  refine thn (po_none.run pins s2 σ _ (fun o H3 => o = none ∧ H3 = H1) I2 ⟨rfl, rfl⟩) ?_
  rintro vu s3 ⟨u, H3, I3, pu, eu, e3⟩
  rw [e3] at I3
  rw [eu] at pu
  refine thn (step.run pins s3 σ _ (fun o H4 => o = some (-1) ∧ H4 = H1) I3 ⟨1, rfl, -1, rfl, rfl, rfl⟩) ?_
  rintro vs s4 ⟨o, H4, I4, ps, eo, e4⟩
  rw [e4] at I4
  rw [eo] at ps
  cases pl
  cases pu
  have I5 : Inv X pins σ H1 { s4 with heap := s4.heap.push { cls := .type "slice", data := .fields #[.none, .none, vs] } } := I4.kept (t' := s4.toks) fun b ob q => Heap.get?_push_of_some _ q
  obtain ⟨its, r, ht, hz⟩ := I5.tuple hx
  have len := r.length
  show wpAny (model X.prog X.w) X.A (subscriptTail e (.Slice none none (some (.UnaryOp .USub (.Constant (.int 1) k p1) p2)) p3) (.ref a) (.ref s4.heap.objs.size)) (EP X pins σ Q) X.xe { s4 with heap := s4.heap.push { cls := .type "slice", data := .fields #[.none, .none, vs] } }
  refine tail_any (ops := [.ref a, .ref s4.heap.objs.size]) ht.typeIs (PyProof.Rows.slot_tuple_getitem.lookup) ?_ (by with_unfolding_all rfl)
  refine get_back ht (Heap.IsSliceOf.new _ _ _ vs) ps ?_ (by rw [List.size_toArray]; omega)
  refine ⟨.ref _, _, I5.laid (t' := s4.toks) (o := .tup xs.reverse) (fun b ob q => Heap.get?_push_of_some _ q) (Nat.le_refl _) ?_, rfl, q _ (I5.hok.fresh (Nat.le_refl _))⟩
  refine ⟨?_, _, r.reverse, IsTup.new _ _⟩
  rw [List.length_reverse]
  exact hz
end
end Cu

namespace Cu
open PySem PySem.Spec PyProof.Rows L2
/-! ### the text -/
def topS (i : Nat) : Stmt := PySem.Challenge.pw_crossundo_k06_heaps_of_anything.main.body.getD i (.Pass ⟨0, 0, 0, 0⟩)
/-- a def that stands, is named, and binds its arguments -/
structure Df (K : PySem.W.Frag) (mg : Str → Option Value) (nm : Str) (st : Stmt) (ps : List Str) (f : Addr) (fd : FuncData) : Prop where
  F : Fun K nm nm st f fd
  g : mg nm = some (.ref f)
  b : Binds K fd ps []
/-- the builtins' names are free -/
structure Bl (mg : Str → Option Value) : Prop where
  len : mg "len" = none
  abs : mg "abs" = none
  int : mg "int" = none
  range : mg "range" = none
  repr : mg "repr" = none
  max : mg "max" = none
  min : mg "min" = none
  all : mg "all" = none
  ord : mg "ord" = none
  isinstance : mg "isinstance" = none
  str : mg "str" = none
  bool : mg "bool" = none
  tuple : mg "tuple" = none
  list : mg "list" = none
  sorted : mg "sorted" = none
  set : mg "set" = none
  dict : mg "dict" = none
abbrev sHand : Stmt := topS 12
abbrev sTake : Stmt := topS 13
abbrev sOf : Stmt := topS 14
theorem scH : FnScope ["_law_script", "_law_k", "_law_cell", "_law_great"] ["_law_script", "_law_k"] (defScope sHand) := ⟨rfl, rfl, rfl, by decide +kernel, rfl, by decide +kernel, by decide +kernel⟩
theorem scT : FnScope ["_law_hand_here", "_law_many", "_law_digit", "_law_prime", "_law_drawn"] ["_law_hand_here", "_law_many"] (defScope sTake) := ⟨rfl, rfl, rfl, by decide +kernel, rfl, by decide +kernel, by decide +kernel⟩
theorem scO : FnScope ["_law_hand_here", "_law_some"] ["_law_hand_here", "_law_some"] (defScope sOf) := ⟨rfl, rfl, rfl, by decide +kernel, rfl, by decide +kernel, by decide +kernel⟩
section
variable {P : Program} {w : World} {K : PySem.W.Frag} {mg : Str → Option Value} {base : Heap}
/-! ### _law_hand -/
def spHand (K : PySem.W.Frag) : Sp := fun vs H Q _ => ∃ (a : Addr) (k : Int) (ns : List Int), vs = [.ref a, .int k] ∧ SqL K H a (ns.map V.int) ∧ 0 ≤ k ∧ k < 1000 ∧ ∀ H' p, Same H H' → H p = none → Hand H' p 0 → Q (.ref p) H'
theorem big_pos : (0 : Int) < 10 ^ (60 : Int).toNat * 10 ^ (60 : Int).toNat * 10 ^ (60 : Int).toNat := by decide +kernel
theorem big_lt : (10 : Int) ^ (60 : Int).toNat * 10 ^ (60 : Int).toNat * 10 ^ (60 : Int).toNat < 2 ^ 600 := by decide +kernel
theorem ok_hand {f : Addr} {fd : FuncData} {k : Nat} (F : Fun K "_law_hand" "_law_hand" sHand f fd) (T : Bl mg) : FnOk P w K mg base CX0 (k + 1) f fd ["_law_script", "_law_k"] (spHand K) := by
  refine F.ok scH (fun vs H Q E h => ?_) (fun cdv A outer s H vs Q E hr h => ?_)
  · obtain ⟨a, k, ns, rfl, _⟩ := h
    rfl
  · obtain ⟨a, k, ns, rfl, hS, hk0, hk1, q⟩ := h
    refine ⟨_, (pss_cons (ps_set (i := 2) scH.nd rfl (.inl rfl) (pe_ifExp (pt_cmpR op_lt (pv 1) (pe_callB call_len_seq (by rfl) T.len PySem.boot_len (pa_cons (pv 0) pa_nil)) (nomark _)) (pe_ix ix_list (pv 0) (pv 1) (fun _ _ => rfl)) pe_int))
  (pss_cons (ps_set (i := 3) scH.nd rfl (.inl rfl) (pe_op op_mul (pe_op op_mod (pe_callB call_abs (by rfl) T.abs (by decide +kernel) (pa_cons (pv 2) pa_nil)) (pe_op op_mulW (pe_op op_mulW (pe_op op_pow pe_int pe_int) (pe_op op_pow pe_int pe_int)) (pe_op op_pow pe_int pe_int))) (pe_callTy call_int1 (by rfl) T.int (by decide +kernel) (pa_cons (pe_cmpR op_ge (pe_callB call_abs (by rfl) T.abs (by decide +kernel) (pa_cons (pv 2) pa_nil)) (pe_op op_pow pe_int pe_int) (nomark _)) pa_nil))))
  (pss_one (ps_ret (pe_lst (pa_cons (pv 3) (pa_cons (pe_op op_mod (pe_op op_mul (pe_op op_add (pe_op op_add (pe_op op_mod (pv 2) pe_int) (pe_op op_mul pe_int (pv 1))) pe_int) pe_int) pe_int) (pa_cons pe_int pa_nil)))))))), ?_⟩
    refine ⟨.int k, rfl, .ref a, rfl, a, _, rfl, .inl hS, _, _, rfl, rfl, _, rfl, ?_⟩
    refine ifx (fun v => ∃ c : Int, v = .int c) (fun hb all => ?_) ⟨0, rfl⟩ ?_
    · have hb' : k < ((ns.map V.int).length : Int) := of_decide_eq_true hb
      obtain ⟨v, e1, e2⟩ := at_of hk0 hb'
      refine ⟨.ref a, rfl, .int k, rfl, a, _, k, v, rfl, rfl, hS, e2, all v ?_⟩
      rw [List.getElem?_map] at e1
      obtain ⟨z, _, rfl⟩ := Option.map_eq_some_iff.mp e1
      exact ⟨z, rfl⟩
    · rintro v ⟨c, rfl⟩
      refine ⟨.int c, rfl, c, rfl, 10, 60, rfl, rfl, ⟨by decide, by decide, by decide⟩, 10, 60, rfl, rfl, ⟨by decide, by decide, by decide⟩, _, _, rfl, rfl, wide_mul (a := 200) (b := 200) (by decide +kernel) (by decide +kernel) (by decide) (by decide) (by decide),
        10, 60, rfl, rfl, ⟨by decide, by decide, by decide⟩, _, _, rfl, rfl, wide_mul (a := 400) (b := 200) (by decide +kernel) (by decide +kernel) (by decide) (by decide) (by decide), _, _, rfl, rfl, big_pos, ?_⟩
      refine ⟨.int c, rfl, c, rfl, 10, 18, rfl, rfl, ⟨by decide, by decide, by decide⟩, _, _, rfl, rfl, .inr ⟨_, rfl, _, _, rfl, rfl, .inr ?_, ?_⟩⟩
      · exact b01 _
      · have m0 : ∀ z : Int, 0 ≤ z % (10 ^ (60 : Int).toNat * 10 ^ (60 : Int).toNat * 10 ^ (60 : Int).toNat) := fun z => Int.emod_nonneg z (Int.ne_of_gt big_pos)
        have m1 : ∀ z : Int, z % (10 ^ (60 : Int).toNat * 10 ^ (60 : Int).toNat * 10 ^ (60 : Int).toNat) < 2 ^ 600 := fun z => Int.lt_trans (Int.emod_lt_of_pos z big_pos) big_lt
        have n0 : 0 ≤ c % 2147483629 := Int.emod_nonneg c (by decide)
        have n1 : c % 2147483629 < 2147483629 := Int.emod_lt_of_pos c (by decide)
        refine ⟨_, rfl, .int c, rfl, c, 2147483629, rfl, rfl, (show (0 : Int) < 2147483629 by decide), .int k, rfl, 7919, k, rfl, rfl, .inl ⟨by decide, by decide⟩, _, _, rfl, rfl, _, 13, rfl, rfl, _, 48271, rfl, rfl, .inr ⟨by decide, by decide⟩, _, 2147483647, rfl, rfl,
          (show (0 : Int) < 2147483647 by decide), ?_, fun p np => q _ p (same_upd np) np ⟨_, _, 0, upd_same, (b01_mul _ (m0 _) (m1 _)).1, (b01_mul _ (m0 _) (m1 _)).2, Int.emod_nonneg _ (by decide), Int.emod_lt_of_pos _ (by decide), by decide, by decide⟩⟩
        show 3 ≤ sizeLine
        decide
/-! ### _law_take -/
def spTake : Sp := fun vs H Q _ => ∃ (a : Addr) (m : Int) (n : Nat), vs = [.ref a, .int m] ∧ Hand H a n ∧ n < 2 ^ 40 ∧ 0 < m ∧ m < 1073741824 ∧ ∀ H' d, Upto a H H' → Hand H' a (n + 1) → 0 ≤ d → d < m → Q (.int d) H'
theorem prime_of {r : Int} (h0 : 0 ≤ r) (h1 : r < 5) : ∃ p : Int, atI [V.int 2147483647, .int 2147483629, .int 2147483587, .int 2147483579, .int 2147483563] r = some (.int p) ∧ 0 < p := by
  obtain rfl | rfl | rfl | rfl | rfl : r = 0 ∨ r = 1 ∨ r = 2 ∨ r = 3 ∨ r = 4 := by omega
  · exact ⟨_, rfl, by decide⟩
  · exact ⟨_, rfl, by decide⟩
  · exact ⟨_, rfl, by decide⟩
  · exact ⟨_, rfl, by decide⟩
  · exact ⟨_, rfl, by decide⟩
theorem ok_take {f : Addr} {fd : FuncData} {k : Nat} (F : Fun K "_law_take" "_law_take" sTake f fd) (T : Bl mg) : FnOk P w K mg base CX0 (k + 1) f fd ["_law_hand_here", "_law_many"] spTake := by
  refine F.ok scT (fun vs H Q E h => ?_) (fun cdv A outer s H vs Q E hr h => ?_)
  · obtain ⟨a, m, n, rfl, _⟩ := h
    rfl
  · obtain ⟨a, m, n, rfl, ⟨g, x, c, e, g0, g1, x0, x1, c0, c1⟩, hn, m0, m1, q⟩ := h
    refine ⟨_, (pss_cons (ps_if (pt_cmpR op_gt (pe_ix ix_list (pv 0) pe_int (fun _ _ => rfl)) pe_int (nomark _))
  (pss_cons (ps_set (i := 2) scT.nd rfl (.inl rfl) (pe_op op_mod (pe_ix ix_list (pv 0) pe_int (fun _ _ => rfl)) (pv 1)))
  (pss_cons (ps_asg (pe_op op_fdiv (pe_ix ix_list (pv 0) pe_int (fun _ _ => rfl)) (pv 1)) (pg_sub (pv 0) pe_int set_list))
  (pss_one (ps_ret (pv 2)))))
  pss_nil)
  (pss_cons (ps_asg (pe_op op_add (pe_ix ix_list (pv 0) pe_int (fun _ _ => rfl)) pe_int) (pg_sub (pv 0) pe_int set_list))
  (pss_cons (ps_set (i := 3) scT.nd rfl (.inl rfl) (pe_ix ix_list (pe_lst (pa_cons pe_int (pa_cons pe_int (pa_cons pe_int (pa_cons pe_int (pa_cons pe_int pa_nil)))))) (pe_op op_mod (pe_ix ix_list (pv 0) pe_int (fun _ _ => rfl)) pe_int) (fun _ _ => rfl)))
  (pss_cons (ps_set (i := 4) scT.nd rfl (.inl rfl) (pe_op op_mod (pe_op op_pow (pe_op op_add (pe_ix ix_list (pv 0) pe_int (fun _ _ => rfl)) (pe_op op_mul pe_int (pe_ix ix_list (pv 0) pe_int (fun _ _ => rfl)))) pe_int) (pv 3)))
  (pss_one (ps_ret (pe_op op_mod (pe_op op_fdiv (pe_op op_mod (pe_op op_mul (pv 4) (pe_op op_add (pe_op op_mod (pv 4) pe_int) (pe_ix ix_list (pv 0) pe_int (fun _ _ => rfl)))) (pv 3)) pe_int) (pv 1)))))))), ?_⟩
    refine ⟨.ref a, rfl, a, _, 0, .int g, rfl, rfl, SqL.of e, rfl, g, 0, rfl, rfl, _, rfl, ite2 (fun hb => ?_) (fun hb => ?_)⟩
    · refine ⟨.ref a, rfl, a, _, 0, .int g, rfl, rfl, SqL.of e, rfl, .int m, rfl, g, m, rfl, rfl, m0, ?_⟩
      refine ⟨.ref a, rfl, a, _, 0, .int g, rfl, rfl, SqL.of e, rfl, .int m, rfl, g, m, rfl, rfl, ⟨m0, m1⟩, .ref a, rfl, a, _, 0, 0, rfl, rfl, e, rfl, ?_⟩
      refine ⟨_, rfl, q _ _ Upto.upd ⟨_, x, c, upd_same, Int.ediv_nonneg g0 (by omega), ?_, x0, x1, c0, by omega⟩ (Int.emod_nonneg _ (by omega)) (Int.emod_lt_of_pos _ m0)⟩
      exact Int.lt_of_le_of_lt (Int.ediv_le_self _ g0) g1
    · refine ⟨.ref a, rfl, a, _, 2, .int c, rfl, rfl, SqL.of e, rfl, c, 1, rfl, rfl, .ref a, rfl, a, _, 2, 2, rfl, rfl, e, rfl, ?_⟩
      have e1 : (upd H a (.lst [.int g, .int x, .int (c + 1)])) a = some (.lst [.int g, .int x, .int (c + 1)]) := upd_same
      refine ⟨by show 5 ≤ sizeLine; decide, fun l nl => ?_⟩
      have nla : a ≠ l := ne_of_none e1 nl
      have e2 : ∀ o, (upd (upd H a (.lst [.int g, .int x, .int (c + 1)])) l o) a = some (.lst [.int g, .int x, .int (c + 1)]) := fun o => by rw [upd_ne nla]; exact e1
      obtain ⟨p, hp, p0⟩ := prime_of (r := (c + 1) % 5) (Int.emod_nonneg _ (by decide)) (Int.emod_lt_of_pos _ (by decide))
      refine ⟨.ref a, rfl, a, _, 2, .int (c + 1), rfl, rfl, SqL.of (e2 _), rfl, c + 1, 5, rfl, rfl, (show (0 : Int) < 5 by decide), l, _, _, _, rfl, rfl, SqL.of upd_same, hp, ?_⟩
      refine ⟨.ref a, rfl, a, _, 1, .int x, rfl, rfl, SqL.of (e2 _), rfl, .ref a, rfl, a, _, 2, .int (c + 1), rfl, rfl, SqL.of (e2 _), rfl, 7919, c + 1, rfl, rfl, .inl ⟨by decide, by decide⟩, x, _, rfl, rfl, _, 3, rfl, rfl, ⟨by decide, by decide, by omega⟩, .int p, rfl, _, p, rfl, rfl, p0, ?_⟩
      refine ⟨_, rfl, _, rfl, _, 1009, rfl, rfl, (show (0 : Int) < 1009 by decide), .ref a, rfl, a, _, 2, .int (c + 1), rfl, rfl, SqL.of (e2 _), rfl, _, _, rfl, rfl, _, _, rfl, rfl, .inr ?_, .int p, rfl, _, p, rfl, rfl, p0, _, 11, rfl, rfl, ⟨by decide, by decide⟩, .int m, rfl, _, m, rfl, rfl, m0, ?_⟩
      · have := Int.emod_nonneg ((x + 7919 * (c + 1)) ^ (3 : Int).toNat % p) (show (1009 : Int) ≠ 0 by decide)
        have := Int.emod_lt_of_pos ((x + 7919 * (c + 1)) ^ (3 : Int).toNat % p) (show (0 : Int) < 1009 by decide)
        constructor <;> omega
      · refine q _ _ ((Upto.upd).trans (.new nl)) ⟨g, x, c + 1, e2 _, g0, g1, x0, x1, by omega, by omega⟩ (Int.emod_nonneg _ (by omega)) (Int.emod_lt_of_pos _ m0)
/-! ### _law_of, of a text -/
def spOfS : Sp := fun vs H Q _ => ∃ (a : Addr) (z : Str) (n : Nat), vs = [.ref a, .str z] ∧ Hand H a n ∧ n < 2 ^ 40 ∧ 0 < z.length ∧ z.length ≤ 1000 ∧ ∀ H' c, Upto a H H' → Hand H' a (n + 1) → c ∈ z.cps.toList → Q (.str ⟨#[c]⟩) H'
theorem ok_ofS {f fT : Addr} {fd fdT : FuncData} {k : Nat} (F : Fun K "_law_of" "_law_of" sOf f fd) (DT : Df K mg "_law_take" sTake ["_law_hand_here", "_law_many"] fT fdT) (T : Bl mg) : FnOk P w K mg base CX0 (k + 2) f fd ["_law_hand_here", "_law_some"] spOfS := by
  have GT : FnOk P w K mg base CX0 1 fT fdT _ spTake := ok_take DT.F T
  refine F.ok scO (fun vs H Q E h => ?_) (fun cdv A outer s H vs Q E hr h => ?_)
  · obtain ⟨a, m, n, rfl, _⟩ := h
    rfl
  · obtain ⟨a, z, n, rfl, hH, hn, z0, z1, q⟩ := h
    refine ⟨_, (pss_one (ps_ret (pe_ix ix_str (pv 1) (pe_call GT (hr.mono (by omega)) (by rfl) DT.g DT.F.kp DT.b .nil pass0 (pa_cons (pv 0) (pa_cons (pe_callB call_len_str (by rfl) T.len PySem.boot_len (pa_cons (pv 1) pa_nil)) pa_nil))) (fun _ _ => rfl)))), ?_⟩
    have zl : z.length ≤ sizeLine := Nat.le_trans z1 (by decide)
    refine ⟨.str z, rfl, .ref a, rfl, .str z, rfl, z, rfl, zl, a, _, n, rfl, hH, hn, by omega, by omega, fun H' d u h' d0 d1 => ?_⟩
    obtain ⟨c, e1, e2⟩ := at_of (xs := z.cps.toList) d0 (by rw [Array.length_toList]; exact d1)
    exact ⟨z, d, c, rfl, rfl, zl, e2, q H' c u h' (List.mem_of_getElem? e1)⟩
/-! ### _law_of, of a list -/
def spOfL : Sp := fun vs H Q _ => ∃ (a l : Addr) (xs : List V) (n : Nat), vs = [.ref a, .ref l] ∧ Hand H a n ∧ n < 2 ^ 40 ∧ l ≠ a ∧ H l = some (.lst xs) ∧ 0 < xs.length ∧ xs.length ≤ 1000 ∧ ∀ H' v, Upto a H H' → Hand H' a (n + 1) → v ∈ xs → Q v H'
theorem ok_ofL {f fT : Addr} {fd fdT : FuncData} {k : Nat} (F : Fun K "_law_of" "_law_of" sOf f fd) (DT : Df K mg "_law_take" sTake ["_law_hand_here", "_law_many"] fT fdT) (T : Bl mg) : FnOk P w K mg base CX0 (k + 2) f fd ["_law_hand_here", "_law_some"] spOfL := by
  have GT : FnOk P w K mg base CX0 1 fT fdT _ spTake := ok_take DT.F T
  refine F.ok scO (fun vs H Q E h => ?_) (fun cdv A outer s H vs Q E hr h => ?_)
  · obtain ⟨a, l, xs, n, rfl, _⟩ := h
    rfl
  · obtain ⟨a, l, xs, n, rfl, hH, hn, la, el, x0, x1, q⟩ := h
    refine ⟨_, (pss_one (ps_ret (pe_ix ix_list (pv 1) (pe_call GT (hr.mono (by omega)) (by rfl) DT.g DT.F.kp DT.b .nil pass0 (pa_cons (pv 0) (pa_cons (pe_callB call_len_seq (by rfl) T.len PySem.boot_len (pa_cons (pv 1) pa_nil)) pa_nil))) (fun _ _ => rfl)))), ?_⟩
    refine ⟨.ref l, rfl, .ref a, rfl, .ref l, rfl, l, xs, rfl, .inl (SqL.of el), a, _, n, rfl, hH, hn, by omega, by omega, fun H' d u h' d0 d1 => ?_⟩
    obtain ⟨v, e1, e2⟩ := at_of (xs := xs) d0 d1
    exact ⟨l, xs, d, v, rfl, rfl, SqL.of (u l _ la el), e2, q H' v u h' (List.mem_of_getElem? e1)⟩
end
end Cu

namespace Cu
open PySem PySem.Spec PyProof.Rows L2
/-! ### a generator expression whose element may do anything that St bears -/
abbrev gLoop (elt iter : Expr) (x : Str) (px : Pos) (scope : Scope) (pos : Pos) (I : Addr) (cenv : Env) : Code := .compLoop (.GeneratorExp elt [⟨.Name x px, iter, [], 0⟩] scope pos) 0 (.ref I) .none cenv
abbrev gStart (elt iter : Expr) (x : Str) (px : Pos) (scope : Scope) (pos : Pos) (I : Addr) (cenv : Env) : Code := .compStart (.GeneratorExp elt [⟨.Name x px, iter, [], 0⟩] scope pos) 0 (.ref I) .none cenv
/-- what its turns do; A: around its frame -/
structure Turns (prog : Program) (w : World) (A : Around) (elt : Expr) (x : Str) (px : Pos) (I : Addr) (cenv : Env) (n : Nat) (tr : Nat → Bool) (St : Nat → Shared → Prop) (Fi : Shared → Prop) : Prop where
  item : ∀ (i : Nat) (s : Shared) (E : Value → Shared → Prop), i < n → St i s → wpAny (model prog w) A (pyNext (.ref I)) (fun o s1 => ∃ v, o = some v ∧ wpAny (model prog w) A (letOwnedTupleGo (.Name x px) (.ref I) v) (fun _ s1 =>
    wpAny (model prog w) A (assign (.Name x px) cenv v) (fun _ s2 => wpAny (model prog w) A (eval elt cenv) (fun y s3 => y = .bool (tr i) ∧ St (i + 1) s3) E s2) E s1) E s1) E s
  done : ∀ (s : Shared) (E : Value → Shared → Prop), St n s → wpAny (model prog w) A (pyNext (.ref I)) (fun o s1 => o = none ∧ Fi s1) E s
  self : ∀ (s : Shared) (E : Value → Shared → Prop), St 0 s → wpAny (model prog w) A (pyIter (.ref I)) (fun y s1 => y = .ref I ∧ St 0 s1) E s
section
variable {prog : Program} {w : World} {A : Around} {elt iter : Expr} {x : Str} {px : Pos} {scope : Scope} {pos : Pos} {I : Addr} {cenv : Env} {n : Nat} {tr : Nat → Bool} {St : Nat → Shared → Prop} {Fi : Shared → Prop}
def gEnd (Fi : Shared → Prop) : GenEnd := fun m s₀ r s₁ => r = .ok .next ∧ (m = 0 ∧ Fi s₁)
def gProto (n : Nat) (tr : Nat → Bool) (St : Nat → Shared → Prop) : Protocol := fun m s₀ v s kap => ∃ i, i + 1 + m = n ∧ v = .bool (tr i) ∧ St (i + 1) s ∧ ∀ s'', St (i + 1) s'' → kap (.send .none) s''
theorem seg_loop (hco : cenv.scope.isCoroutine = false) (T : Turns prog w (A.over (gLoop elt iter x px scope pos I cenv) []) elt x px I cenv n tr St Fi) : ∀ (k i : Nat) (s₀ s : Shared), n - i = k → i ≤ n → St i s →
    Seg (model prog w) A (gEnd Fi) (gProto n tr St) k s₀ (gLoop elt iter x px scope pos I cenv) ((model prog w).den (gLoop elt iter x px scope pos I cenv)) [] s := by
  intro k
  induction k with
  | zero =>
    intro i s₀ s hk hi hst
    have hin : i = n := by omega
    subst hin
    show Seg _ A _ _ _ s₀ _ ((compTurn (.GeneratorExp elt [⟨.Name x px, iter, [], 0⟩] scope pos) 0 (.ref I) .none cenv).onRaise (leaving cenv)) [] s
    rw [compTurn_gen, Sem.onRaise_eq_wrap]
    refine seg_bind_wrap (wpAny_standAt ?_)
    refine seg_bind_wrap (wpAny_mono (T.done s _ hst) ?_ fun _ _ e => e)
    rintro o s1 ⟨rfl, h1⟩
    exact seg_end (.ok .next) ⟨rfl, rfl, h1⟩
  | succ k ih =>
    intro i s₀ s hk hi hst
    have hlt : i < n := by omega
    show Seg _ A _ _ _ s₀ _ ((compTurn (.GeneratorExp elt [⟨.Name x px, iter, [], 0⟩] scope pos) 0 (.ref I) .none cenv).onRaise (leaving cenv)) [] s
    rw [compTurn_gen, Sem.onRaise_eq_wrap]
    refine seg_bind_wrap (wpAny_standAt ?_)
    refine seg_bind_wrap (wpAny_mono (T.item i s _ hlt hst) ?_ fun _ _ e => e)
    rintro o s1 ⟨v, rfl, h1⟩
    refine seg_bind_wrap (wpAny_mono h1 (fun _ s1 h1 => ?_) fun _ _ e => e)
    refine seg_bind_wrap (wpAny_mono h1 (fun _ s2 h2 => ?_) fun _ _ e => e)
    simp only [List.forIn_nil]
    refine seg_bind_wrap (wpAny_pure ?_)
    simp only [if_true]
    have hy : ∀ v, yieldOut cenv v = yieldValue v := fun v => by simp only [yieldOut, hco, Bool.false_eq_true, if_false]
    simp only [hy]
    rw [Sem.bind_eq_wrap', Sem.bind_eq_wrap', Sem.wrap_wrap, Sem.wrap_wrap]
    refine seg_wrap (wpAny_mono h2 (fun y s3 h3 => ?_) fun _ _ e => e)
    obtain ⟨rfl, st3⟩ := h3
    refine seg_at (seg_yield rfl rfl rfl ⟨i, by omega, rfl, st3, fun s'' h'' => ?_⟩)
    exact seg_again rfl (ih (i + 1) s'' s'' (by omega) hlt h'')
theorem over_start : A.over (gStart elt iter x px scope pos I cenv) [] = A.over (gLoop elt iter x px scope pos I cenv) [] := rfl
theorem seg_start (hco : cenv.scope.isCoroutine = false) (T : Turns prog w (A.over (gLoop elt iter x px scope pos I cenv) []) elt x px I cenv n tr St Fi) (s₀ s : Shared) (hst : St 0 s) :
    Seg (model prog w) A (gEnd Fi) (gProto n tr St) n s₀ (gStart elt iter x px scope pos I cenv) ((model prog w).den (gStart elt iter x px scope pos I cenv)) [] s := by
  have loop := fun s h => seg_loop (iter := iter) (scope := scope) (pos := pos) hco T n 0 s₀ s (Nat.sub_zero _) (Nat.zero_le _) h
  show Seg _ A _ _ _ s₀ _ ((compStart (.GeneratorExp elt [⟨.Name x px, iter, [], 0⟩] scope pos) 0 (.ref I) .none cenv).onRaise (leaving cenv)) [] s
  unfold compStart
  rw [Sem.onRaise_eq_wrap]
  show Seg _ A _ _ _ s₀ _ ((ask >>= _).wrap _ _ _ _) [] s
  refine seg_bind_wrap (wpAny_askSetting ?_)
  have T1 : ∀ E, wpAny (model prog w) (A.over (gStart elt iter x px scope pos I cenv) []) (pyIter (.ref I)) (fun y s1 => y = .ref I ∧ St 0 s1) E s := fun E => T.self s E hst
  split
  · exact seg_again rfl (loop s hst)
  · first
      | exact seg_bind_wrap (wpAny_rule (seg_bind_wrap (wpAny_standAt (seg_bind_wrap (wpAny_mono (T1 _) (fun y s1 ⟨e, h1⟩ => by subst e; exact seg_again rfl (loop s1 h1)) fun _ _ e => e)))))
      | (refine seg_bind_wrap (wpAny_rule ?_); show Seg _ A _ _ _ s₀ _ ((standAt iter.pos >>= _).wrap _ _ _ _) [] s; exact seg_bind_wrap (wpAny_standAt (seg_bind_wrap (wpAny_mono (T1 _) (fun y s1 ⟨e, h1⟩ => by subst e; exact seg_again rfl (loop s1 h1)) fun _ _ e => e))))
/-- what St must bear -/
structure Bears (a : Addr) (g : Nat) (St : Nat → Shared → Prop) (Fi : Shared → Prop) : Prop where
  gen : ∀ i s, St i s → s.heap.IsGen a g ∧ s.heap.NoLimit
  set : ∀ i s gs, gs.bare = true → St i s → St i (s.setGen g gs)
  fin : ∀ i s, St i s → Fi s
  setF : ∀ s gs, gs.bare = true → Fi s → Fi (s.setGen g gs)
  up : ∀ s h', (∀ b o, s.heap.get? b = some o → h'.get? b = some o) → Fi s → Fi { s with heap := h' }
/-- the generator sleeps before its i-th turn -/
def Sleeps (prog : Program) (w : World) (A : Around) (g : Nat) (n : Nat) (tr : Nat → Bool) (St : Nat → Shared → Prop) (Fi : Shared → Prop) (i : Nat) (s : Shared) : Prop :=
  St i s ∧ ∃ gs, s.gens[g]? = some gs ∧ ∀ s'', St i s'' → gs.Goes (model prog w) A.in1 (gEnd Fi) (gProto n tr St) (n - i) (.send .none) s''
variable {a : Addr} {g : Nat}
theorem lt_of_get {gens : Array GenState} {gs : GenState} (h : gens[g]? = some gs) : g < gens.size := by
  rcases Nat.lt_or_ge g gens.size with h' | h'
  · exact h'
  · rw [Array.getElem?_eq_none h'] at h
    cases h
theorem sleeps_item (hh : A.handled = none) (hroom : A.depth < recursionLimit) (B : Bears a g St Fi) {i : Nat} {s : Shared} {Q : Option Value → Shared → Prop} {E : Value → Shared → Prop} (hi : i < n) (h : Sleeps prog w A g n tr St Fi i s)
    (q : ∀ s', Sleeps prog w A g n tr St Fi (i + 1) s' → Q (some (.bool (tr i))) s') : wpAny (model prog w) A (pyNext (.ref a)) Q E s := by
  obtain ⟨st, gs, hgs, go⟩ := h
  obtain ⟨hg, hl⟩ := B.gen i s st
  obtain ⟨m, hm⟩ : ∃ m, n - i = m + 1 := ⟨n - i - 1, by omega⟩
  rw [hm] at go
  refine GenW.wpAny_gsz (n := g + 1) (lt_of_get hgs) ?_
  refine wpAny_pyNext_genexpQ (P := fun m _ s₁ => m = 0 ∧ Fi s₁) hh hl hroom hg hgs (go _ (B.set i s .running rfl st)) (fun v s₁ gs' hb hv => ?_) (fun s₁ hp h' hk => ?_)
  · obtain ⟨j, ej, rfl, st1, kap⟩ := hv
    have e : j = i := by omega
    subst e
    intro lt
    refine q _ ⟨B.set _ _ _ hb st1, gs', ?_, fun s'' h'' => ?_⟩
    · rw [GenW.setGen_size] at lt
      simp [Shared.setGen, show g < s₁.gens.size by omega]
    · rw [show n - (j + 1) = m by omega]
      exact kap s'' h''
  · exact absurd hp.1 (Nat.succ_ne_zero m)
theorem sleeps_done (hh : A.handled = none) (hroom : A.depth < recursionLimit) (B : Bears a g St Fi) {s : Shared} {Q : Option Value → Shared → Prop} {E : Value → Shared → Prop} (h : Sleeps prog w A g n tr St Fi n s)
    (q : ∀ s', Fi s' → Q none s') : wpAny (model prog w) A (pyNext (.ref a)) Q E s := by
  obtain ⟨st, gs, hgs, go⟩ := h
  obtain ⟨hg, hl⟩ := B.gen n s st
  rw [Nat.sub_self] at go
  refine wpAny_pyNext_genexpQ (P := fun m _ s₁ => m = 0 ∧ Fi s₁) hh hl hroom hg hgs (go _ (B.set n s .running rfl st)) (fun v s₁ gs' hb hv => ?_) (fun s₁ hp h' hk => ?_)
  · obtain ⟨j, ej, _, st1, kap⟩ := hv
    exact False.elim (kap s₁ st1)
  · exact q _ (B.up _ _ hk (B.setF _ _ rfl hp.2))
end
section
variable {prog : Program} {w : World} {A : Around} {R : Result → Shared → Prop} {n : Nat} {tr : Nat → Bool} {St : Nat → Shared → Prop} {Fi : Shared → Prop} {a : Addr} {g : Nat}
theorem truth_bool {b : Bool} {s : Shared} {A : Around} {Q : Bool → Shared → Prop} {E : Value → Shared → Prop} (q : Q b s) : wpAny (model prog w) A (truthy (.bool b)) Q E s := by
  first
    | exact wpAny_pure q
    | exact wpAny_truthy_bool q
    | (unfold truthy; exact wpAny_pure q)
/-- all(..) of it -/
theorem all_loop (hh : A.in1.handled = none) (hroom : A.in1.depth < recursionLimit) (B : Bears a g St Fi) : ∀ (k i : Nat) (s : Shared), n - i = k → i ≤ n → Sleeps prog w A.in1 g n tr St Fi i s →
    (∀ s', Fi s' → R (.ok (.ret (.bool (((List.range n).drop i).all tr)))) s') → codeAny (model prog w) A (.builtin "all.loop" ⟨[.ref a], []⟩) R s := by
  intro k
  induction k with
  | zero =>
    intro i s hk hi hst hR
    have hin : i = n := by omega
    subst hin
    refine codeAny_builtin F.entry_all_loop ?_
    rw [Around.under_plainId F.plain_all_loop _]
    show wpAny _ A.in1 (pyNext (.ref a) >>= _) _ _ s
    refine wpAny_bind (sleeps_done hh hroom B hst fun s' h' => ?_)
    refine wpAny_bind (wpAny_rule (wpAny_pure ?_))
    have := hR s' h'
    rw [List.drop_of_length_le (by simp)] at this
    exact this
  | succ k ih =>
    intro i s hk hi hst hR
    have hlt : i < n := by omega
    have hd : (List.range n).drop i = i :: (List.range n).drop (i + 1) := by
      rw [List.drop_eq_getElem_cons (by simpa using hlt)]; simp
    refine codeAny_builtin F.entry_all_loop ?_
    rw [Around.under_plainId F.plain_all_loop _]
    show wpAny _ A.in1 (pyNext (.ref a) >>= _) _ _ s
    refine wpAny_bind (sleeps_item hh hroom B hlt hst fun s' h' => ?_)
    refine wpAny_bind (wpAny_holding (truth_bool ?_))
    refine wpAny_bind (wpAny_letGo ?_)
    cases hb : tr i with
    | true =>
      simp only [if_true]
      refine wpAny_pure ⟨plainId_quiet F.plain_all_loop _, ih (i + 1) _ (by omega) hlt h' fun s'' hm' => ?_⟩
      have := hR s'' hm'
      rw [hd, List.all_cons, hb, Bool.true_and] at this
      exact this
    | false =>
      simp only [Bool.false_eq_true, if_false]
      refine wpAny_bind (wpAny_rule (wpAny_pure ?_))
      have := hR s' (B.fin _ _ h'.1)
      rw [hd, List.all_cons, hb, Bool.false_and] at this
      exact this
theorem call_allT {Q : Value → Shared → Prop} {E : Value → Shared → Prop} {s : Shared} (hh : A.handled = none) (hroom : A.depth < recursionLimit) (B : Bears a g St Fi) (h : Sleeps prog w A.in1 g n tr St Fi 0 s) (q : ∀ s', Fi s' → Q (.bool ((List.range n).all tr)) s') :
    wpAny (model prog w) A (call (.builtin "all") [.ref a]) Q E s := by
  refine call_function_tree F.kind_all F.plain_all F.entry_all (F.args_all1 _) ?_
  unfold Builtin.«all»
  refine wpAny_bind (m := oneArg "all" _) (wpAny_pure ?_)
  refine wpAny_bind (wpAny_pyIter_gen (B.gen 0 s h.1).1 ?_)
  exact wpAny_pure ⟨plainId_quiet F.plain_all_loop _, all_loop hh hroom B n 0 s (Nat.sub_zero _) (Nat.zero_le _) h fun s' hm => by simpa using q s' hm⟩
end
end Cu

namespace Cu
open PySem PySem.Spec PyProof.Rows L2
/-! ### all(elt for x in ..): the element is evaluated in the generator's own frame -/
/-- the frame's context: made at s, its iterator's objects at fp -/
abbrev gxC (X : Cx) (s : Shared) (H : Hp) (cenv : Env) (A : Around) (fp : List Addr) : Cx := { X with A := A, s_0 := s, H_0 := H, env := cenv, outer := X.stack, stack := cenv :: X.stack, ex := fp, fn := fun _ => false, pn := [], xe := fun _ _ => False }
/-- its env -/
abbrev gxE (X : Cx) (scope : Scope) (C : Addr) (code : Value) : Env := genEnv scope (cloFrom X.env.cells scope.names []) C code builtinsNs X.env
/-- its names: x at slot j, those of the def that it reads, and the iterator's -/
structure GxN (N : List Str) (sc scope : Scope) (x : Str) (j : Nat) : Prop where
  ix : N[j]? = some x
  uniq : ∀ y ∈ scope.names, scope.names.lookup y.1 = some y.2
  free : ∀ y ∈ scope.names, y.2 = .free → sc.names.lookup y.1 = some .cell ∨ sc.names.lookup y.1 = some .free
  own : ∀ y ∈ scope.names, y.2 = .local → y.1 = x ∨ y.1 ∉ N
  nocell : ∀ y ∈ scope.names, y.2 ≠ .cell
def gxnB (N : List Str) (sc scope : Scope) (x : Str) (j : Nat) : Bool := decide (N[j]? = some x) && (scope.names.all fun y => decide (scope.names.lookup y.1 = some y.2)) &&
  (scope.names.all fun y => match y.2 with
    | .free => (match sc.names.lookup y.1 with | some .cell => true | some .free => true | _ => false)
    | .local => decide (y.1 = x) || decide (y.1 ∉ N)
    | .cell => false
    | _ => true)
theorem gxn_by {N : List Str} {sc scope : Scope} {x : Str} {j : Nat} (h : gxnB N sc scope x j = true) : GxN N sc scope x j := by
  unfold gxnB at h
  simp only [Bool.and_eq_true, List.all_eq_true, decide_eq_true_eq] at h
  obtain ⟨⟨h1, h2⟩, h3⟩ := h
  refine ⟨h1, h2, fun y hy e => ?_, fun y hy e => ?_, fun y hy e => ?_⟩
  · have := h3 y hy
    rw [e] at this
    simp only at this
    split at this
    · rename_i z
      exact .inl z
    · rename_i z
      exact .inr z
    · cases this
  · have := h3 y hy
    rw [e] at this
    simp only [Bool.or_eq_true, decide_eq_true_eq] at this
    exact this
  · have := h3 y hy
    rw [e] at this
    cases this
section
variable {X : Cx} {pins : List (Addr × Obj)} {σ : L2.St} {H : Hp} {s : Shared}
theorem gx_start {scope : Scope} {x : Str} {j : Nat} {code : Value} {A : Around} {fp : List Addr} {h' : Heap} {g' : Array GenState} {d' : Drawn} {t' : Nat} {m : Str → Option Value} (I : Inv X pins σ H s) (hfp : ∀ b ∈ fp, FpOk X pins H b ∧ b < s.heap.objs.size) (hk : scope.kind = .function)
    (ok : GxN X.N X.env.scope scope x j) (hN : X.N.Nodup) (hh : A.handled = none) (hfr : A.frames = some (gxE X scope s.heap.objs.size code :: X.stack))
    (keep : ∀ b o, s.heap.get? b = some o → h'.get? b = some o) (ns : h'.Ns s.heap.objs.size m) (hg : AllBare g') :
    Inv (gxC X s H (gxE X scope s.heap.objs.size code) A fp) [] (σ.set j none) H { s with heap := h', gens := g', drawn := d', toks := t' } := by
  have cm : ∀ {y c}, (cloFrom X.env.cells scope.names []).lookup y = some c → X.env.cells.lookup y = some c := fun {y c} e => by
    rcases cloFrom_mem (PySem.mem_of_lookup e) with hm | ⟨h1, rfl⟩
    · cases hm
    · have : ∃ c, X.env.cells.lookup y = some c := by
        rcases ok.free _ h1 rfl with k | k
        · exact I.ok.has _ (.inl k)
        · exact I.ok.has _ (.inr k)
      obtain ⟨c, hc⟩ := this
      rw [hc]
      rfl
  have look : ∀ {y}, scope.names.lookup y = some .free → ∃ c, (cloFrom X.env.cells scope.names []).lookup y = some c ∧ X.env.cells.lookup y = some c := fun {y} hl => by
    have hy : (y, NameKind.free) ∈ scope.names := PySem.mem_of_lookup hl
    obtain ⟨c', e'⟩ := mem_lookup (cloFrom_has (cells := X.env.cells) (acc := []) hy)
    exact ⟨c', e', cm e'⟩
  exact {
    ok := {
      mod := I.ok.mod
      kind := hk
      glob := I.ok.glob
      blt := rfl
      above := Nat.le_refl _
      inj := fun y z c e1 e2 => I.ok.inj y z c (cm e1) (cm e2)
      has := fun y h => by
        rcases h with h | h
        · exact absurd rfl (ok.nocell (y, .cell) (PySem.mem_of_lookup h))
        · obtain ⟨c, h1, _⟩ := look h
          exact ⟨c, h1⟩
      cab := fun _ _ z => nomatch z
      hd := fun _ => hh
      frames := hfr
      stk := .inr ⟨rfl, rfl⟩
      exf := fun b hb => ⟨Nat.ne_of_lt (hfp b hb).2, fun y c e => (hfp b hb).1.2.2.2.2.1 y c (cm e)⟩
      bs := I.bs
      bsz := Nat.le_trans I.ok.bsz I.sz
      noex := fun b o e hb => by
        rcases (hfp b hb).1.2.2.2.1 with z | z
        · exact I.ok.noex b o e z
        · have l := Heap.lt_size e
          exact absurd (Nat.lt_of_lt_of_le l (Nat.le_trans I.ok.bsz z)) (Nat.lt_irrefl _)
      exfs := fun b hb z => by
        rcases List.mem_cons.mp (I.stkSub b z) with e | e
        · exact (hfp b hb).1.2.1 e
        · exact (hfp b hb).1.2.2.1 e
      funs := I.stack
      frf := I.stkFree }
    os := rfl
    bare := hg
    base := Un.kept keep
    loc := by
      refine ⟨m, ns, fun i y v e1 e2 vis => ?_⟩
      have ij : i ≠ j := fun z => by
        rw [z] at e2
        by_cases hl : j < σ.length
        · rw [List.getElem?_set_self hl] at e2
          cases e2
        · rw [List.getElem?_eq_none (by simpa using hl)] at e2
          cases e2
      rw [List.getElem?_set_ne (Ne.symm ij)] at e2
      have yN : y ∈ X.N := List.mem_of_getElem? e1
      have yx : y ≠ x := fun z => ij (nodup_ix hN e1 (by rw [z]; exact ok.ix))
      rcases vis with vi | vi | vi
      · rcases ok.own (y, .local) (PySem.mem_of_lookup vi) rfl with z | z
        · exact absurd z yx
        · exact absurd yN z
      · exact absurd rfl (ok.nocell (y, .cell) (PySem.mem_of_lookup vi))
      · obtain ⟨m0, ns0, lk⟩ := I.loc
        have vX : Vis X.env.scope y := by
          rcases ok.free (y, .free) (PySem.mem_of_lookup vi) rfl with k | k
          · exact .inr (.inl k)
          · exact .inr (.inr k)
        obtain ⟨u, ru, lu⟩ := lk i y v e1 e2 vX
        obtain ⟨c, c1, c2⟩ := look vi
        refine ⟨u, ru, .inr ⟨.inr vi, c, c1, ?_⟩⟩
        rcases lu with ⟨kl, _⟩ | ⟨_, c', e', ic⟩
        · have kf : X.env.kindOf y = some .cell ∨ X.env.kindOf y = some .free := by
            rcases ok.free (y, .free) (PySem.mem_of_lookup vi) rfl with k | k
            · exact .inl k
            · exact .inr k
          rcases kf with k | k
          · rw [k] at kl
            cases kl
          · rw [k] at kl
            cases kl
        · rw [c2] at e'
          cases e'
          obtain ⟨o, ho, hd⟩ := ic
          exact ⟨o, keep _ _ ho, hd⟩
    cell := fun y c e => by
      obtain ⟨v, o, ho, hd⟩ := I.cell y c (cm e)
      exact ⟨v, o, keep _ _ ho, hd⟩
    free := I.hok.fresh (Nat.le_refl _)
    freeC := fun y c e => I.freeC y c (cm e)
    pin := fun p hp => nomatch hp
    hok := I.hok.kept keep
    len := by
      rw [List.length_set]
      exact I.len }
theorem inv_gens {g' : Array GenState} (I : Inv X pins σ H s) (hg : AllBare g') : Inv X pins σ H { s with gens := g' } := ⟨I.ok, I.os, hg, I.base, I.loc, I.cell, I.free, I.freeC, I.pin, I.hok, I.len⟩
theorem allBare_set {s : Shared} {g : Nat} {gs : GenState} (h : AllBare s.gens) (b : gs.bare = true) : AllBare (s.setGen g gs).gens := by
  intro y hy
  obtain ⟨i, hi, rfl⟩ := Array.mem_iff_getElem.mp hy
  have e : (s.setGen g gs).gens = s.gens.setIfInBounds g gs := rfl
  have hi' : i < s.gens.size := by rw [GenW.setGen_size] at hi; exact hi
  by_cases z : g = i
  · subst z
    have : (s.setGen g gs).gens[g] = gs := by simp [Shared.setGen]
    rw [this]
    exact b
  · have : (s.setGen g gs).gens[i] = s.gens[i] := by
      show (s.gens.setIfInBounds g gs)[i]'hi = s.gens[i]
      exact Array.getElem_setIfInBounds_ne hi' z
    rw [this]
    exact h _ (Array.getElem_mem hi')
end
/-- between two turns -/
def GxSt (Y : Cx) (σ : L2.St) (j : Nat) (a : Addr) (og : Obj) (fp : List Addr) (tn : Nat → Heap → Prop) (Wv : Nat → Hp → Prop) (i : Nat) (s : Shared) : Prop :=
  ∃ y H, Inv Y [(a, og)] (σ.set j y) H s ∧ tn i s.heap ∧ (∀ b ∈ fp, H b = none) ∧ Wv i H
def GxFi (Y : Cx) (a : Addr) (og : Obj) (Wv : Nat → Hp → Prop) (s : Shared) : Prop := ∃ σ H i, Inv Y [(a, og)] σ H s ∧ Wv i H
/-- what all(elt for x in ..) asks -/
def tAllC (P : Addr) (j : Nat) (wi : TI) (te : TE) : TE := fun σ H Q => wi σ H fun J H1 => GxR.TabG H1 P ∧ ∃ (n : Nat) (tr : Nat → Bool) (Wv : Nat → Hp → Prop), (∀ H2, GxR.Tabbed P H1 H2 → Wv 0 H2) ∧
  (∀ i H2, i < n → Wv i H2 → J.go i H2 ∧ ∀ v H3, J.yld i H2 v H3 → te (σ.set j (some v)) H3 fun y H4 => y = .bl (tr i) ∧ Wv (i + 1) H4) ∧ (∀ H2, Wv n H2 → J.stop n H2) ∧ ∀ i H2, Wv i H2 → Q (.bl ((List.range n).all tr)) H2
section
variable {X : Cx}
theorem turns_of {Y : Cx} {elt : Expr} {x : Str} {px : Pos} {J : It} {fp : List Addr} {it a : Addr} {og : Obj} {tn : Nat → Heap → Prop} {n : Nat} {tr : Nat → Bool} {Wv : Nat → Hp → Prop} {te : TE} {σ : L2.St} {j : Nat} (hc : Y.calm = true) (hex : Y.ex = fp) (hpn : Y.pn = []) (hxe : Y.xe = fun _ _ => False)
    (T : Turn Y.prog Y.w Y.K (.Name x px) J fp it tn) (pg : PG Y (.Name x px) (gName j)) (pe : PE Y elt te) (haf : a ∉ fp)
    (step : ∀ i H2, i < n → Wv i H2 → J.go i H2 ∧ ∀ v H3, J.yld i H2 v H3 → te (σ.set j (some v)) H3 fun y H4 => y = .bl (tr i) ∧ Wv (i + 1) H4) (stop : ∀ H2, Wv n H2 → J.stop n H2) :
    Turns Y.prog Y.w Y.A elt x px it Y.env n tr (GxSt Y σ j a og fp tn Wv) (GxFi Y a og Wv) := by
  have fpk : ∀ {σ : L2.St} {H : Hp} {s : Shared} {ps : List (Addr × Obj)}, Inv Y ps σ H s → (∀ b ∈ fp, H b = none) → (∀ p ∈ ps, p.1 ∉ fp) → ∀ b ∈ fp, FpOk Y ps H b := fun {σ H s ps} I' hn hp b hb =>
    ⟨hn b hb, (I'.ok.exf b (by rw [hex]; exact hb)).1, I'.ok.exfs b (by rw [hex]; exact hb), .inl (by rw [hex]; exact hb), fun x c e => (I'.ok.exf b (by rw [hex]; exact hb)).2 x c e, fun p m => by
      rw [hpn] at m
      intro z
      exact hp p m (z ▸ hb)⟩
  have pa : ∀ p ∈ [(a, og)], p.1 ∉ fp := fun p m => by
    rw [List.mem_singleton.mp m]
    exact haf
  refine ⟨fun i s E hi st => ?_, fun s E st => ?_, fun s E st => ?_⟩
  · obtain ⟨y0, H, I, tt, nf, wv⟩ := st
    obtain ⟨go, yl⟩ := step i H hi wv
    refine wpAny_mono (T.item Y rfl rfl rfl hc i _ s _ H E I (fpk I nf pa) tt go) ?_ fun _ _ e => e
    rintro r s1 ⟨u, rfl, h1⟩
    refine ⟨u, rfl, ?_⟩
    refine wpAny_mono h1 ?_ fun _ _ e => e
    rintro _ s1 ⟨v, H1, I1, rv, y1, t1, n1⟩
    have te1 := yl v H1 y1
    -- the iterator's objects are pinned
    have ob := T.obj _ _ t1
    obtain ⟨of, hof⟩ := Classical.axiomOfChoice (r := fun (b : Addr) (o : Obj) => b ∈ fp → s1.heap.get? b = some o ∧ ∀ v, o.data ≠ .cell v) fun b => by
      by_cases hb : b ∈ fp
      · obtain ⟨o, h⟩ := ob b hb
        exact ⟨o, fun _ => h⟩
      · exact ⟨og, fun z => absurd z hb⟩
    have I2 : Inv Y ((a, og) :: fp.map fun b => (b, of b)) (σ.set j y0) H1 s1 := I1.pins_of fun p hp => by
      rcases List.mem_cons.mp hp with rfl | hp
      · exact I1.pin (a, og) (List.mem_append_right _ List.mem_cons_self)
      · obtain ⟨b, hb, rfl⟩ := List.mem_map.mp hp
        obtain ⟨q1, q2⟩ := hof b hb
        obtain ⟨f1, f2, f3, _⟩ := fpk I1 n1 pa b hb
        exact ⟨q1, f1, f2, f3, q2⟩
    have eσ : (σ.set j y0).set j (some v) = σ.set j (some v) := List.set_set ..
    have as := pg.run _ s1 _ H1 v u (fun σ' H' => σ' = σ.set j (some v) ∧ H' = H1) I2 rv ⟨eσ, rfl⟩
    rw [hxe] at as
    refine wpAny_mono as ?_ fun _ _ e => e.elim
    rintro _ s2 ⟨σ2, H2, I3, rfl, rfl⟩
    have ev := pe.run _ s2 _ _ _ I3 te1
    rw [hxe] at ev
    refine wpAny_mono ev ?_ fun _ _ e => e.elim
    rintro y s3 ⟨yv, H4, I4, ry, rfl, w4⟩
    refine ⟨ry, _, H4, I4.pins_of fun p hp => ?_, ?_, ?_, w4⟩
    · rw [List.mem_singleton.mp hp]
      exact I4.pin (a, og) (List.mem_append_right _ List.mem_cons_self)
    · refine T.keep _ _ _ t1 fun b hb o e => ?_
      have := (I4.pin (b, of b) (List.mem_append_right _ (List.mem_cons_of_mem _ (List.mem_map_of_mem hb)))).1
      rw [(hof b hb).1] at e
      cases e
      exact this
    · intro b hb
      exact (I4.pin (b, of b) (List.mem_append_right _ (List.mem_cons_of_mem _ (List.mem_map_of_mem hb)))).2.1
  · obtain ⟨y0, H, I, tt, nf, wv⟩ := st
    refine wpAny_mono (T.done Y rfl rfl rfl hc n _ s _ H E I (fpk I nf pa) tt (stop H wv)) ?_ fun _ _ e => e
    rintro r s1 ⟨rfl, I1⟩
    exact ⟨rfl, _, H, n, I1, wv⟩
  · obtain ⟨y0, H, I, tt, nf, wv⟩ := st
    exact T.self _ 0 s _ _ tt ⟨rfl, y0, H, I, tt, nf, wv⟩
end
end Cu

namespace Cu
open PySem PySem.Spec PyProof.Rows L2
section
variable {X : Cx}
theorem pe_allC {c P : Addr} {elt iter : Expr} {x : Str} {px p pos gpos : Pos} {scope : Scope} {wi : TI} {te : TE} {k j : Nat}
    (hc : X.calm = true) (hr : Room (k + 1) X.A) (hg : Gl X "all") (hm : X.mg "all" = none) (TB : GxR.TabB X.base X.mg c P) (hcode : X.env.code = .ref c) (hN : X.N.Nodup) (ok : GxN X.N X.env.scope scope x j) (hk : scope.kind = .function) (hco : scope.isCoroutine = false) (hdot : scope.names.lookup (".0" : Str) = some NameKind.local) (hloc : scope.names.lookup x = some .local)
    (hi : PI X (.Name x px) iter wi)
    (pe : ∀ (s : Shared) (H : Hp) (C : Addr) (code : Value) (A : Around) (fp : List Addr), Room k A → PE (gxC X s H (gxE X scope C code) A fp) elt te)
    (hs : ∀ v, genFold iter X.env v = pure v := by intro _; rfl)
    (he : starEach [.GeneratorExp elt [⟨.Name x px, iter, [], 0⟩] scope gpos] X.env = (false, eval (.GeneratorExp elt [⟨.Name x px, iter, [], 0⟩] scope gpos) X.env) :: starEach [] X.env := by rfl) :
    PE X (.Call (.Name "all" p) [.GeneratorExp elt [⟨.Name x px, iter, [], 0⟩] scope gpos] [] pos) (tAllC P j wi te) := by
  constructor
  intro pins s σ H Q I h
  have S : GxR.GenS X.env scope x := ⟨hk, hco, ok.nocell, hdot, hloc, fun y hy e => by
    rcases ok.free y hy e with k | k
    · exact I.ok.has _ (.inl k)
    · exact I.ok.has _ (.inr k)⟩
  apply wpAny_Call_Name_kw
  apply ld_blt I hg hm (show bootBuiltins "all" = some (.builtin "all") by decide +kernel)
  apply PyProof.Rows.callWith_builtin1 _ he (by rfl)
  rw [he]
  show wpAny _ _ (spliced ((false, eval (.GeneratorExp elt [⟨.Name x px, iter, [], 0⟩] scope gpos) X.env) :: backTo pos (starEach [] X.env))) _ _ s
  apply Calls.spliced_cons
  have dp : X.A.depth < recursionLimit := by
    have := hr.dp
    omega
  apply wpAny_GeneratorExp_make S.co (closure_ok S.free) S.cell S.dot S.kind dp _ hs
  refine thn (hi.run pins s σ H _ I h) fun xv s1 h1 => thn h1 ?_
  rintro itv s2 ⟨it, fp, tn, J, H1, rfl, I1, T, st1, f1, tab, n, tr, Wv, w0, step, stop, q⟩
  refine ⟨I1.nolimit, ?_⟩
  obtain ⟨ps, hP, tri⟩ := id tab
  have isP : s2.heap.get? P = some { cls := .none, data := .fields ps } := I1.hok P _ hP
  have cd : PySem.W.CodeHd s2.heap c P := TB.code.keeps I1.bk
  have rest : ∀ (code : Value) (h3 : Heap) (tk : Nat) (qs : Array Value), Heap.ExtBut P s2.heap h3 → s2.heap.objs.size ≤ h3.objs.size → h3.get? P = some { cls := .none, data := .fields qs } → (∃ more, qs = ps ++ more) → TriplesOk qs.toList →
      wpAny (model X.prog X.w) X.A (builtinsFor X.env.globals X.env.builtins) (fun bi s4 => ∀ h', h'.Ns s4.heap.objs.size (fun y => if y = ".0" then some (.ref it) else none) → Heap.SameBut s4.heap.objs.size (s4.heap.push { cls := .type "frame", data := .dict #[] }) h' →
        wpAny (model X.prog X.w) X.A (spliced (backTo pos (starEach [] X.env))) (fun vs s' => wpAny (model X.prog X.w) X.A (call (.builtin "all") (.ref h'.objs.size :: vs)) (EP X pins σ Q) X.xe s') X.xe { s4 with
            gens := s4.gens.push (.fresh (gStart elt iter x px scope gpos it (genEnv scope (cloFrom X.env.cells scope.names []) s4.heap.objs.size code bi X.env))),
            toks := s4.toks + 1 + 1 + 1,
            heap := h'.push { cls := .type "generator", data := .fields #[.int s4.gens.size 0, .str "<genexpr>" (s4.toks + 1), .str (X.env.qual ++ "<genexpr>") (s4.toks + 1 + 1)] } }) X.xe { s2 with heap := h3, toks := tk } := by
    intro code h3 tk qs ex size isP3 grown tr3
    obtain ⟨bm, ob, b1, b2, b3, b4, b5, b6, b7, b8⟩ := TB.bm
    have gl : h3.Ns X.env.globals X.mg := by
      rw [I1.ok.glob]
      exact (I1.mod.glob.keeps I1.bk).extBut ex TB.gP
    apply wpAny_builtinsFor gl b1 b2 (ex _ _ b4 (I1.bk _ _ b5)) b6 b7 b8
    intro h' ns' same'
    apply Calls.spliced_nil
    obtain ⟨more, em⟩ := grown
    rw [em] at isP3 tr3
    have I4 : Inv X pins σ (upd H1 P (.tbl (ps ++ more))) { s2 with heap := h3, toks := tk } := GxR.inv_tab (g' := s2.gens) (d' := s2.drawn) (t' := tk) I1 hP (fun b o nb e => ex b o nb e) isP3 I1.bare
    have tb4 : GxR.Tabbed P H1 (upd H1 P (.tbl (ps ++ more))) := ⟨⟨ps ++ more, upd_same, tr3⟩, fun b nb => upd_ne nb⟩
    have wv0 := w0 _ tb4
    have nfP : ∀ b ∈ fp, b ≠ P := fun b hb z => by
      have := (f1 b hb).1
      rw [z, hP] at this
      cases this
    have f4 : ∀ b ∈ fp, FpOk X pins (upd H1 P (.tbl (ps ++ more))) b ∧ b < h3.objs.size := fun b hb => by
      obtain ⟨o, e, _⟩ := T.obj _ _ st1 b hb
      refine ⟨⟨?_, (f1 b hb).2⟩, Nat.lt_of_lt_of_le (Heap.lt_size e) size⟩
      rw [upd_ne (nfP b hb)]
      exact (f1 b hb).1
    have t4 : tn 0 h3 := T.keep _ _ _ st1 fun b hb o e => ex b o (nfP b hb) e
    generalize upd H1 P (.tbl (ps ++ more)) = H4 at I4 wv0 f4
    have keep : ∀ b o, h3.get? b = some o → h'.get? b = some o := fun b o e => same'.extBut b o (Nat.ne_of_lt (Heap.lt_size e)) (Heap.get?_push_of_some _ e)
    have hsz : h'.objs.size = h3.objs.size + 1 := by
      rw [same'.1, Heap.size_push]
    have fresh : GenState.bare (.fresh (gStart elt iter x px scope gpos it (gxE X scope h3.objs.size code))) = true := rfl
    generalize hog : ({ cls := .type "generator", data := .fields #[.int s2.gens.size 0, .str "<genexpr>" (tk + 1), .str (X.env.qual ++ "<genexpr>") (tk + 1 + 1)] } : Obj) = og
    have keep5 : ∀ b o, h3.get? b = some o → (h'.push og).get? b = some o := fun b o e => Heap.get?_push_of_some _ (keep b o e)
    have room : Room k (X.A.in1.in1.over (gLoop elt iter x px scope gpos it (gxE X scope h3.objs.size code)) []) := by
      refine ⟨hr.hd, ?_, ?_⟩
      · have := hr.dp
        show X.A.depth + 0 + 1 + 3 * k + 5 < _
        omega
      · have := hr.un
        show X.A.units + 1 + 1 + 0 + 3 + 16 * k + 200 < _
        omega
    have fr5 : (X.A.in1.in1.over (gLoop elt iter x px scope gpos it (gxE X scope h3.objs.size code)) []).frames = some (gxE X scope h3.objs.size code :: X.stack) := by
      show pushEnvs [_] (pushEnvs [] X.A.frames) = _
      rw [I1.ok.frames]
      rfl
    have J0 := gx_start (x := x) (j := j) (scope := scope) (code := code) (fp := fp) (g' := s2.gens.push (.fresh (gStart elt iter x px scope gpos it (gxE X scope h3.objs.size code)))) (d' := s2.drawn) (t' := tk + 1 + 1 + 1) (h' := h'.push og) I4 f4 S.kind ok hN room.hd fr5 keep5 (ns'.push og) (I1.bare.push fresh)
    have big : h3.objs.size ≤ h'.objs.size := by omega
    have na : H4 h'.objs.size = none := I4.hok.fresh big
    have nfa : h'.objs.size ∉ frs X.stack := fun z => by
      rcases List.mem_cons.mp (I4.stkSub _ z) with e | e
      · have l := I4.lt
        rw [← e] at l
        exact absurd (Nat.lt_of_lt_of_le l big) (Nat.lt_irrefl _)
      · exact I4.nofs big e
    have ga : (h'.push og).get? h'.objs.size = some og := Heap.get?_push_size _ (by rw [← hog]; rfl)
    have J1 := J0.pins_of (pins' := [(h'.objs.size, og)]) fun q hq => by
      rw [List.mem_singleton.mp hq]
      refine ⟨ga, na, ?_, nfa, fun v z => ?_⟩
      · show h'.objs.size ≠ h3.objs.size
        omega
      · rw [← hog] at z
        cases z
    have haf : h'.objs.size ∉ fp := fun z => by
      have := (f4 _ z).2
      exact absurd (Nat.lt_of_lt_of_le this big) (Nat.lt_irrefl _)
    have Tn := turns_of (Y := gxC X { s2 with heap := h3, toks := tk } H4 (gxE X scope h3.objs.size code) (X.A.in1.in1.over (gLoop elt iter x px scope gpos it (gxE X scope h3.objs.size code)) []) fp) (og := og) (tr := tr) (Wv := Wv) (σ := σ) (j := j) hc rfl rfl rfl T
      (pg_name (i := j) hN ok.ix (.inl S.loc) (.inr S.loc)) (pe _ _ _ _ _ _ room) haf step stop
    have st0 : GxSt (gxC X { s2 with heap := h3, toks := tk } H4 (gxE X scope h3.objs.size code) (X.A.in1.in1.over (gLoop elt iter x px scope gpos it (gxE X scope h3.objs.size code)) []) fp) σ j h'.objs.size og fp tn Wv 0 _ :=
      ⟨_, H4, J1, T.keep _ _ _ t4 fun b _ o e => keep5 b o e, fun b hb => (f4 b hb).1.1, wv0⟩
    have B : Bears h'.objs.size s2.gens.size (GxSt (gxC X { s2 with heap := h3, toks := tk } H4 (gxE X scope h3.objs.size code) (X.A.in1.in1.over (gLoop elt iter x px scope gpos it (gxE X scope h3.objs.size code)) []) fp) σ j h'.objs.size og fp tn Wv)
        (GxFi (gxC X { s2 with heap := h3, toks := tk } H4 (gxE X scope h3.objs.size code) (X.A.in1.in1.over (gLoop elt iter x px scope gpos it (gxE X scope h3.objs.size code)) []) fp) h'.objs.size og Wv) := by
      refine ⟨?_, ?_, ?_, ?_, ?_⟩
      · rintro i s' ⟨σ', H', J', _⟩
        have e := (J'.pin (h'.objs.size, og) List.mem_cons_self).1
        rw [← hog] at e
        exact ⟨⟨_, _, _, e, rfl, rfl, rfl⟩, J'.nolimit⟩
      · rintro i s' gs b ⟨σ', H', J', r⟩
        exact ⟨σ', H', inv_gens J' (allBare_set J'.bare b), r⟩
      · rintro i s' ⟨σ', H', J', _, _, wv⟩
        exact ⟨_, H', i, J', wv⟩
      · rintro s' gs b ⟨σ', H', i, J', wv⟩
        exact ⟨σ', H', i, inv_gens J' (allBare_set J'.bare b), wv⟩
      · rintro s' hh kk ⟨σ', H', i, J', wv⟩
        exact ⟨σ', H', i, J'.kept (t' := s'.toks) kk, wv⟩
    refine call_allT (n := n) (tr := tr) hr.hd dp B ⟨st0, _, Array.getElem?_push_size .., fun s'' h'' => ⟨rfl, ?_⟩⟩ ?_
    · rw [Nat.sub_zero]
      exact seg_start S.co Tn s'' s'' h''
    · rintro s' ⟨σ', H', i, J', wv⟩
      exact ⟨.bl _, H', I4.call' (ch := fp) J'.os J'.base J'.hok J'.bare (fun b hb => ⟨(f4 b hb).1.2.2.2.1, (f4 b hb).1.2.1, (f4 b hb).1.2.2.2.2.1, (f4 b hb).1.2.2.2.2.2⟩), rfl, q i H' wv⟩
  cases hit : codeAmong gpos ps.toList with
  | none =>
    apply wpAny_genexprCodeX hcode (cd.code isP tri) (cd.tab isP) hit
    intro c' h' tk ex ge lt co' _ tab' _
    obtain ⟨o1, vs, f1, tf, fl, tg, inF, tx, tt, op, _, _, _, _, _, _, _, _, _, tr', _⟩ := co'
    exact rest _ h' tk _ ex (Nat.le_trans ge (Nat.le_of_lt lt)) tab'.2 ⟨_, rfl⟩ tr'
  | some cv =>
    apply wpAny_genexprCode_hit hcode (cd.code isP tri) hit
    exact rest cv s2.heap s2.toks ps (Heap.ExtBut.refl _ _) (Nat.le_refl _) isP ⟨#[], by simp⟩ tri
end
end Cu

namespace Cu
open PySem PySem.Spec PyProof.Rows L2
/-! ### sets of texts -/
def txt (e : Int × Value) : Str := match e.2 with | .str k _ => k | _ => ""
def Tx (w : World) (e : Int × Value) : Prop := ∃ k tk, e.2 = Value.str k tk ∧ e.1 = hashStr w k
/-- entries and table of a set of texts: S says which, n how many -/
structure TT (w : World) (es : Array (Int × Value)) (t : SetTable) (S : Str → Bool) (n : Nat) : Prop where
  tx : ∀ e ∈ es.toList, Tx w e
  nd : (es.toList.map txt).Nodup
  mem : ∀ k, S k = true ↔ k ∈ es.toList.map txt
  few : es.size < scanBound
  fit : t.fits es.size = true
  num : es.size = n
  ris : Ris t.place.toList
  led : w.params.followText "set-order" = true ∨ t.led = true
def SetX (w : World) (h : Heap) (a : Addr) (S : Str → Bool) (n : Nat) : Prop := ∃ o es ep t, h.get? a = some o ∧ o.ExactSet ∧ o.data = .set es ep t ∧ TT w es t S n
section
variable {P : Program} {w : World} {h h' : Heap} {a : Addr} {S : Str → Bool} {n : Nat}
theorem SetX.at (x : SetX w h a S n) (k : ∀ o, h.get? a = some o → h'.get? a = some o) : SetX w h' a S n := by
  obtain ⟨o, es, ep, t, e, z⟩ := x
  exact ⟨o, es, ep, t, k o e, z⟩
theorem SetX.lt (x : SetX w h a S n) : a < h.objs.size := by
  obtain ⟨o, es, ep, t, e, z⟩ := x
  exact Heap.lt_size e
theorem SetX.is {S' : Str → Bool} (x : SetX w h a S n) (e : ∀ k, S' k = S k) : SetX w h a S' n := by
  rw [show S' = S from funext e]
  exact x
theorem tx_key {e : Int × Value} (x : Tx w e) (k : Str) : (PySem.strKind P w).is k e.2 = true ↔ txt e = k := by
  obtain ⟨k0, tk, e1, _⟩ := x
  unfold txt
  rw [e1]
  constructor
  · intro z
    exact (PySem.strKind P w).inj _ _ _ (PySem.strKind_is P w k0 tk) z
  · rintro rfl
    exact PySem.strKind_is P w k0 tk
theorem tx_elems {l : List (Int × Value)} (x : ∀ e ∈ l, Tx w e) : ElemsOf (PySem.strKind P w) l := fun e m => by
  obtain ⟨k, tk, e1, e2⟩ := x e m
  exact ⟨⟨k, (tx_key (x e m) k).mpr (by unfold txt; rw [e1]), e2⟩, by rw [e1]; rfl⟩
theorem tx_mem {l : List (Int × Value)} (x : ∀ e ∈ l, Tx w e) (k : Str) : k ∈ l.map txt ↔ ∃ e ∈ l, (PySem.strKind P w).is k e.2 = true := by
  rw [List.mem_map]
  exact ⟨fun ⟨e, m, q⟩ => ⟨e, m, (tx_key (x e m) k).mpr q⟩, fun ⟨e, m, q⟩ => ⟨e, m, (tx_key (x e m) k).mp q⟩⟩
theorem SetX.of (x : SetX w h a S n) : h.SetOf (PySem.strKind P w) a S n := by
  obtain ⟨o, es, ep, t, e, ex, ed, T⟩ := x
  exact ⟨o, es, ep, t, e, ex, ed, tx_elems T.tx, fun k => (T.mem k).trans (tx_mem T.tx k), T.few, T.fit, T.num⟩
/-- after relaying: the same texts -/
theorem TT.perm {es es' : Array (Int × Value)} {t t' : SetTable} (T : TT w es t S n) (p : es'.toList.Perm es.toList) (f : t'.fits es'.size = true) (r : Ris t'.place.toList) (l : w.params.followText "set-order" = true ∨ t'.led = true) : TT w es' t' S n := by
  have z : es'.size = es.size := by rw [← Array.length_toList, p.length_eq, Array.length_toList]
  exact ⟨fun e m => T.tx e (p.mem_iff.mp m), (p.map txt).nodup_iff.mpr T.nd, fun k => (T.mem k).trans (p.map txt).mem_iff.symm, z ▸ T.few, f, z.trans T.num, r, l⟩
end
section
variable {P : Program} {w : World} {A : Around} {E : Value → Shared → Prop} {s : Shared} {a : Addr} {S : Str → Bool} {n : Nat}
theorem addT_end {g : Bool → Sem Unit} (hg : ∀ (b : Bool) (s1 : Shared) (Z : Unit → Shared → Prop), Z () s1 → wpAny (model P w) A (g b) Z E s1)
    {o : Obj} {es : Array (Int × Value)} {ep : Nat} {t : SetTable} (e : s.heap.get? a = some o) (ex : o.ExactSet) (ed : o.data = .set es ep t)
    {fs : Array (Int × Value)} {u : SetTable} (T : TT w fs u S n) {dum : Bool} {R : Option Bool → Shared → Prop}
    (hR : ∀ h', Heap.SameBut a s.heap h' → SetX w h' a S n → R (some true) { s with heap := h' }) :
    wpAny (model P w) A (do
        storeSet a fs u
        if (!dum && u.tooFull) = true then do
            g (relayAll u fs (SetTable.grown fs.size)).2.2
            storeSet a (relayAll u fs (SetTable.grown fs.size)).1 (relayAll u fs (SetTable.grown fs.size)).2.1
            pure (some true)
          else pure (some true)) R E s := by
  refine wpAny_bind (wpAny_storeSet_of e ed ?_ (fits_of_scanBound T.few))
  have e1 := store_at (es' := fs) (t' := u) e ed
  have b1 := Heap.SameBut.update s.heap a (Obj.putSet fs u)
  split
  · have p := relayAll_perm u fs (SetTable.grown fs.size)
    have f := relayAll_fits u fs (SetTable.grown fs.size)
    have r := relayAll_ris u fs (SetTable.grown fs.size)
    have l := relayAll_led u fs (SetTable.grown fs.size)
    generalize relayAll u fs (SetTable.grown fs.size) = Z at p f r l ⊢
    obtain ⟨gs, v, gave⟩ := Z
    dsimp only at p f r l ⊢
    have T2 := T.perm p f r (T.led.imp id fun z => by rw [l]; exact z)
    refine wpAny_bind (hg _ _ _ ?_)
    refine wpAny_bind (wpAny_storeSet_of e1 rfl ?_ (fits_of_scanBound T2.few))
    have e2 := store_at (es' := gs) (t' := v) e1 rfl
    exact wpAny_pure (hR _ (b1.trans (Heap.SameBut.update _ a _)) ⟨_, gs, _, v, e2, ex, rfl, T2⟩)
  · exact wpAny_pure (hR _ b1 ⟨_, fs, _, u, e1, ex, rfl, T⟩)
theorem addT {k : Str} {tk : Tok} {Q : Bool → Shared → Prop} (x : SetX w s.heap a S n) (room : n + 1 < scanBound)
    (q : ∀ h', Heap.SameBut a s.heap h' → SetX w h' a (fun j => S j || decide (j = k)) (if S k = true then n else n + 1) → Q (!S k) { s with heap := h' }) :
    wpAny (model P w) A (setAddHashed a (.str k tk) (hashStr w k)) Q E s := by
  obtain ⟨o, es, ep, t, e, ex, ed, T⟩ := x
  have key : (PySem.strKind P w).is k (.str k tk) = true := PySem.strKind_is P w k tk
  have el : ElemsOf (PySem.strKind P w) es.toList := tx_elems T.tx
  unfold setAddHashed setAddHashedIn
  refine wpAny_holding (wpAny_bind (wpAny_setState_of e ed T.fit ?_))
  dsimp only
  rw [byScan_of rfl T.few el]
  simp only [↓reduceIte]
  unfold setAddByScan
  refine wpAny_bind ?_
  refine wpAny_bind (wpAny_rule ?_)
  refine wpAny_bind (wpAny_setScan_of (knd := PySem.strKind P w) (k := k) key e ed T.fit el ?_)
  cases fi : List.findIdx? (fun e => (PySem.strKind P w).is k e.2) es.toList with
  | some j =>
    dsimp only
    obtain ⟨hj, pj, _⟩ := List.findIdx?_eq_some_iff_getElem.mp fi
    have sk : S k = true := (T.mem k).mpr ((tx_mem (P := P) T.tx k).mpr ⟨es.toList[j], List.getElem_mem hj, pj⟩)
    refine wpAny_pure (wpAny_pure ?_)
    have z := q s.heap (Heap.SameBut.refl a s.heap) ⟨o, es, ep, t, e, ex, ed, T.tx, T.nd, fun i => by
      rw [Bool.or_eq_true, decide_eq_true_eq, ← T.mem i]
      exact ⟨fun y => y.elim id (fun ei => ei ▸ sk), .inl⟩, T.few, T.fit, by rw [if_pos sk]; exact T.num, T.ris, T.led⟩
    rw [sk] at z
    exact z
  | none =>
    dsimp only
    have out : k ∉ es.toList.map txt := fun z => by
      obtain ⟨y, m, qy⟩ := (tx_mem (P := P) T.tx k).mp z
      have c := List.findIdx?_eq_none_iff.mp fi y m
      rw [qy] at c
      cases c
    have sk : S k = false := by
      cases z : S k with
      | false => rfl
      | true => exact absurd ((T.mem k).mp z) out
    have way : ∀ (b : Bool) {s1 : Shared} {Z : Unit → Shared → Prop}, Z () s1 → wpAny (model P w) A (match b with | true => rule "set.scan.the-table-gave-way" | false => pure ()) Z E s1 :=
      fun b s1 Z y => by cases b <;> first | exact wpAny_pure y | exact wpAny_rule y
    have p := layNew_perm t es (hashStr w k) (.str k tk)
    have f := layNew_fits t es (hashStr w k) (.str k tk)
    have r := layNew_ris t es (hashStr w k) (.str k tk) T.ris
    have l := layNew_led t es (hashStr w k) (.str k tk)
    show wpAny _ _ (match (layNew t es (hashStr w k) (.str k tk)) with | _ => _) _ _ _
    generalize layNew t es (hashStr w k) (.str k tk) = Z at p f r l ⊢
    obtain ⟨fs, u, dum, gave⟩ := Z
    dsimp only at p f r l ⊢
    rw [Array.toList_push] at p
    have pc : fs.toList.Perm ((hashStr w k, Value.str k tk) :: es.toList) := p.trans (List.perm_append_singleton _ _)
    have pk : (fs.toList.map txt).Perm (k :: es.toList.map txt) := pc.map txt
    have sz : fs.size = n + 1 := by rw [← Array.length_toList, pc.length_eq, List.length_cons, Array.length_toList, T.num]
    have T1 : ∀ v : SetTable, v.fits fs.size = true → Ris v.place.toList → (w.params.followText "set-order" = true ∨ v.led = true) → TT w fs v (fun j => S j || decide (j = k)) (n + 1) := fun v a1 a2 a3 =>
      ⟨fun y m => by
        rcases List.mem_cons.mp (pc.mem_iff.mp m) with z | z
        · rw [z]
          exact ⟨k, tk, rfl, rfl⟩
        · exact T.tx y z, pk.nodup_iff.mpr (List.nodup_cons.mpr ⟨out, T.nd⟩), fun i => by
        rw [Bool.or_eq_true, decide_eq_true_eq, T.mem i, pk.mem_iff, List.mem_cons]
        exact Or.comm, by rw [sz]; exact room, a1, sz, a2, a3⟩
    have ld : w.params.followText "set-order" = true ∨ u.led = true := T.led.imp id fun z => by rw [l]; exact z
    have fin : ∀ h', Heap.SameBut a s.heap h' → SetX w h' a (fun j => S j || decide (j = k)) (n + 1) → Q true { s with heap := h' } := fun h' b y => by
      have z := q h' b
      rw [sk] at z
      exact z y
    refine wpAny_bind (way _ ?_)
    split
    · refine wpAny_bind ?_
      rw [hashByValue_scannable 8 (x := Value.str k tk) rfl]
      refine wpAny_pure ?_
      refine addT_end (n := n + 1) ?_ e ex ed (T1 _ (SetTable.fits_plain_off f) r ld) ?_
      · intro b s1 Z y
        cases b <;> first | exact wpAny_pure y | exact wpAny_rule y
      · intro h' b y
        dsimp only
        exact wpAny_pure (fin h' b y)
    · refine wpAny_bind (wpAny_pure ?_)
      simp only [↓reduceIte]
      refine addT_end (n := n + 1) ?_ e ex ed (T1 _ f r ld) ?_
      · intro b s1 Z y
        cases b <;> first | exact wpAny_pure y | exact wpAny_rule y
      · intro h' b y
        dsimp only
        exact wpAny_pure (fin h' b y)
end
/-! ### filling -/
/-- the set at S holds the first i of xs -/
def HoldX (w : World) (h : Heap) (S : Addr) (xs : List Str) (i : Nat) : Prop := ∃ c, SetX w h S (fun k => decide (k ∈ xs.take i)) c ∧ c ≤ i ∧ ((xs.take i).Nodup → c = i)
theorem HoldX.at {w : World} {h h' : Heap} {S : Addr} {xs : List Str} {i : Nat} (x : HoldX w h S xs i) (k : ∀ o, h.get? S = some o → h'.get? S = some o) : HoldX w h' S xs i := by
  obtain ⟨c, y, l⟩ := x
  exact ⟨c, y.at k, l⟩
section
variable {prog : Program} {w : World} {A : Around} {R : Result → Shared → Prop} {I : Addr} {fp wr : List Addr} {G : Array GenState → Array GenState → Prop} {n : Nat} {P : Nat → Value → Prop} {St : Nat → Shared → Prop}
theorem fillX (W : WalksS prog w A.in1 I fp wr G n P St) (S : Addr) (out : S ∉ fp) (xs : List Str) (sz : xs.length = n) (few : n + 1 < scanBound) (val : ∀ i v, P i v → ∃ x t, xs[i]? = some x ∧ v = .str x t) :
    ∀ (k i : Nat) (s : Shared), n - i = k → i ≤ n → St i s → HoldX w s.heap S xs i → (∀ s', Moved (S :: wr) G s s' → HoldX w s'.heap S xs n → R (.ok (.ret .none)) s') →
      codeAny (model prog w) A (.builtin "set.update.loop" ⟨[.ref S, .ref I], []⟩) R s := by
  have outw : S ∉ wr := fun m => out (W.sub _ m)
  have more : ∀ b ∈ wr, b ∈ S :: wr := fun b m => List.mem_cons_of_mem _ m
  intro k
  induction k with
  | zero =>
    intro i s e le st hS q
    obtain rfl : i = n := by omega
    refine codeAny_builtin PyProof.Rows.F.entry_set_update_loop ?_
    rw [Around.under_plainId PyProof.Rows.F.plain_set_update_loop _]
    refine wpAny_bind (m := pyNext (.ref I)) (W.done s _ _ st fun s' mv => ?_)
    exact wpAny_pure (q s' (mv.mono more) (hS.at fun o e => mv.heap S o outw e))
  | succ k ih =>
    intro i s e le st hS q
    have lt : i < n := by omega
    refine codeAny_builtin PyProof.Rows.F.entry_set_update_loop ?_
    rw [Around.under_plainId PyProof.Rows.F.plain_set_update_loop _]
    refine wpAny_bind (m := pyNext (.ref I)) (W.item i s _ _ lt st fun v s' hv st' mv => ?_)
    obtain ⟨x, t, hx, rfl⟩ := val i v hv
    obtain ⟨c, sc, cl, ce⟩ := hS.at (h' := s'.heap) fun o e => mv.heap S o outw e
    show wpAny _ A.in1 (holding [Value.str x t] (setAdd S (.str x t)) >>= _) _ _ s'
    refine wpAny_bind (wpAny_holding ?_)
    unfold setAdd
    refine wpAny_holding (wpAny_bind ((PySem.strKind prog w).pyHash (k := x) (PySem.strKind_is _ _ _ _) ?_))
    refine addT (s := { s' with toks := s'.toks + 1 }) sc (by omega) fun h' hsb sc2 => ?_
    have next : HoldX w h' S xs (i + 1) := by
      have tk : xs.take (i + 1) = xs.take i ++ [x] := by
        rw [List.take_add_one, hx]
        rfl
      have cg := sc2.is (S' := fun k => decide (k ∈ xs.take (i + 1))) (fun k' => by rw [tk]; simp)
      by_cases m : x ∈ xs.take i
      · rw [if_pos (decide_eq_true m)] at cg
        refine ⟨c, cg, by omega, fun nd => ?_⟩
        rw [tk] at nd
        exact absurd rfl ((List.nodup_append.mp nd).2.2 x m x (List.mem_singleton.mpr rfl))
      · rw [if_neg (by rw [decide_eq_false m]; exact Bool.false_ne_true)] at cg
        refine ⟨c + 1, cg, by omega, fun nd => ?_⟩
        rw [tk] at nd
        rw [ce (List.nodup_append.mp nd).1]
    refine wpAny_pure ⟨plainId_quiet PyProof.Rows.F.plain_set_update_loop _, ih (i + 1) _ (by omega) lt (W.frame _ s' _ _ st' (Nat.le_succ _) fun b mb o e => ?_) next fun s'' mv' hS' => ?_⟩
    · rw [hsb.2 b (fun z : b = S => out (z ▸ mb))]
      exact e
    · refine q s'' (Moved.trans W.gtrans ((mv.mono more).then_heap (Nat.le_succ _) fun b o nb e => ?_) mv') hS'
      rw [hsb.2 b (fun z : b = S => nb (z ▸ List.mem_cons_self))]
      exact e
end
end Cu

namespace Cu
open PySem PySem.Spec PyProof.Rows L2
/-! ### set(xs) of texts -/
abbrev setObj (w : World) : Obj := { cls := .type "set", dict := none, data := .set #[] 0 (.fresh 0 0 (!w.params.followText "set-order")) }
theorem hold_new {w : World} {h : Heap} {a : Addr} {xs : List Str} (e : h.get? a = some (setObj w)) : HoldX w h a xs 0 :=
  ⟨0, ⟨_, #[], 0, _, e, ⟨rfl, rfl, rfl⟩, rfl, fun _ m => by simp at m, by simp, fun k => by simp, by decide, rfl, rfl, List.Pairwise.nil, by
    show _ ∨ (!w.params.followText "set-order") = true
    cases w.params.followText "set-order"
    · exact .inr rfl
    · exact .inl rfl⟩, Nat.le_refl _, fun _ => rfl⟩
section
variable {P : Program} {w : World} {A : Around} {E : Value → Shared → Prop} {s : Shared}
theorem call_setX_tuple {l : Addr} {items : Array Value} (xs : List Str) {Q : Value → Shared → Prop} (calm : A.handled = none) (hl : s.heap.IsTuple l items) (hs : StrsAre items.toList xs) (few : xs.length + 1 < scanBound)
    (q : ∀ (h' : Heap) (tk : Nat), HoldX w h' s.heap.objs.size xs xs.length → (∀ b o, s.heap.get? b = some o → h'.get? b = some o) → Q (.ref s.heap.objs.size) { s with heap := h', toks := tk }) :
    wpAny (model P w) A (call (.type "set") [.ref l]) Q E s := by
  have sz : items.size = xs.length := by rw [← Array.length_toList, StrsAre.len_eq hs]
  obtain ⟨c, tl, m1⟩ := PySem.F.called_set.mro
  have m2 := PySem.F.called_set.made
  have m3 := PySem.F.called_set.sub
  refine wpAny_call (codeAny_of_tree ?_)
  show wpAny _ _ (callAny (.type "set") _) _ _ _
  refine wpAny_pure ⟨Code.quiet_builtin _ (by decide +kernel), codeAny_builtin PySem.F.entry_type_call ?_⟩
  rw [Around.under_plain (weight_type_call_type "set" [.ref l] []) rfl]
  have m4 := PySem.F.called_set.notType
  have m5 := PySem.F.called_set.canCreate
  have m6 := PySem.F.typeCall_set_1 (.ref l)
  repeat (any_goals (first | assumption | wp_step))
  refine codeAny_mono (L2.code_set_led1 (.ref l) (E := E) (Q₁ := fun y s1 => y = .ref s.heap.objs.size ∧ s1 = { s with heap := s.heap.push (setObj w) }) ⟨rfl, rfl⟩) fun r s1 hr => ?_
  cases r with
  | error e => exact hr
  | ok fl =>
    cases fl with
    | ret obj =>
      obtain ⟨rfl, rfl⟩ := hr
      have eS : (s.heap.push (setObj w)).get? s.heap.objs.size = some (setObj w) := Heap.get?_push_size _ rfl
      have tS : Shared.TypeIs { s with heap := s.heap.push (setObj w) } (.ref s.heap.objs.size) "set" := ⟨_, eS, rfl⟩
      have i1 := PySem.F.called_set.init.lookup
      have i2 := PySem.F.called_set.init.bind (.ref s.heap.objs.size)
      repeat (any_goals (first | assumption | wp_step))
      refine codeAny_mono (codeAny_call_builtin (R := wants (fun r s2 => r = .none ∧ ∃ h' tk, s2 = { s with heap := h', toks := tk } ∧ HoldX w h' s.heap.objs.size xs xs.length ∧ ∀ b o, s.heap.get? b = some o → h'.get? b = some o) E) PySem.F.called_set.init.plain PySem.F.entry_set_init (check_set_init_1 tS ?_)) fun r2 s2 hr2 => ?_
      · obtain ⟨⟨oc, od, odt, osl⟩, el, hc, nl, hd⟩ := hl
        simp only at hc hd
        subst hc
        subst hd
        have el1 : (s.heap.push (setObj w)).get? l = some { cls := .type "tuple", dict := od, data := .seq items nl, slots := osl } := Heap.get?_push_of_some _ el
        have n1 := PySem.F.sub_tuple_set
        have n2 := PySem.F.sub_tuple_frozenset
        have n3 : (Value.type "tuple" == Value.type "dict") = false := by decide
        have il : (s.heap.push (setObj w)).IsTuple l items := ⟨_, el1, rfl, nl, rfl⟩
        unfold Builtin.«set.__init__» noKeywords Builtin.Frozenset.updateFrom
        generalize hPI : pyIter = PI
        wp_walk
        subst hPI
        refine wpAny_pyIter_tuple il ?_
        refine wpAny_bind (wpAny_runValue ?_)
        have lS : l < s.heap.objs.size := Heap.lt_size el
        have calm3 : A.in1.in1.in1.handled = none := by simp [calm]
        have z1 : (s.heap.push (setObj w)).objs.size = s.heap.objs.size + 1 := Heap.size_push ..
        have lI : l ≠ (s.heap.push (setObj w)).objs.size := by
          rw [z1]
          exact Nat.ne_of_lt (Nat.lt_succ_of_lt lS)
        have out : s.heap.objs.size ∉ [(s.heap.push (setObj w)).objs.size, l] := by
          rw [z1]
          intro m
          rcases List.mem_cons.mp m with z | z
          · exact absurd z (Nat.ne_of_lt (Nat.lt_succ_self _))
          · have z' := List.mem_singleton.mp z
            rw [← z'] at lS
            exact Nat.lt_irrefl _ lS
        have val : ∀ (i : Nat) (v : Value), items[i]? = some v → ∃ x t, xs[i]? = some x ∧ v = .str x t := fun i v hv => by
          have hi : i < xs.length := by rw [← sz]; exact (Array.getElem?_eq_some_iff.mp hv).1
          obtain ⟨t, e⟩ := SS.strs_at hs i v (by rw [Array.getElem?_toList]; exact hv)
          refine ⟨xs[i], t, List.getElem?_eq_getElem hi, ?_⟩
          rw [e, List.getD_eq_getElem?_getD, List.getElem?_eq_getElem hi]
          rfl
        refine fillX ((Walks.tuple calm3 _ l lI items).toS) s.heap.objs.size out xs sz.symm (by rw [sz]; exact few) val (items.size - 0) 0 _ (by omega) (Nat.zero_le _) ⟨⟨_, Heap.get?_push_size _ rfl, rfl, rfl⟩, (il.push _)⟩ ?_ ?_
        · exact hold_new (Heap.get?_push_of_some _ eS)
        · intro s' mv hS'
          obtain ⟨h', g2, d', tk', os'⟩ := s'
          have eg : g2 = s.gens := mv.gens
          have ed : d' = s.drawn := mv.drawn
          have eo : os' = s.os := mv.os
          subst eg
          subst ed
          subst eo
          rw [sz] at hS'
          show wpAny _ _ _ _ _ _
          refine wpAny_pure ?_
          show wpAny _ _ (ret Value.none) _ _ _
          refine wpAny_pure ⟨rfl, h', tk', rfl, hS', fun b o e => ?_⟩
          have b0 : b < s.heap.objs.size := Heap.lt_size e
          refine mv.heap b o (fun m => ?_) (Heap.get?_push_of_some _ (Heap.get?_push_of_some _ e))
          rcases List.mem_cons.mp m with z | z
          · rw [z] at b0
            exact Nat.lt_irrefl _ b0
          · have z' := List.mem_singleton.mp z
            have z2 : b = (s.heap.push (setObj w)).objs.size := z'
            rw [z1] at z2
            rw [z2] at b0
            exact absurd b0 (Nat.not_lt_of_le (Nat.le_succ _))
      · cases r2 with
        | error e => exact hr2
        | ok fl2 =>
          cases fl2 with
          | ret r =>
            obtain ⟨rfl, h', tk, rfl, hS', keep⟩ := hr2
            repeat (any_goals (first | assumption | wp_step))
            exact q _ _ hS' keep
          | _ => exact hr2.elim
    | _ => exact hr.elim
theorem call_setX_list {l : Addr} {items : Array Value} (xs : List Str) {Q : Value → Shared → Prop} (calm : A.handled = none) (hl : s.heap.IsList l items) (hs : StrsAre items.toList xs) (few : xs.length + 1 < scanBound)
    (q : ∀ (h' : Heap) (tk : Nat), HoldX w h' s.heap.objs.size xs xs.length → (∀ b o, s.heap.get? b = some o → h'.get? b = some o) → Q (.ref s.heap.objs.size) { s with heap := h', toks := tk }) :
    wpAny (model P w) A (call (.type "set") [.ref l]) Q E s := by
  have sz : items.size = xs.length := by rw [← Array.length_toList, StrsAre.len_eq hs]
  obtain ⟨c, tl, m1⟩ := PySem.F.called_set.mro
  have m2 := PySem.F.called_set.made
  have m3 := PySem.F.called_set.sub
  refine wpAny_call (codeAny_of_tree ?_)
  show wpAny _ _ (callAny (.type "set") _) _ _ _
  refine wpAny_pure ⟨Code.quiet_builtin _ (by decide +kernel), codeAny_builtin PySem.F.entry_type_call ?_⟩
  rw [Around.under_plain (weight_type_call_type "set" [.ref l] []) rfl]
  have m4 := PySem.F.called_set.notType
  have m5 := PySem.F.called_set.canCreate
  have m6 := PySem.F.typeCall_set_1 (.ref l)
  repeat (any_goals (first | assumption | wp_step))
  refine codeAny_mono (L2.code_set_led1 (.ref l) (E := E) (Q₁ := fun y s1 => y = .ref s.heap.objs.size ∧ s1 = { s with heap := s.heap.push (setObj w) }) ⟨rfl, rfl⟩) fun r s1 hr => ?_
  cases r with
  | error e => exact hr
  | ok fl =>
    cases fl with
    | ret obj =>
      obtain ⟨rfl, rfl⟩ := hr
      have eS : (s.heap.push (setObj w)).get? s.heap.objs.size = some (setObj w) := Heap.get?_push_size _ rfl
      have tS : Shared.TypeIs { s with heap := s.heap.push (setObj w) } (.ref s.heap.objs.size) "set" := ⟨_, eS, rfl⟩
      have i1 := PySem.F.called_set.init.lookup
      have i2 := PySem.F.called_set.init.bind (.ref s.heap.objs.size)
      repeat (any_goals (first | assumption | wp_step))
      refine codeAny_mono (codeAny_call_builtin (R := wants (fun r s2 => r = .none ∧ ∃ h' tk, s2 = { s with heap := h', toks := tk } ∧ HoldX w h' s.heap.objs.size xs xs.length ∧ ∀ b o, s.heap.get? b = some o → h'.get? b = some o) E) PySem.F.called_set.init.plain PySem.F.entry_set_init (check_set_init_1 tS ?_)) fun r2 s2 hr2 => ?_
      · obtain ⟨⟨oc, od, odt, osl⟩, el, hc, nl, hd⟩ := hl
        simp only at hc hd
        subst hc
        subst hd
        have el1 : (s.heap.push (setObj w)).get? l = some { cls := .type "list", dict := od, data := .seq items nl, slots := osl } := Heap.get?_push_of_some _ el
        have n1 := PySem.F.sub_list_set
        have n2 := PySem.F.sub_list_frozenset
        have n3 : (Value.type "list" == Value.type "dict") = false := by decide
        have il : (s.heap.push (setObj w)).IsList l items := ⟨_, el1, rfl, nl, rfl⟩
        unfold Builtin.«set.__init__» noKeywords Builtin.Frozenset.updateFrom
        generalize hPI : pyIter = PI
        wp_walk
        subst hPI
        refine wpAny_pyIter_list il ?_
        refine wpAny_bind (wpAny_runValue ?_)
        have lS : l < s.heap.objs.size := Heap.lt_size el
        have calm3 : A.in1.in1.in1.handled = none := by simp [calm]
        have z1 : (s.heap.push (setObj w)).objs.size = s.heap.objs.size + 1 := Heap.size_push ..
        have lI : l ≠ (s.heap.push (setObj w)).objs.size := by
          rw [z1]
          exact Nat.ne_of_lt (Nat.lt_succ_of_lt lS)
        have out : s.heap.objs.size ∉ [(s.heap.push (setObj w)).objs.size, l] := by
          rw [z1]
          intro m
          rcases List.mem_cons.mp m with z | z
          · exact absurd z (Nat.ne_of_lt (Nat.lt_succ_self _))
          · have z' := List.mem_singleton.mp z
            rw [← z'] at lS
            exact Nat.lt_irrefl _ lS
        have val : ∀ (i : Nat) (v : Value), items[i]? = some v → ∃ x t, xs[i]? = some x ∧ v = .str x t := fun i v hv => by
          have hi : i < xs.length := by rw [← sz]; exact (Array.getElem?_eq_some_iff.mp hv).1
          obtain ⟨t, e⟩ := SS.strs_at hs i v (by rw [Array.getElem?_toList]; exact hv)
          refine ⟨xs[i], t, List.getElem?_eq_getElem hi, ?_⟩
          rw [e, List.getD_eq_getElem?_getD, List.getElem?_eq_getElem hi]
          rfl
        refine fillX ((Walks.list calm3 _ l lI items).toS) s.heap.objs.size out xs sz.symm (by rw [sz]; exact few) val (items.size - 0) 0 _ (by omega) (Nat.zero_le _) ⟨⟨_, Heap.get?_push_size _ rfl, rfl, rfl⟩, (il.push _)⟩ ?_ ?_
        · exact hold_new (Heap.get?_push_of_some _ eS)
        · intro s' mv hS'
          obtain ⟨h', g2, d', tk', os'⟩ := s'
          have eg : g2 = s.gens := mv.gens
          have ed : d' = s.drawn := mv.drawn
          have eo : os' = s.os := mv.os
          subst eg
          subst ed
          subst eo
          rw [sz] at hS'
          show wpAny _ _ _ _ _ _
          refine wpAny_pure ?_
          show wpAny _ _ (ret Value.none) _ _ _
          refine wpAny_pure ⟨rfl, h', tk', rfl, hS', fun b o e => ?_⟩
          have b0 : b < s.heap.objs.size := Heap.lt_size e
          refine mv.heap b o (fun m => ?_) (Heap.get?_push_of_some _ (Heap.get?_push_of_some _ e))
          rcases List.mem_cons.mp m with z | z
          · rw [z] at b0
            exact Nat.lt_irrefl _ b0
          · have z' := List.mem_singleton.mp z
            have z2 : b = (s.heap.push (setObj w)).objs.size := z'
            rw [z1] at z2
            rw [z2] at b0
            exact absurd b0 (Nat.not_lt_of_le (Nat.le_succ _))
      · cases r2 with
        | error e => exact hr2
        | ok fl2 =>
          cases fl2 with
          | ret r =>
            obtain ⟨rfl, h', tk, rfl, hS', keep⟩ := hr2
            repeat (any_goals (first | assumption | wp_step))
            exact q _ _ hS' keep
          | _ => exact hr2.elim
    | _ => exact hr.elim
end
end Cu

namespace Cu
open PySem PySem.Spec PyProof.Rows L2
section
variable {P : Program} {w : World} {A : Around} {E : Value → Shared → Prop} {s : Shared} {a b : Addr} {S : Str → Bool} {n m : Nat}
theorem entry_set_ne : entryFor table "set.__ne__" = some Builtin.«frozenset.__ne__» := entryFor_alias (id' := "frozenset.__ne__") (by kernel_rfl) rfl (by decide +kernel) (by kernel_rfl)
theorem size_at {o : Obj} {es : Array (Int × Value)} {ep : Nat} {t : SetTable} {Q : Nat → Shared → Prop} (e : s.heap.get? a = some o) (ed : o.data = .set es ep t) (f : t.fits es.size = true) (q : Q es.size s) : wpAny (model P w) A (Builtin.Frozenset.sizeOf a) Q E s := by
  unfold Builtin.Frozenset.sizeOf
  exact wpAny_bind (wpAny_setEntries_of e ed f (wpAny_pure q))
theorem quiet_tx {e : Int × Value} (x : Tx w e) : Builtin.Frozenset.quietEq e.2 = pure true := by
  obtain ⟨k, tk, e1, _⟩ := x
  rw [e1]
  rfl
theorem set_ne_same (x : SetX w s.heap a S n) (y : SetX w s.heap b S m) {Q : Value → Shared → Prop} (q : Q (.bool false) s) : wpAny (model P w) A (call (.builtin "set.__ne__") [.ref a, .ref b]) Q E s := by
  obtain ⟨o, es, ep, t, e1, ex1, ed1, T1⟩ := id x
  obtain ⟨o', es', ep', t', e2, ex2, ed2, T2⟩ := id y
  have tp1 : s.TypeIs (.ref a) "set" := ⟨o, e1, ex1.1⟩
  have tp2 : s.TypeIs (.ref b) "set" := ⟨o', e2, ex2.1⟩
  refine wpAny_call_entry PySem.F.slot_set_ne tp1 entry_set_ne ?_ (PySem.F.args_set_ne_2 _ _)
  refine wpAny_bind (m := Builtin.Frozenset.slot1 "__ne__" _) ?_
  unfold Builtin.Frozenset.slot1 slotArgs
  simp only [List.isEmpty_nil, Bool.not_true, Bool.false_eq_true, ↓reduceIte, bind_assoc, List.length_nil, bne_self_eq_false]
  refine wpAny_pure ?_
  try dsimp only
  unfold Builtin.Frozenset.isAnySet
  refine wpAny_bind (wpAny_bind (m := isInstance _ _) (wpAny_isInstance (b := true) tp2 sub_set_self (wpAny_pure ?_)))
  simp only [Bool.not_true, Bool.false_eq_true, ↓reduceIte]
  refine wpAny_bind (m := Builtin.Frozenset.addrOf _) (wpAny_pure ?_)
  refine wpAny_bind (m := Builtin.Frozenset.addrOf _) (wpAny_pure ?_)
  refine wpAny_bind (size_at e1 ed1 T1.fit ?_)
  refine wpAny_bind (size_at e2 ed2 T2.fit ?_)
  have nm : es.size = es'.size := by
    have p : (es.toList.map txt).Perm (es'.toList.map txt) := (List.perm_ext_iff_of_nodup T1.nd T2.nd).mpr fun k => (T1.mem k).symm.trans (T2.mem k)
    have l := p.length_eq
    rw [List.length_map, List.length_map, Array.length_toList, Array.length_toList] at l
    exact l
  rw [nm]
  simp only [bne_self_eq_false, Bool.false_eq_true, ↓reduceIte]
  refine wpAny_bind (wpAny_bind (m := _ <&&> _) (wpAny_bind (m := isInstance _ _) (wpAny_isInstance (b := false) tp1 PySem.F.sub_set_frozenset (wpAny_pure ?_))))
  simp only [Bool.not_true, Bool.false_eq_true, ↓reduceIte]
  unfold Builtin.Frozenset.subsetOf
  refine wpAny_bind (size_at e1 ed1 T1.fit ?_)
  refine wpAny_bind (size_at e2 ed2 T2.fit ?_)
  rw [nm]
  simp only [gt_iff_lt, Nat.lt_irrefl, ↓reduceIte]
  refine wpAny_bind (wpAny_setEpoch_of e1 ed1 T1.fit ?_)
  unfold Builtin.Frozenset.walkUnseen
  refine wpAny_bind (wpAny_bind (wpAny_setEntries_of e1 ed1 T1.fit (wpAny_bind (wpAny_setEntries_of e2 ed2 T2.fit ?_))))
  refine wpAny_bind (wpAny_forIn_list _ (fun l r s' => r = (none, ()) ∧ s' = s ∧ ∀ e ∈ l, Tx w e) _ ?_ ?_ _ _ ⟨rfl, rfl, fun e m => ?_⟩)
  · rintro e rest r s' ⟨rfl, rfl, all⟩
    obtain ⟨k, v⟩ := e
    have hv := quiet_tx (all _ List.mem_cons_self)
    dsimp only at hv ⊢
    rw [hv, pure_bind]
    exact wpAny_pure ⟨rfl, rfl, fun e m => all e (List.mem_cons_of_mem _ m)⟩
  · rintro r s' ⟨rfl, rfl, _⟩
    refine wpAny_pure ?_
    refine wpAny_bind (wpAny_forIn_list _ (fun l r s2 => r = (none, ()) ∧ s2 = s' ∧ ∀ e ∈ l, e ∈ es.toList) _ ?_ ?_ _ _ ⟨rfl, rfl, fun e m => m⟩)
    · rintro e rest r s2 ⟨rfl, rfl, all⟩
      have me := all e List.mem_cons_self
      obtain ⟨k, tk, h1, h2⟩ := T1.tx e me
      have kin : S k = true := (T1.mem k).mpr (List.mem_map.mpr ⟨e, me, by unfold txt; rw [h1]⟩)
      refine wpAny_bind (wpAny_holding ?_)
      rw [h1, h2]
      refine wpAny_setFind_of (knd := PySem.strKind P w) (k := k) (PySem.strKind_is P w k tk) rfl y.of fun r hr => ?_
      rw [kin] at hr
      cases r with
      | none => cases hr
      | some j =>
        simp only [Option.isNone_some, Bool.false_eq_true, ↓reduceIte]
        unfold Builtin.Frozenset.unchanged
        refine wpAny_bind (wpAny_bind (wpAny_setEpoch_of e1 ed1 T1.fit ?_))
        simp only [bne_self_eq_false, Bool.false_eq_true, ↓reduceIte]
        exact wpAny_pure (wpAny_pure ⟨rfl, rfl, fun e m => all e (List.mem_cons_of_mem _ m)⟩)
    · rintro r s2 ⟨rfl, rfl, _⟩
      exact wpAny_pure (wpAny_pure ⟨_, rfl, q⟩)
  · rcases List.mem_append.mp m with z | z
    · exact T1.tx e z
    · exact T2.tx e z
end
end Cu

namespace Cu
open PySem PySem.Spec PyProof.Rows L2
/-- the set of texts at a -/
def SetXO (w : World) (a : Addr) (S : Str → Bool) (n : Nat) : HO := .ext fun h => SetX w h a S n
section
variable {X : Cx}
theorem setXO_new {w : World} {P : Program} {H : Hp} {h : Heap} {a : Addr} {S : Str → Bool} {n : Nat} (x : SetX w h a S n) : ObjOk P w H h a (SetXO w a S n) := by
  obtain ⟨o, _, _, _, e, _⟩ := id x
  exact ⟨x, ⟨o, e⟩, fun h1 h2 p k => SetX.at p k⟩
theorem setXO_get {pins : List (Addr × Obj)} {σ : L2.St} {H : Hp} {s : Shared} {a : Addr} {S : Str → Bool} {n : Nat} (I : Inv X pins σ H s) (e : H a = some (SetXO X.w a S n)) : SetX X.w s.heap a S n := (I.hok a _ e).1
/-- set(xs) of texts -/
def rSetX (K : PySem.W.Frag) (w : World) : List V → Hp → VK → Prop := fun vs H Q => ∃ (l : Addr) (xs : List Str), vs = [.ref l] ∧ (SqL K H l (xs.map V.str) ∨ SqT K H l (xs.map V.str)) ∧ xs.length ≤ 4000 ∧
  ∀ (p : Addr) (n : Nat), H p = none → n ≤ xs.length → (xs.Nodup → n = xs.length) → Q (.ref p) (upd H p (SetXO w p (fun k => decide (k ∈ xs)) n))
theorem call_setX (hc : X.calm = true) : CallR X (.type "set") (rSetX X.K X.w) := by
  intro pins s σ H vs us Q I r h
  obtain ⟨l, xs, rfl, hs, few, q⟩ := h
  rw [Vals.ref1 r]
  have fin : ∀ (h' : Heap) (tk : Nat), HoldX X.w h' s.heap.objs.size xs xs.length → (∀ b o, s.heap.get? b = some o → h'.get? b = some o) → EP X pins σ Q (.ref s.heap.objs.size) { s with heap := h', toks := tk } := by
    rintro h' tk ⟨c, hx, cl, ce⟩ keep
    rw [List.take_length] at hx ce
    exact ⟨.ref _, upd H s.heap.objs.size (SetXO X.w s.heap.objs.size (fun k => decide (k ∈ xs)) c), I.laid keep (Nat.le_refl _) (setXO_new hx), rfl, q _ c (I.hok.fresh (Nat.le_refl _)) cl ce⟩
  rcases hs with hs | hs
  · obtain ⟨its, rv, pl, _⟩ := I.list hs
    exact call_setX_list xs (I.ok.hd hc) pl.isList (by simpa using strsAre_of rv) (by unfold scanBound; omega) fin
  · obtain ⟨its, rv, pl, _⟩ := I.tuple hs
    exact call_setX_tuple xs (I.ok.hd hc) pl (by simpa using strsAre_of rv) (by unfold scanBound; omega) fin
/-- len of a set of texts -/
def rLenX (w : World) : List V → Hp → VK → Prop := fun vs H Q => ∃ (a : Addr) (S : Str → Bool) (n : Nat), vs = [.ref a] ∧ H a = some (SetXO w a S n) ∧ Q (.int n) H
theorem few63 {n : Nat} (h : n < scanBound) : (n : Int) < 2 ^ 63 := by
  have : scanBound = 4096 := rfl
  omega
theorem call_lenX : CallR X (.builtin "len") (rLenX X.w) := by
  intro pins s σ H vs us Q I r h
  obtain ⟨a, S, n, rfl, e, q⟩ := h
  rw [Vals.ref1 r]
  obtain ⟨o, es, ep, t, eo, ex, ed, T⟩ := setXO_get I e
  obtain rfl : es.size = n := T.num
  have J := I.tok (s.toks + 1 + 1)
  refine call_len_set eo ex ed T.fit (few63 T.few) ?_
  exact ⟨.int es.size, H, J, ⟨_, rfl⟩, q⟩
/-- two sets of the same texts are not different -/
def rNeX (w : World) : R2 := fun x y H Q => ∃ (a b : Addr) (S S' : Str → Bool) (n m : Nat), x = .ref a ∧ y = .ref b ∧ H a = some (SetXO w a S n) ∧ H b = some (SetXO w b S' m) ∧ (∀ k, S k = S' k) ∧ Q (.bl false) H
theorem op_neX (hu : X.A.units < cLine) : OpR X (compareOp .NotEq) (rNeX X.w) := by
  intro pins s σ H x y v u Q I rx ry h
  obtain ⟨a, b, S, S', n, m, rfl, rfl, e1, e2, es, q⟩ := h
  cases rx
  cases ry
  have x1 := setXO_get I e1
  have x2 := (setXO_get I e2).is (S' := S) es
  obtain ⟨o, _, _, _, eo, ex, _⟩ := id x1
  obtain ⟨o', _, _, _, eo', ex', _⟩ := id x2
  have t1 : s.TypeIs (.ref a) "set" := ⟨o, eo, ex.1⟩
  have t2 : s.TypeIs (.ref b) "set" := ⟨o', eo', ex'.1⟩
  show wpAny _ _ (richCompare .NotEq (.ref a) (.ref b)) _ _ _
  refine wpAny_richCompare_same_room (T := "set") (id := "set.__ne__") t1 t2 PySem.F.slot_set_ne (set_ne_same x1 x2 ?_) hu
  refine ⟨(fun z => by cases z), ?_⟩
  exact ⟨.bl false, H, I, rfl, q⟩
/-- sorted of a set of texts -/
def rSortX (w : World) : List V → Hp → VK → Prop := fun vs H Q => ∃ (a : Addr) (S : Str → Bool) (n : Nat), vs = [.ref a] ∧ H a = some (SetXO w a S n) ∧ (∀ ks : List Str, ks.Nodup → (∀ k ∈ ks, S k = true) → ks.length < 64) ∧
  ∀ (ys : List Str) (p : Addr), ys.Nodup → sortedS ys = true → (∀ k, k ∈ ys ↔ S k = true) → ys.length = n → H p = none → Q (.ref p) (upd H p (.lst (ys.map V.str)))
theorem strs_of : ∀ (l : List Value), (∀ v ∈ l, ∃ k tk, v = Value.str k tk) → ∃ zs : List Str, StrsAre l zs ∧ zs = l.map fun v => match v with | .str k _ => k | _ => ""
  | [], _ => ⟨[], .nil, rfl⟩
  | v :: l, h => by
    obtain ⟨k, tk, rfl⟩ := h v List.mem_cons_self
    obtain ⟨zs, h1, h2⟩ := strs_of l fun u m => h u (List.mem_cons_of_mem _ m)
    exact ⟨k :: zs, .cons k tk h1, by rw [h2]; rfl⟩
theorem sortX {P : Program} {w : World} {A : Around} {E : Value → Shared → Prop} {s : Shared} {a : Addr} {S : Str → Bool} {n : Nat} {Q : Value → Shared → Prop} (x : SetX w s.heap a S n) (calm : A.handled = none) (h64 : n < 64)
    (q : ∀ s' p (out : Array Value) (c : Nat) (ys : List Str), (∀ b o, s.heap.get? b = some o → s'.heap.get? b = some o) → s'.gens = s.gens → s'.os = s.os → s.heap.objs.size ≤ p →
      s'.heap.get? p = some (seqObj "list" out c) → StrsAre out.toList ys → ys.Nodup → sortedS ys = true → (∀ k, k ∈ ys ↔ S k = true) → ys.length = n → Q (.ref p) s') :
    wpAny (model P w) A (call (.builtin "sorted") [.ref a]) Q E s := by
  obtain ⟨o, es, ep, t, eo, ex, ed, T⟩ := x
  refine Calls.call_function_entry kind_sorted plain_sorted entry_sorted (args_sorted1 _) ?_
  unfold Builtin.«sorted»
  refine wpAny_bind (m := checkCount "sorted" 1 1 _) (wpAny_pure ?_)
  refine wpAny_bind (collect_set (A := A.in1) calm ⟨o, eo, ex.1, ed⟩ T.fit T.few T.ris T.led fun s1 vs k1 hz g1 o1 pm => ?_)
  have vl : vs.length = n := by rw [pm.length_eq, List.length_map, Array.length_toList]; exact T.num
  obtain ⟨zs, hS, ez⟩ := strs_of vs fun v m => by
    obtain ⟨e, me, qe⟩ := List.mem_map.mp (pm.mem_iff.mp m)
    obtain ⟨k, tk, h1, _⟩ := T.tx e me
    exact ⟨k, tk, by rw [← qe]; exact h1⟩
  have pk : zs.Perm (es.toList.map txt) := by
    rw [ez]
    have z := pm.map fun v => (match v with | .str k _ => k | _ => "" : Str)
    rw [List.map_map] at z
    exact z
  refine wpAny_bind (wpAny_newList ?_ (by rw [vl, sizeLine_eq]; omega))
  have eL : (s1.heap.push (seqObj "list" vs.toArray 0)).get? s1.heap.objs.size = some (seqObj "list" vs.toArray 0) := Heap.get?_push_size _ rfl
  refine wpAny_bind (wpAny_holding (wpAny_call_entry slot_list_sort ⟨_, eL, rfl⟩ entry_list_sort (list_sort_treeK strKind_oneLt eL hS.keysOf (fun _ _ _ e => keyKind_strs (by rw [← e]; exact hS)) (by rw [vl]; exact h64) fun st' hp hs => ⟨_, rfl, ?_⟩) (args_list_sort _)))
  obtain ⟨ys, y1, y2, y3⟩ := sorted_out_str hS hp hs
  obtain ⟨c, hc⟩ := sortedHeap_at (vs := vs) (out := (arrOf st').map (·.2)) eL
  have pn : ys.Perm (es.toList.map txt) := y2.trans pk
  refine wpAny_pure ⟨_, rfl, q _ s1.heap.objs.size _ c ys (fun b u e => ?_) g1 o1 hz hc y1 (pn.nodup_iff.mpr T.nd) y3 (fun k => by rw [pn.mem_iff, ← T.mem k]) ?_⟩
  · have z := k1 b u e
    have lt := Heap.lt_size z
    show (sortedHeap (s1.heap.push (seqObj "list" vs.toArray 0)) s1.heap.objs.size vs _).get? b = some u
    rw [sortedHeap_old (Nat.ne_of_lt lt) (by rw [size_push']; exact Nat.lt_succ_of_lt lt)]
    exact Heap.get?_push_of_some _ z
  · rw [pn.length_eq, List.length_map, Array.length_toList]
    exact T.num
theorem call_sortX (hc : X.calm = true) : CallR X (.builtin "sorted") (rSortX X.w) := by
  intro pins s σ H vs us Q I r h
  obtain ⟨a, S, n, rfl, e, few, q⟩ := h
  rw [Vals.ref1 r]
  have h64 : n < 64 := by
    obtain ⟨_, es, _, _, _, _, _, T⟩ := setXO_get I e
    have z := few (es.toList.map txt) T.nd fun k m => (T.mem k).mpr m
    rw [List.length_map, Array.length_toList, T.num] at z
    exact z
  refine sortX (setXO_get I e) (I.ok.hd hc) h64 fun s' p out c ys k g o hp hg hs nd so hm hl => ?_
  have len : (ys.map V.str).length ≤ sizeLine := by rw [List.length_map, hl, sizeLine_eq]; omega
  have hn : H p = none := I.hok.fresh hp
  have J : Inv X pins σ (upd H p (.lst (ys.map V.str))) { s with heap := s'.heap, gens := s'.gens, drawn := s'.drawn, toks := s'.toks } :=
    I.call (ch := []) (Un.laid k hp hn) (I.hok.laid k hp ⟨len, out.toList, c, vals_of_strs hs, hg⟩) (by rw [g]; exact I.bare) (fun _ z => nomatch z)
  have e' : s' = { s with heap := s'.heap, gens := s'.gens, drawn := s'.drawn, toks := s'.toks } := by
    cases s'
    cases s
    cases o
    rfl
  rw [e']
  exact ⟨.ref p, _, J, rfl, q ys p nd so hm hl hn⟩
end
end Cu

namespace Cu
open PySem PySem.Spec PyProof.Rows L2
theorem same_both {F H : Hp} {p : Addr} {o : HO} (s : Same F H) (n : H p = none) : Same (upd F p o) (upd H p o) := fun b x e => by
  by_cases z : b = p
  · subst z
    rw [upd_same] at e ⊢
    exact e
  · rw [upd_ne z] at e ⊢
    exact s b x e
/-! ### what is made beside the hand a: F grows by new objects alone -/
structure Mk (a : Addr) (F H F' H' : Hp) : Prop where
  upto : Upto a H H'
  live : ∃ o, H' a = some o
  sub : Same F' H'
  mono : Same F F'
  fresh : ∀ b o, H b = some o → F b = none → F' b = none
theorem Mk.trans {a : Addr} {F H F1 H1 F2 H2 : Hp} (x : Mk a F H F1 H1) (y : Mk a F1 H1 F2 H2) : Mk a F H F2 H2 := by
  refine ⟨x.upto.trans y.upto, y.live, y.sub, x.mono.trans y.mono, fun b o e n => ?_⟩
  have n1 := x.fresh b o e n
  by_cases z : b = a
  · obtain ⟨o1, e1⟩ := x.live
    exact y.fresh b o1 (z ▸ e1) n1
  · exact y.fresh b o (x.upto b o z e) n1
theorem Mk.draw {a : Addr} {F H H' : Hp} (s : Same F H) (u : Upto a H H') (l : ∃ o, H' a = some o) (fa : F a = none) : Mk a F H F H' :=
  ⟨u, l, same_upto s u fa, Same.refl _, fun _ _ _ n => n⟩
theorem Mk.refl {a : Addr} {F H : Hp} (s : Same F H) (l : ∃ o, H a = some o) : Mk a F H F H := ⟨.refl _ _, l, s, Same.refl _, fun _ _ _ n => n⟩
theorem Mk.new {a p : Addr} {F H : Hp} (o : HO) (s : Same F H) (l : ∃ o, H a = some o) (n : H p = none) : Mk a F H (upd F p o) (upd H p o) := by
  obtain ⟨oa, ea⟩ := l
  refine ⟨.new n, ⟨oa, (upd_ne (ne_of_none ea n)).trans ea⟩, same_both s n, same_upd (s.free n), fun b ob e nb => ?_⟩
  rw [upd_ne (ne_of_none e n)]
  exact nb
theorem Mk.skip {a p : Addr} {F H : Hp} (o : HO) (s : Same F H) (l : ∃ o, H a = some o) (n : H p = none) : Mk a F H F (upd H p o) := by
  obtain ⟨oa, ea⟩ := l
  exact ⟨.new n, ⟨oa, (upd_ne (ne_of_none ea n)).trans ea⟩, s.trans (same_upd n), Same.refl _, fun b ob e nb => nb⟩
theorem Mk.fa {a : Addr} {F H F' H' : Hp} (m : Mk a F H F' H') (l : ∃ o, H a = some o) (fa : F a = none) : F' a = none := by
  obtain ⟨o, e⟩ := l
  exact m.fresh a o e fa
end Cu

namespace Cu
open PySem PySem.Spec PyProof.Rows L2
theorem stays_of {F H : Hp} (s : Same F H) : Stays F H := fun b o e _ => s b o e
/-! ### the tables may have grown, all else that stood stands -/
structure Tbs (ps : List Addr) (H H' : Hp) : Prop where
  keep : ∀ b o, b ∉ ps → H b = some o → H' b = some o
  tab : ∀ p ∈ ps, GxR.TabG H' p
theorem Tbs.refl {ps : List Addr} {H : Hp} (h : ∀ p ∈ ps, GxR.TabG H p) : Tbs ps H H := ⟨fun _ _ _ e => e, h⟩
theorem Tbs.trans {ps : List Addr} {H H1 H2 : Hp} (a : Tbs ps H H1) (b : Tbs ps H1 H2) : Tbs ps H H2 := ⟨fun x o n e => b.keep x o n (a.keep x o n e), b.tab⟩
theorem Tbs.new {ps : List Addr} {H H1 : Hp} {l : Addr} {o : HO} (a : Tbs ps H H1) (n : H1 l = none) : Tbs ps H (upd H1 l o) := by
  refine ⟨fun b x nb e => same_upd n _ _ (a.keep b x nb e), fun p hp => ?_⟩
  obtain ⟨qs, e, t⟩ := a.tab p hp
  exact ⟨qs, same_upd n _ _ e, t⟩
theorem Tbs.one {ps : List Addr} {H H' : Hp} {p : Addr} (h : ∀ q ∈ ps, GxR.TabG H q) (hp : p ∈ ps) (t : GxR.Tabbed p H H') : Tbs ps H H' := by
  refine ⟨fun b o nb e => ?_, fun q hq => ?_⟩
  · rw [t.2 b (fun z => nb (z ▸ hp))]
    exact e
  · by_cases z : q = p
    · rw [z]
      exact t.1
    · obtain ⟨qs, e, tt⟩ := h q hq
      exact ⟨qs, (t.2 q z).trans e, tt⟩
theorem Tbs.stays {ps : List Addr} {H H' : Hp} (t : Tbs ps H H') (h : ∀ q ∈ ps, GxR.TabG H q) : Stays H H' := by
  intro b o e k
  refine t.keep b o (fun z => ?_) e
  obtain ⟨qs, e1, _⟩ := h b z
  rw [e1] at e
  cases e
  rcases k with ⟨_, z⟩ | ⟨_, z⟩ | ⟨_, z⟩ <;> cases z
theorem tb_at {H H' : Hp} {p : Addr} (e : H' p = H p) (t : GxR.TabG H p) : GxR.TabG H' p := by
  obtain ⟨qs, e1, tt⟩ := t
  exact ⟨qs, e.trans e1, tt⟩
theorem tb_same {H H' : Hp} {p : Addr} (s : Same H H') (t : GxR.TabG H p) : GxR.TabG H' p := by
  obtain ⟨qs, e1, tt⟩ := t
  exact ⟨qs, s _ _ e1, tt⟩
theorem tb_upto {a : Addr} {H H' : Hp} {p : Addr} (u : Upto a H H') (n : p ≠ a) (t : GxR.TabG H p) : GxR.TabG H' p := by
  obtain ⟨qs, e1, tt⟩ := t
  exact ⟨qs, u _ _ n e1, tt⟩
theorem tb_ne {H : Hp} {p l : Addr} {o : HO} (t : GxR.TabG H p) (e : H l = some o) (h : ∀ qs, o ≠ .tbl qs) : p ≠ l := fun z => by
  obtain ⟨qs, e1, _⟩ := t
  rw [z, e] at e1
  exact h qs (Option.some.inj e1)
theorem tb_free {H : Hp} {p l : Addr} (t : GxR.TabG H p) (n : H l = none) : p ≠ l := fun z => by
  obtain ⟨qs, e1, _⟩ := t
  rw [z, n] at e1
  cases e1
/-! ### data whose texts and rows are not too long -/
mutual
def small : PyData → Bool
  | .str z => decide (z.length ≤ sizeLine)
  | .list xs | .tuple xs => decide (xs.length ≤ 1000) && smallAll xs
  | .dict kvs => smallKv kvs
  | .none | .bool _ | .int _ => true
def smallAll : List PyData → Bool
  | [] => true
  | x :: xs => small x && smallAll xs
def smallKv : List (PyData × PyData) → Bool
  | [] => true
  | (_, v) :: r => small v && smallKv r
end
theorem smallAll_mem : ∀ {ds : List PyData}, (∀ d ∈ ds, small d = true) → smallAll ds = true
  | [], _ => by simp [smallAll]
  | d :: r, h => by
    simp only [smallAll, h d List.mem_cons_self, smallAll_mem fun e m => h e (List.mem_cons_of_mem _ m), Bool.and_self]
theorem small_of_all : ∀ {ds : List PyData}, smallAll ds = true → ∀ d ∈ ds, small d = true
  | [], _, d, m => nomatch m
  | e :: r, h, d, m => by
    simp only [smallAll, Bool.and_eq_true] at h
    rcases List.mem_cons.mp m with z | z
    · rw [z]
      exact h.1
    · exact small_of_all h.2 d z
theorem small_tup {ds : List PyData} (h : small (.tuple ds) = true) : ds.length ≤ 1000 ∧ ∀ d ∈ ds, small d = true := by
  simp only [small, Bool.and_eq_true] at h
  exact ⟨of_decide_eq_true h.1, small_of_all h.2⟩
theorem dx_mem {H : Hp} : ∀ {xs : List V} {ds : List PyData} {y : V}, DxAll H xs ds → y ∈ xs → ∃ d, d ∈ ds ∧ Dx H y d
  | _, _, _, .nil, m => nomatch m
  | _, _, _, .cons k t, m => by
    rcases List.mem_cons.mp m with e | e
    · rw [e]
      exact ⟨_, List.mem_cons_self, k⟩
    · obtain ⟨d, md, k2⟩ := dx_mem t e
      exact ⟨d, List.mem_cons_of_mem _ md, k2⟩
mutual
theorem Dx.one {H : Hp} : ∀ (d e : PyData) (v : V), Dx H v d → Dx H v e → d = e
  | .none, _, _, h, k => by
    cases h
    cases k
    rfl
  | .bool b, _, _, h, k => by
    cases h
    cases k
    rfl
  | .int i, _, _, h, k => by
    cases h
    cases k
    rfl
  | .str x, _, _, h, k => by
    cases h
    cases k
    rfl
  | .list ds, _, _, h, k => by
    cases h with
    | lst e1 k1 =>
      cases k with
      | lst e2 k2 =>
        cases e1.symm.trans e2
        rw [DxAll.one ds _ _ k1 k2]
      | tup e2 k2 => cases e1.symm.trans e2
      | dct e2 k2 => cases e1.symm.trans e2
  | .tuple ds, _, _, h, k => by
    cases h with
    | tup e1 k1 =>
      cases k with
      | tup e2 k2 =>
        cases e1.symm.trans e2
        rw [DxAll.one ds _ _ k1 k2]
      | lst e2 k2 => cases e1.symm.trans e2
      | dct e2 k2 => cases e1.symm.trans e2
  | .dict ds, _, _, h, k => by
    cases h with
    | dct e1 k1 =>
      cases k with
      | dct e2 k2 =>
        cases e1.symm.trans e2
        rw [DxKv.one ds _ _ k1 k2]
      | lst e2 k2 => cases e1.symm.trans e2
      | tup e2 k2 => cases e1.symm.trans e2
theorem DxAll.one {H : Hp} : ∀ (ds es : List PyData) (vs : List V), DxAll H vs ds → DxAll H vs es → ds = es
  | [], _, _, h, k => by
    cases h
    cases k
    rfl
  | d :: ds, _, _, h, k => by
    cases h with
    | cons h1 h2 =>
      cases k with
      | cons k1 k2 => rw [Dx.one d _ _ h1 k1, DxAll.one ds _ _ h2 k2]
theorem DxKv.one {H : Hp} : ∀ (ds es : List (PyData × PyData)) (vs : List (Key × V)), DxKv H vs ds → DxKv H vs es → ds = es
  | [], _, _, h, k => by
    cases h
    cases k
    rfl
  | (_, d) :: ds, _, _, h, k => by
    cases h with
    | cons h1 h2 =>
      cases k with
      | cons k1 k2 => rw [Dx.one d _ _ h1 k1, DxKv.one ds _ _ h2 k2]
end
/-- a value that repr can show, of bounded size -/
def Wl (n k : Nat) (F : Hp) (x : V) : Prop := ∃ d, Dx F x d ∧ Gx n k d ∧ small d = true
theorem Wl.more {n k : Nat} {F F' : Hp} {x : V} (s : Same F F') (h : Wl n k F x) : Wl n k F' x := by
  obtain ⟨d, h1, h2⟩ := h
  exact ⟨d, Dx.stays (stays_of s) d x h1, h2⟩
theorem Wl.mono {n k n' k' : Nat} {F : Hp} {x : V} (h : Wl n k F x) (hn : n ≤ n' := by decide) (hk : k ≤ k' := by decide) : Wl n' k' F x := by
  obtain ⟨d, h1, h2, h3⟩ := h
  exact ⟨d, h1, h2.mono hn hk, h3⟩
theorem wl_lit {n k : Nat} {F : Hp} {x : V} {d : PyData} (h : Dx F x d) (g : d.shown.length ≤ n ∧ d.depth ≤ k ∧ d.showable = true ∧ small d = true) : Wl n k F x := ⟨d, h, ⟨g.1, g.2.1, g.2.2.1⟩, g.2.2.2⟩
theorem wl_str {F : Hp} {z : Str} {n k m : Nat} (a : Asc z) (l : z.length ≤ m) (hm : 10 * m + 2 ≤ n) (h2 : m ≤ 1000000 := by decide) : Wl n k F (.str z) := by
  refine ⟨.str z, .str z, (good_str (n := n) (k := k) a (by omega)).gx, ?_⟩
  show decide (z.length ≤ sizeLine) = true
  exact decide_eq_true (Nat.le_trans (Nat.le_trans l h2) (by decide))
theorem wl_non {F : Hp} {n k : Nat} (h : 5 ≤ n := by decide) : Wl n k F .non := ⟨.none, .non, (good_none (n := n) (k := k) (by omega)).gx, rfl⟩
theorem wl_bl {F : Hp} {n k : Nat} (b : Bool) (h : 5 ≤ n := by decide) : Wl n k F (.bl b) := ⟨.bool b, .bl b, (good_bool b (n := n) (k := k) (by omega)).gx, rfl⟩
theorem wls_all {n k : Nat} {F : Hp} : ∀ (xs : List V), (∀ x ∈ xs, Wl n k F x) → ∃ ds, DxAll F xs ds ∧ (∀ d ∈ ds, Gx n k d) ∧ (∀ d ∈ ds, small d = true) ∧ ds.length = xs.length
  | [], _ => ⟨[], .nil, fun d m => (nomatch m), fun d m => (nomatch m), rfl⟩
  | x :: r, h => by
    obtain ⟨ds, h1, h2, h3, h4⟩ := wls_all r fun y m => h y (List.mem_cons_of_mem _ m)
    obtain ⟨d, k1, k2, k3⟩ := h x List.mem_cons_self
    refine ⟨d :: ds, .cons k1 h1, fun y m => ?_, fun y m => ?_, by rw [List.length_cons, List.length_cons, h4]⟩
    · rcases List.mem_cons.mp m with rfl | m
      · exact k2
      · exact h2 y m
    · rcases List.mem_cons.mp m with rfl | m
      · exact k3
      · exact h3 y m
theorem wl_tup {n k m : Nat} {F : Hp} {p : Addr} {xs : List V} (e : F p = some (.tup xs)) (h : ∀ x ∈ xs, Wl n k F x) (l : Nat) (hl : xs.length ≤ l) (hm : (n + 2) * l + 2 ≤ m) (l2 : l ≤ 1000 := by decide) : Wl m (k + 1) F (.ref p) := by
  obtain ⟨ds, h1, h2, h3, h4⟩ := wls_all xs h
  have : (n + 2) * ds.length ≤ (n + 2) * l := Nat.mul_le_mul_left _ (by omega)
  refine ⟨.tuple ds, .tup e h1, gx_tup h2 (by omega), ?_⟩
  simp only [small, smallAll_mem h3, Bool.and_true]
  exact decide_eq_true (by omega)
theorem wl_lst {n k m : Nat} {F : Hp} {p : Addr} {xs : List V} (e : F p = some (.lst xs)) (h : ∀ x ∈ xs, Wl n k F x) (l : Nat) (hl : xs.length ≤ l) (hm : (n + 2) * l + 2 ≤ m) (l2 : l ≤ 1000 := by decide) : Wl m (k + 1) F (.ref p) := by
  obtain ⟨ds, h1, h2, h3, h4⟩ := wls_all xs h
  have : (n + 2) * ds.length ≤ (n + 2) * l := Nat.mul_le_mul_left _ (by omega)
  refine ⟨.list ds, .lst e h1, gx_list h2 (by omega), ?_⟩
  simp only [small, smallAll_mem h3, Bool.and_true]
  exact decide_eq_true (by omega)
theorem wl_int {F : Hp} {i : Int} {n k : Nat} (h : i.natAbs < 2 ^ 200) (hn : 2000 ≤ n := by decide) : Wl n k F (.int i) := by
  refine ⟨.int i, .int i, (good_int (n := n) (k := k) ?_ (by omega)).gx, rfl⟩
  by_cases h0 : i.natAbs = 0
  · rw [h0]
    decide
  · exact Nat.lt_of_lt_of_le ((Nat.log2_lt h0).mpr h) (by decide)
end Cu

namespace Cu
open PySem PySem.Spec PyProof.Rows L2
/-! ### the items of a law, so far: F holds what they are made of -/
abbrev Itw (F : Hp) (x : V) : Prop := Wl 15000000 50 F x
structure Itl (ps : List Addr) (it : Addr) (xs : List V) (F H : Hp) : Prop where
  sub : Same F H
  np : ∀ p ∈ ps, F p = none
  n3 : F it = none
  at_ : H it = some (.lst xs)
  ok : ∀ x ∈ xs, Itw F x
  tb : ∀ p ∈ ps, GxR.TabG H p
theorem Itl.mk_ {ps : List Addr} {it a : Addr} {xs : List V} {F H F' H' : Hp} (h : Itl ps it xs F H) (m : Mk a F H F' H') (na : it ≠ a) (np : ∀ p ∈ ps, p ≠ a) : Itl ps it xs F' H' := by
  refine ⟨m.sub, fun p hp => ?_, m.fresh _ _ h.at_ h.n3, m.upto _ _ na h.at_, fun x y => (h.ok x y).more m.mono, fun p hp => tb_upto m.upto (np p hp) (h.tb p hp)⟩
  obtain ⟨qs, e, _⟩ := h.tb p hp
  exact m.fresh _ _ e (h.np p hp)
theorem Itl.same {ps : List Addr} {it : Addr} {xs : List V} {F H H' : Hp} (h : Itl ps it xs F H) (s : Same H H') : Itl ps it xs F H' :=
  ⟨h.sub.trans s, h.np, h.n3, s _ _ h.at_, h.ok, fun p hp => tb_same s (h.tb p hp)⟩
theorem Itl.put {ps : List Addr} {it D : Addr} {xs : List V} {F H : Hp} {o : HO} (h : Itl ps it xs F H) (fD : F D = none) (a1 : it ≠ D) (a2 : ∀ p ∈ ps, p ≠ D) : Itl ps it xs F (upd H D o) :=
  ⟨same_put h.sub fD, h.np, h.n3, (upd_ne a1).trans h.at_, h.ok, fun p hp => tb_at (upd_ne (a2 p hp)) (h.tb p hp)⟩
theorem Itl.ne {ps : List Addr} {it : Addr} {xs : List V} {F H : Hp} (h : Itl ps it xs F H) : ∀ p ∈ ps, p ≠ it := fun p hp => tb_ne (h.tb p hp) h.at_ (fun qs z => (nomatch z))
theorem Itl.grow {ps : List Addr} {it : Addr} {xs ys : List V} {F H : Hp} (h : Itl ps it xs F H) (ok : ∀ y ∈ ys, Itw F y) : Itl ps it (xs ++ ys) F (upd H it (.lst (xs ++ ys))) := by
  refine ⟨same_put h.sub h.n3, h.np, h.n3, upd_same, fun x m => ?_, fun p hp => tb_at (upd_ne (h.ne p hp)) (h.tb p hp)⟩
  rcases List.mem_append.mp m with m | m
  · exact h.ok x m
  · exact ok x m
theorem Itl.tabs {ps : List Addr} {it : Addr} {xs : List V} {F H H' : Hp} (h : Itl ps it xs F H) (t : Tbs ps H H') : Itl ps it xs F H' := by
  refine ⟨fun b o e => t.keep b o (fun z => ?_) (h.sub b o e), h.np, h.n3, t.keep _ _ (fun z => h.ne it z rfl) h.at_, h.ok, t.tab⟩
  rw [h.np b z] at e
  cases e
/-! ### literals, with their data -/
structure Lit (F0 H0 : Hp) (ps : List Addr) (kn : List (V × PyData)) (F H : Hp) : Prop where
  bs : Same H0 H
  mo : Same F0 F
  sub : Same F H
  np : ∀ p ∈ ps, F p = none
  ok : ∀ q ∈ kn, Dx F q.1 q.2
  tb : ∀ p ∈ ps, GxR.TabG H p
inductive Oks (kn : List (V × PyData)) : List (V × PyData) → Prop
  | nil : Oks kn []
  | s (z : Str) {ys : List (V × PyData)} (t : Oks kn ys) : Oks kn ((.str z, .str z) :: ys)
  | i (z : Int) {ys : List (V × PyData)} (t : Oks kn ys) : Oks kn ((.int z, .int z) :: ys)
  | b (z : Bool) {ys : List (V × PyData)} (t : Oks kn ys) : Oks kn ((.bl z, .bool z) :: ys)
  | n {ys : List (V × PyData)} (t : Oks kn ys) : Oks kn ((.non, .none) :: ys)
  | k (j : Nat) {q : V × PyData} {ys : List (V × PyData)} (h : kn[j]? = some q) (t : Oks kn ys) : Oks kn (q :: ys)
theorem Oks.mem {kn : List (V × PyData)} {F : Hp} (ok : ∀ q ∈ kn, Dx F q.1 q.2) : ∀ {ys : List (V × PyData)}, Oks kn ys → ∀ q ∈ ys, Dx F q.1 q.2
  | _, .nil, q, m => nomatch m
  | _, .s z t, q, m => by
    rcases List.mem_cons.mp m with rfl | m
    · exact .str z
    · exact Oks.mem ok t q m
  | _, .i z t, q, m => by
    rcases List.mem_cons.mp m with rfl | m
    · exact .int z
    · exact Oks.mem ok t q m
  | _, .b z t, q, m => by
    rcases List.mem_cons.mp m with rfl | m
    · exact .bl z
    · exact Oks.mem ok t q m
  | _, .n t, q, m => by
    rcases List.mem_cons.mp m with rfl | m
    · exact .non
    · exact Oks.mem ok t q m
  | _, .k j h t, q, m => by
    rcases List.mem_cons.mp m with rfl | m
    · exact ok _ (List.mem_of_getElem? h)
    · exact Oks.mem ok t q m
theorem dxAll_mem {F : Hp} : ∀ {ys : List (V × PyData)}, (∀ q ∈ ys, Dx F q.1 q.2) → DxAll F (ys.map Prod.fst) (ys.map Prod.snd)
  | [], _ => .nil
  | q :: ys, h => .cons (h q List.mem_cons_self) (dxAll_mem fun p m => h p (List.mem_cons_of_mem _ m))
theorem Lit.new {F0 H0 : Hp} {ps : List Addr} {kn : List (V × PyData)} {F H : Hp} {p : Addr} (c : Lit F0 H0 ps kn F H) (o : HO) (d : PyData) (n : H p = none) (h : (∀ q ∈ kn, Dx (upd F p o) q.1 q.2) → Dx (upd F p o) (.ref p) d) : Lit F0 H0 ps ((.ref p, d) :: kn) (upd F p o) (upd H p o) := by
  have fp := c.sub.free n
  have kp : ∀ q ∈ kn, Dx (upd F p o) q.1 q.2 := fun q m => Dx.stays (stays_of (same_upd fp)) _ _ (c.ok q m)
  refine ⟨c.bs.trans (same_upd n), c.mo.trans (same_upd fp), same_both c.sub n, fun r hr => ?_, fun q m => ?_, fun r hr => tb_same (same_upd n) (c.tb r hr)⟩
  · rw [upd_ne (tb_free (c.tb r hr) n)]
    exact c.np r hr
  · rcases List.mem_cons.mp m with rfl | m
    · exact h kp
    · exact kp q m
theorem Lit.tup {F0 H0 : Hp} {ps : List Addr} {kn : List (V × PyData)} {F H : Hp} {p : Addr} (c : Lit F0 H0 ps kn F H) (n : H p = none) {ys : List (V × PyData)} (h : Oks kn ys) : Lit F0 H0 ps ((.ref p, .tuple (ys.map Prod.snd)) :: kn) (upd F p (.tup (ys.map Prod.fst))) (upd H p (.tup (ys.map Prod.fst))) :=
  c.new _ _ n fun k => .tup upd_same (dxAll_mem (h.mem k))
theorem Lit.lst {F0 H0 : Hp} {ps : List Addr} {kn : List (V × PyData)} {F H : Hp} {p : Addr} (c : Lit F0 H0 ps kn F H) (n : H p = none) {ys : List (V × PyData)} (h : Oks kn ys) : Lit F0 H0 ps ((.ref p, .list (ys.map Prod.snd)) :: kn) (upd F p (.lst (ys.map Prod.fst))) (upd H p (.lst (ys.map Prod.fst))) :=
  c.new _ _ n fun k => .lst upd_same (dxAll_mem (h.mem k))
theorem Lit.dct {F0 H0 : Hp} {ps : List Addr} {kn : List (V × PyData)} {F H : Hp} {p : Addr} (c : Lit F0 H0 ps kn F H) (n : H p = none) : Lit F0 H0 ps ((.ref p, .dict []) :: kn) (upd F p (.dK [])) (upd H p (.dK [])) :=
  c.new _ _ n fun _ => .dct upd_same .nil
theorem lit0 {H : Hp} {ps : List Addr} (tb : ∀ p ∈ ps, GxR.TabG H p) : Lit (fun _ => none) H ps [] (fun _ => none) H := ⟨Same.refl _, Same.refl _, fun b o e => (nomatch e), fun _ _ => rfl, fun q m => (nomatch m), tb⟩
def goodD (n k : Nat) (d : PyData) : Bool := decide (d.shown.length ≤ n) && (decide (d.depth ≤ k) && (d.showable && small d))
theorem wl_good {n k : Nat} {F : Hp} {x : V} {d : PyData} (h : Dx F x d) (g : goodD n k d = true) : Wl n k F x := by
  unfold goodD at g
  rw [Bool.and_eq_true, Bool.and_eq_true, Bool.and_eq_true] at g
  exact ⟨d, h, ⟨of_decide_eq_true g.1, of_decide_eq_true g.2.1, g.2.2.1⟩, g.2.2.2⟩
theorem good_mem {n k : Nat} : ∀ {zs : List (V × PyData)} {ds : List PyData}, zs.map Prod.snd = ds → ds.all (goodD n k) = true → ∀ q ∈ zs, goodD n k q.2 = true := by
  rintro zs ds rfl h q m
  exact List.all_eq_true.mp h _ (List.mem_map_of_mem m)
theorem Lit.wls {F0 H0 : Hp} {ps : List Addr} {kn : List (V × PyData)} {F H : Hp} (c : Lit F0 H0 ps kn F H) {n k : Nat} {zs : List (V × PyData)} (h : Oks kn zs) {ds : List PyData} (e : zs.map Prod.snd = ds) (g : ds.all (goodD n k) = true) : ∀ x ∈ zs.map Prod.fst, Wl n k F x := by
  intro x m
  obtain ⟨q, mq, rfl⟩ := List.mem_map.mp m
  exact wl_good (h.mem c.ok q mq) (good_mem e g q mq)
theorem Lit.fin {F0 H0 : Hp} {ps : List Addr} {kn : List (V × PyData)} {F H : Hp} {l : Addr} (c : Lit F0 H0 ps kn F H) (n : H l = none) {zs : List (V × PyData)} (h : Oks kn zs) {ds : List PyData} (e : zs.map Prod.snd = ds) (g : ds.all (goodD 15000000 50) = true) : Itl ps l (zs.map Prod.fst) F (upd H l (.lst (zs.map Prod.fst))) :=
  ⟨c.sub.trans (same_upd n), c.np, c.sub.free n, upd_same, c.wls h e g, fun p hp => tb_same (same_upd n) (c.tb p hp)⟩
/-! ### made beside the hand, the hand as it was -/
structure Mq (a : Addr) (F H F' H' : Hp) : Prop where
  md : Mk a F H F' H'
  same : Same H H'
theorem Mq.trans {a : Addr} {F H F1 H1 F2 H2 : Hp} (x : Mq a F H F1 H1) (y : Mq a F1 H1 F2 H2) : Mq a F H F2 H2 := ⟨x.md.trans y.md, x.same.trans y.same⟩
theorem Mq.new {a p : Addr} {F H : Hp} (o : HO) (s : Same F H) (l : ∃ o, H a = some o) (n : H p = none) : Mq a F H (upd F p o) (upd H p o) := ⟨.new o s l n, same_upd n⟩
theorem Mq.refl {a : Addr} {F H : Hp} (s : Same F H) (l : ∃ o, H a = some o) : Mq a F H F H := ⟨.refl s l, Same.refl _⟩
/-- values made so far, each of at most the size n, k -/
structure Kn (n k : Nat) (a : Addr) (F0 H0 : Hp) (xs : List V) (F H : Hp) : Prop where
  mq : Mq a F0 H0 F H
  ok : ∀ x ∈ xs, Wl n k F x
theorem Kn.zero {n k : Nat} {a : Addr} {F H : Hp} (s : Same F H) (l : ∃ o, H a = some o) : Kn n k a F H [] F H := ⟨.refl s l, fun x m => (nomatch m)⟩
theorem Kn.add {n k : Nat} {a : Addr} {F0 H0 F H : Hp} {xs : List V} (c : Kn n k a F0 H0 xs F H) {x : V} (h : Wl n k F x) : Kn n k a F0 H0 (x :: xs) F H := ⟨c.mq, fun y m => by
  rcases List.mem_cons.mp m with rfl | m
  · exact h
  · exact c.ok y m⟩
theorem Kn.go {n k : Nat} {a : Addr} {F0 H0 F H F' H' : Hp} {xs : List V} (c : Kn n k a F0 H0 xs F H) (m : Mq a F H F' H') : Kn n k a F0 H0 xs F' H' := ⟨c.mq.trans m, fun y my => (c.ok y my).more m.md.mono⟩
theorem Kn.new {n k : Nat} {a p : Addr} {F0 H0 F H : Hp} {xs : List V} (c : Kn n k a F0 H0 xs F H) (o : HO) (np : H p = none) (h : ∀ G, Same F G → G p = some o → Wl n k G (.ref p)) : Kn n k a F0 H0 (.ref p :: xs) (upd F p o) (upd H p o) :=
  (c.go (.new o c.mq.md.sub c.mq.md.live np)).add (h _ (same_upd (c.mq.md.sub.free np)) upd_same)
theorem Kn.at_ {n k : Nat} {a : Addr} {F0 H0 F H : Hp} {xs : List V} (c : Kn n k a F0 H0 xs F H) {x : V} (j : Nat) (h : xs[j]? = some x) : Wl n k F x := c.ok x (List.mem_of_getElem? h)
end Cu

namespace Cu
open PySem PySem.Spec PyProof.Rows L2
/-! ### dicts by pairs; data that can be compared -/
theorem putK_mem {P : Key → Prop} {Q : V → Prop} {acc : List (Key × V)} {k : Key} {v : V} (h : ∀ kv ∈ acc, P kv.1 ∧ Q kv.2) (hk : P k) (hv : Q v) : ∀ kv ∈ putK acc k v, P kv.1 ∧ Q kv.2 := by
  intro kv m
  unfold putK at m
  split at m
  · obtain ⟨x, mx, rfl⟩ := List.mem_map.mp m
    by_cases z : x.1 = k
    · rw [if_pos z]
      exact ⟨(h x mx).1, hv⟩
    · rw [if_neg z]
      exact h x mx
  · rcases List.mem_append.mp m with m | m
    · exact h kv m
    · rw [List.mem_singleton.mp m]
      exact ⟨hk, hv⟩
theorem mergeK_mem {P : Key → Prop} {Q : V → Prop} : ∀ {more acc : List (Key × V)}, (∀ kv ∈ acc, P kv.1 ∧ Q kv.2) → (∀ kv ∈ more, P kv.1 ∧ Q kv.2) → ∀ kv ∈ mergeK acc more, P kv.1 ∧ Q kv.2
  | [], _, h, _ => h
  | x :: r, acc, h, g => mergeK_mem (more := r) (acc := putK acc x.1 x.2) (putK_mem h (g x List.mem_cons_self).1 (g x List.mem_cons_self).2) fun kv m => g kv (List.mem_cons_of_mem _ m)
def NameK (k : Key) : Prop := ∃ z, k = .inr z ∧ Asc z ∧ z.length ≤ 8
theorem dct_all {n k : Nat} {F : Hp} : ∀ (kvs : List (Key × V)), (∀ kv ∈ kvs, NameK kv.1 ∧ Wl n k F kv.2) →
    ∃ ds, DxKv F kvs ds ∧ ((PyData.shownKv ds).map (·.length)).sum ≤ (n + 90) * kvs.length ∧ PyData.depthKv ds ≤ k ∧ PyData.showableKv ds = true ∧ smallKv ds = true ∧ ds.length = kvs.length
  | [], _ => ⟨[], .nil, by simp [PyData.shownKv], by simp [PyData.depthKv], by simp [PyData.showableKv], by simp [smallKv], rfl⟩
  | (key, v) :: r, h => by
    obtain ⟨ds, h1, h2, h3, h4, h5, h6⟩ := dct_all r fun y m => h y (List.mem_cons_of_mem _ m)
    obtain ⟨⟨z, ez, az, lz⟩, d, dx, g, sm⟩ := h _ List.mem_cons_self
    have ez' : key = .inr z := ez
    subst ez'
    have gz := good_str (n := 82) (k := 0) az (by omega)
    have lz2 := gz.len
    have ld := g.len
    have lt : ((PyData.str z).shown ++ ": " ++ d.shown).length = (PyData.str z).shown.length + 2 + d.shown.length := by
      rw [strLen_append, strLen_append]
      rfl
    refine ⟨(.str z, d) :: ds, .cons (k := .inr z) dx h1, ?_, ?_, ?_, ?_, by rw [List.length_cons, List.length_cons, h6]⟩
    · simp only [PyData.shownKv, List.map_cons, List.sum_cons, List.length_cons, Nat.mul_succ]
      rw [lt]
      omega
    · have := g.dep
      have e0 : (PyData.str z).depth = 0 := by simp [PyData.depth]
      simp only [PyData.depthKv, e0]
      omega
    · have e0 : (PyData.str z).showable = true := by simp [PyData.showable]
      simp only [PyData.showableKv, e0, g.show_, h4, Bool.and_self]
    · simp only [smallKv, sm, h5, Bool.and_self]
theorem wl_dct {n k m : Nat} {F : Hp} {p : Addr} {kvs : List (Key × V)} (e : F p = some (.dK kvs)) (h : ∀ kv ∈ kvs, NameK kv.1 ∧ Wl n k F kv.2) (l : Nat) (hl : kvs.length ≤ l) (hm : (n + 92) * l + 3 ≤ m) : Wl m (k + 1) F (.ref p) := by
  obtain ⟨ds, h1, h2, h3, h4, h5, h6⟩ := dct_all kvs h
  have t := dictText_len_le (PyData.shownKv ds)
  rw [PyData.shownKv_length, h6] at t
  have : (n + 90) * kvs.length + 2 * kvs.length ≤ (n + 92) * l := by
    rw [← Nat.add_mul]
    exact Nat.mul_le_mul_left _ hl
  refine ⟨.dict ds, .dct e h1, ⟨?_, ?_, ?_⟩, ?_⟩
  · simp only [PyData.shown]
    omega
  · simp only [PyData.depth]
    omega
  · simp only [PyData.showable]
    exact h4
  · simp only [small]
    exact h5
mutual
theorem dp_dx {K : PySem.W.Frag} {H : Hp} : ∀ (d : PyData) (v : V), Dx H v d → d.canLay0 = true → Dp K H v d
  | .none, _, h, _ => by
    cases h
    exact .non
  | .bool b, _, h, _ => by
    cases h
    exact .bl b
  | .int i, _, h, _ => by
    cases h
    exact .int i
  | .str x, _, h, _ => by
    cases h
    exact .str x
  | .list ds, _, h, c => by
    cases h with
    | lst e k => exact .lst (SqL.of e) (dpAll_dx ds _ k (by simpa [PyData.canLay0] using c))
  | .tuple ds, _, h, c => by
    cases h with
    | tup e k => exact .tup (SqT.of e) (dpAll_dx ds _ k (by simpa [PyData.canLay0] using c))
  | .dict _, _, _, c => by simp [PyData.canLay0] at c
theorem dpAll_dx {K : PySem.W.Frag} {H : Hp} : ∀ (ds : List PyData) (vs : List V), DxAll H vs ds → PyData.canLayAll0 ds = true → DpAll K H vs ds
  | [], _, h, _ => by
    cases h
    exact .nil
  | d :: ds, _, h, c => by
    have c' : d.canLay0 = true ∧ PyData.canLayAll0 ds = true := by simpa [PyData.canLayAll0] using c
    cases h with
    | cons h t => exact .cons (dp_dx d _ h c'.1) (dpAll_dx ds _ t c'.2)
end
/-- a value that can be compared, of depth at most k -/
def Cp (k : Nat) (F : Hp) (x : V) : Prop := ∃ d, Dx F x d ∧ d.canLay0 = true ∧ d.depth ≤ k
theorem cp_all {k : Nat} {F : Hp} : ∀ (xs : List V), (∀ x ∈ xs, Cp k F x) → ∃ ds, DxAll F xs ds ∧ PyData.canLayAll0 ds = true ∧ PyData.depthAll ds ≤ k
  | [], _ => ⟨[], .nil, by simp [PyData.canLayAll0], by simp [PyData.depthAll]⟩
  | x :: r, h => by
    obtain ⟨ds, h1, h2, h3⟩ := cp_all r fun y m => h y (List.mem_cons_of_mem _ m)
    obtain ⟨d, k1, k2, k3⟩ := h x List.mem_cons_self
    refine ⟨d :: ds, .cons k1 h1, by simp only [PyData.canLayAll0, k2, h2, Bool.and_self], ?_⟩
    simp only [PyData.depthAll]
    omega
theorem cp_tup {k : Nat} {F : Hp} {p : Addr} {xs : List V} (e : F p = some (.tup xs)) (h : ∀ x ∈ xs, Cp k F x) : Cp (k + 1) F (.ref p) := by
  obtain ⟨ds, h1, h2, h3⟩ := cp_all xs h
  refine ⟨.tuple ds, .tup e h1, by simpa only [PyData.canLay0] using h2, ?_⟩
  simp only [PyData.depth]
  omega
theorem cp_str {k : Nat} {F : Hp} {z : Str} (a : Asc z) : Cp k F (.str z) := by
  refine ⟨.str z, .str z, ?_, by simp [PyData.depth]⟩
  have : PyData.strOk z = true := by
    unfold PyData.strOk
    rw [Array.all_eq_true_iff_forall_mem]
    intro c m
    exact decide_eq_true (Nat.lt_trans (a c (Array.mem_toList_iff.mpr m)) (by decide))
  simpa only [PyData.canLay0] using this
theorem cp_int {k : Nat} {F : Hp} {i : Int} : Cp k F (.int i) := ⟨.int i, .int i, by simp [PyData.canLay0], by simp [PyData.depth]⟩
theorem Cp.more {k : Nat} {F F' : Hp} {x : V} (s : Same F F') (h : Cp k F x) : Cp k F' x := by
  obtain ⟨d, h1, h2⟩ := h
  exact ⟨d, Dx.stays (stays_of s) d x h1, h2⟩
/-- x != () of a tuple -/
theorem ne_nil {K : PySem.W.Frag} {F H : Hp} {t p : Addr} {xs : List V} {k : Nat} (s : Same F H) (e : F t = some (.tup xs)) (h : ∀ x ∈ xs, Cp k F x) (hk : k ≤ 50) (ep : H p = some (.tup [])) {Q : VK} (q : Q (.bl (!decide (xs = []))) H) : rNeD K (.ref t) (.ref p) H Q := by
  obtain ⟨ds, h1, h2, h3⟩ := cp_all xs h
  have dx : Dx H (.ref t) (.tuple ds) := Dx.stays (stays_of s) _ _ (.tup e h1)
  refine ⟨.tuple ds, .tuple [], dp_dx _ _ dx (by simpa only [PyData.canLay0] using h2), .tup (SqT.of ep) .nil, ?_, by decide +kernel, ?_⟩
  · unfold SeqAt.shaped
    rw [Bool.and_eq_true]
    refine ⟨by simpa only [PyData.canLay0] using h2, decide_eq_true ?_⟩
    simp only [PyData.depth]
    omega
  · have : PyData.eqv (.tuple ds) (.tuple []) = decide (xs = []) := by
      cases h1 with
      | nil => simp [PyData.eqv, PyData.eqvAll]
      | cons _ _ => simp [PyData.eqv, PyData.eqvAll]
    rw [this]
    exact q
end Cu

namespace Cu
open PySem PySem.Spec PyProof.Rows L2
def nameS (z : Str) : Bool := decide (1 ≤ z.length) && decide (z.length ≤ 8) && (tl z).all (between "a" "z")
def nameB : V → Bool
  | .str z => nameS z
  | _ => false
def Thing (K : PySem.W.Frag) (H : Hp) (x : V) : Prop := (∃ z : Str, x = .str z ∧ z.length ≤ sizeLine) ∨ ((∀ z, x ≠ .str z) ∧ ∃ t, TyX K H x t ∧ PySem.W.kitOne K t (.type "str") = some false)
abbrev sIsName : Stmt := topS 3
abbrev sAsc : Stmt := topS 6
abbrev sLawName : Stmt := topS 17
theorem scN : FnScope ["thing"] ["thing"] (defScope sIsName) := ⟨rfl, rfl, rfl, by decide +kernel, rfl, by decide +kernel, by decide +kernel⟩
theorem scLN : FnScope ["_law_thing", "_law_character"] ["_law_thing"] (defScope sLawName) := ⟨rfl, rfl, rfl, by decide +kernel, rfl, by decide +kernel, by decide +kernel⟩
theorem between_az (c : Nat) : between "a" "z" c = decide (c ∈ (Str.ofString "abcdefghijklmnopqrstuvwxyz").cps.toList) := by
  have e1 : (Str.ofString "a").cps.toList = [97] := by decide +kernel
  have e2 : (Str.ofString "z").cps.toList = [122] := by decide +kernel
  have e3 : (Str.ofString "abcdefghijklmnopqrstuvwxyz").cps.toList = [97, 98, 99, 100, 101, 102, 103, 104, 105, 106, 107, 108, 109, 110, 111, 112, 113, 114, 115, 116, 117, 118, 119, 120, 121, 122] := by decide +kernel
  unfold between
  rw [e1, e2, e3, one_lt, one_lt, Bool.eq_iff_iff]
  simp only [Bool.and_eq_true, Bool.not_eq_true', decide_eq_false_iff_not, decide_eq_true_eq, List.mem_cons, List.not_mem_nil, or_false]
  omega
theorem thing_of {K : PySem.W.Frag} {H : Hp} {x : V} {d : PyData} (h : Dx H x d) (l : ∀ z, x = .str z → z.length ≤ sizeLine) : Thing K H x := by
  cases h with
  | str z => exact .inl ⟨z, rfl, l z rfl⟩
  | non => exact .inr ⟨fun z e => (nomatch e), _, .base .non, kit_ty (by decide +kernel)⟩
  | bl b => exact .inr ⟨fun z e => (nomatch e), _, .base (.bl b), kit_ty (by decide +kernel)⟩
  | int i => exact .inr ⟨fun z e => (nomatch e), _, .base (.int i), kit_ty (by decide +kernel)⟩
  | lst e _ => exact .inr ⟨fun z e => (nomatch e), _, .base (.lst e), kit_ty (by decide +kernel)⟩
  | tup e _ => exact .inr ⟨fun z e => (nomatch e), _, .base (.tup e), kit_ty (by decide +kernel)⟩
  | dct e _ => exact .inr ⟨fun z e => (nomatch e), _, .base (.dK e), kit_ty (by decide +kernel)⟩
def nameD : PyData → Bool
  | .str z => nameS z
  | _ => false
def tyN : PyData → String
  | .none => "NoneType"
  | .bool _ => "bool"
  | .int _ => "int"
  | .str _ => "str"
  | .list _ => "list"
  | .tuple _ => "tuple"
  | .dict _ => "dict"
theorem ty_of {K : PySem.W.Frag} {H : Hp} {x : V} {d : PyData} (h : Dx H x d) : TyX K H x (.type (tyN d)) := by
  cases h with
  | str z => exact .base (.str z)
  | non => exact .base .non
  | bl b => exact .base (.bl b)
  | int i => exact .base (.int i)
  | lst e _ => exact .base (.lst e)
  | tup e _ => exact .base (.tup e)
  | dct e _ => exact .base (.dK e)
def isTupD : PyData → Bool
  | .tuple _ => true
  | _ => false
theorem kit_tup {K : PySem.W.Frag} (d : PyData) : PySem.W.kitOne K (.type (tyN d)) (.type "tuple") = some (isTupD d) := by
  cases d with
  | none => exact kit_ty (show kitB "NoneType" "tuple" = some false by decide +kernel)
  | bool _ => exact kit_ty (show kitB "bool" "tuple" = some false by decide +kernel)
  | int _ => exact kit_ty (show kitB "int" "tuple" = some false by decide +kernel)
  | str _ => exact kit_ty (show kitB "str" "tuple" = some false by decide +kernel)
  | list _ => exact kit_ty (show kitB "list" "tuple" = some false by decide +kernel)
  | tuple _ => exact kit_ty (show kitB "tuple" "tuple" = some true by decide +kernel)
  | dict _ => exact kit_ty (show kitB "dict" "tuple" = some false by decide +kernel)
theorem nameB_D {H : Hp} {x : V} {d : PyData} (h : Dx H x d) : nameB x = nameD d := by cases h <;> rfl
theorem dx_get {H : Hp} : ∀ {xs : List V} {ds : List PyData} {i : Nat} {d : PyData}, DxAll H xs ds → ds[i]? = some d → ∃ x, xs[i]? = some x ∧ Dx H x d
  | _, _, _, _, .nil, e => by cases e
  | _, _, 0, _, .cons h _, e => by
    cases Option.some.inj e
    exact ⟨_, rfl, h⟩
  | _, _, i + 1, _, .cons _ t, e => dx_get (i := i) t e
theorem dx_len {H : Hp} : ∀ {xs : List V} {ds : List PyData}, DxAll H xs ds → xs.length = ds.length
  | _, _, .nil => rfl
  | _, _, .cons _ t => by rw [List.length_cons, List.length_cons, dx_len t]
theorem scAs : FnScope ["names", "at"] ["names"] (defScope sAsc) := ⟨rfl, rfl, rfl, by decide +kernel, rfl, by decide +kernel, by decide +kernel⟩
def lessAt (zs : List Str) (i : Nat) : Bool := match zs[i]?, zs[i + 1]? with
  | some a, some b => decide (tl a < tl b)
  | _, _ => false
def ascL (zs : List Str) : Bool := (List.range (zs.length - 1)).all (lessAt zs)
def SqA (K : PySem.W.Frag) (H : Hp) (l : Addr) (xs : List V) : Prop := SqL K H l xs ∨ SqT K H l xs
theorem SqA.at_ {K : PySem.W.Frag} {H H' : Hp} {l : Addr} {xs : List V} (h : SqA K H l xs) (e : H' l = H l) : SqA K H' l xs := by
  rcases h with h | h
  · left
    unfold SqL Rd at *
    rw [e]
    exact h
  · right
    unfold SqT Rd at *
    rw [e]
    exact h
theorem ixA {K : PySem.W.Frag} {H : Hp} {l : Addr} {xs : List V} {i : Int} {v : V} {Q : VK} (h : SqA K H l xs) (e : atI xs i = some v) (q : Q v H) : rIx K (.ref l) (.int i) H Q := by
  rcases h with h | h
  · exact .inl ⟨l, xs, i, v, rfl, rfl, h, e, q⟩
  · exact .inr (.inl ⟨l, xs, i, v, rfl, rfl, h, e, q⟩)
theorem less_at {zs : List Str} {i : Nat} {a b : Str} (h1 : zs[i]? = some a) (h2 : zs[i + 1]? = some b) : lessAt zs i = decide (tl a < tl b) := by
  unfold lessAt
  rw [h1, h2]
def LtS (a b : Str) : Prop := tl a < tl b
theorem ltS_irr (a : Str) : ¬ LtS a a := List.lt_irrefl _
theorem ltS_trans {a b c : Str} (h1 : LtS a b) (h2 : LtS b c) : LtS a c := List.lt_trans h1 h2
theorem ltS_of {a b : Str} (h1 : ¬ LtS b a) (h2 : a ≠ b) : LtS a b := by
  unfold LtS at *
  rcases Decidable.em (tl a < tl b) with h | h
  · exact h
  · exact absurd (ext_t (List.le_antisymm (List.not_lt.mp h1) (List.not_lt.mp h))) h2
theorem asc_eq : ∀ {A B : List Str}, A.Pairwise LtS → B.Pairwise LtS → (∀ k, k ∈ A ↔ k ∈ B) → A = B
  | [], [], _, _, _ => rfl
  | [], b :: _, _, _, h => nomatch (h b).mpr List.mem_cons_self
  | a :: _, [], _, _, h => nomatch (h a).mp List.mem_cons_self
  | a :: A, b :: B, hA, hB, h => by
    obtain ⟨a1, a2⟩ := List.pairwise_cons.mp hA
    obtain ⟨b1, b2⟩ := List.pairwise_cons.mp hB
    have ab : a = b := by
      rcases List.mem_cons.mp ((h a).mp List.mem_cons_self) with e | e
      · exact e
      · rcases List.mem_cons.mp ((h b).mpr List.mem_cons_self) with e' | e'
        · exact e'.symm
        · exact absurd (ltS_trans (a1 b e') (b1 a e)) (ltS_irr a)
    subst ab
    rw [asc_eq a2 b2 fun k => ?_]
    constructor
    · intro m
      rcases List.mem_cons.mp ((h k).mp (List.mem_cons_of_mem _ m)) with e | e
      · rw [e] at m
        exact absurd (a1 a m) (ltS_irr a)
      · exact e
    · intro m
      rcases List.mem_cons.mp ((h k).mpr (List.mem_cons_of_mem _ m)) with e | e
      · rw [e] at m
        exact absurd (b1 a m) (ltS_irr a)
      · exact e
theorem ascL_iff : ∀ (zs : List Str), ascL zs = true ↔ ∀ i, ∀ a b, zs[i]? = some a → zs[i + 1]? = some b → LtS a b := by
  intro zs
  unfold ascL
  rw [List.all_eq_true]
  constructor
  · intro h i a b h1 h2
    have hi : i + 1 < zs.length := (List.getElem?_eq_some_iff.mp h2).1
    have := h i (List.mem_range.mpr (by omega))
    rw [less_at h1 h2] at this
    show tl a < tl b
    exact of_decide_eq_true this
  · intro h i m
    have hi := List.mem_range.mp m
    have l1 : i < zs.length := by omega
    have l2 : i + 1 < zs.length := by omega
    rw [less_at (List.getElem?_eq_getElem l1) (List.getElem?_eq_getElem l2)]
    exact decide_eq_true (show tl _ < tl _ from h i _ _ (List.getElem?_eq_getElem l1) (List.getElem?_eq_getElem l2))
theorem asc_pair : ∀ (zs : List Str), (∀ i a b, zs[i]? = some a → zs[i + 1]? = some b → LtS a b) → zs.Pairwise LtS
  | [], _ => .nil
  | [a], _ => List.pairwise_singleton _ _
  | a :: b :: r, h => by
    have ih := asc_pair (b :: r) fun i x y h1 h2 => h (i + 1) x y h1 h2
    refine List.pairwise_cons.mpr ⟨fun c m => ?_, ih⟩
    have ab : LtS a b := h 0 a b rfl rfl
    rcases List.mem_cons.mp m with e | e
    · rw [e]
      exact ab
    · exact ltS_trans ab ((List.pairwise_cons.mp ih).1 c e)
theorem rising_adj : ∀ (p : Str) (l : List Str), risingS p l = true → ∀ i a b, (p :: l)[i]? = some a → (p :: l)[i + 1]? = some b → ¬ LtS b a
  | p, [], _, i, a, b, _, h2 => by cases h2
  | p, x :: r, h, 0, a, b, h1, h2 => by
    cases h1
    cases h2
    have : (!ltCps x.cps.toList p.cps.toList && risingS x r) = true := h
    rw [Bool.and_eq_true, ltCps_eq] at this
    intro z
    have z' : x.cps.toList < p.cps.toList := z
    rw [decide_eq_true z'] at this
    cases this.1
  | p, x :: r, h, i + 1, a, b, h1, h2 => by
    have : (!ltCps x.cps.toList p.cps.toList && risingS x r) = true := h
    rw [Bool.and_eq_true] at this
    exact rising_adj x r this.2 i a b h1 h2
theorem sorted_asc {ys : List Str} (nd : ys.Nodup) (h : sortedS ys = true) : ys.Pairwise LtS := by
  apply asc_pair
  intro i a b h1 h2
  have nb : ¬ LtS b a := by
    cases ys with
    | nil => cases h1
    | cons p l => exact rising_adj p l h i a b h1 h2
  refine ltS_of nb fun e => ?_
  obtain ⟨l1, e1⟩ := List.getElem?_eq_some_iff.mp h1
  obtain ⟨l2, e2⟩ := List.getElem?_eq_some_iff.mp h2
  exact List.pairwise_iff_getElem.mp nd i (i + 1) l1 l2 (Nat.lt_succ_self i) (by rw [e1, e2, e])
theorem asc_same {zs ys : List Str} (nd : ys.Nodup) (h : sortedS ys = true) (m : ∀ k, k ∈ ys ↔ k ∈ zs) : decide (zs = ys) = ascL zs := by
  have sy := sorted_asc nd h
  cases e : ascL zs with
  | true => exact decide_eq_true (asc_eq (asc_pair zs ((ascL_iff zs).mp e)) sy fun k => (m k).symm)
  | false =>
    refine decide_eq_false fun z => ?_
    subst z
    have : ascL zs = true := (ascL_iff zs).mpr fun i a b h1 h2 => by
      obtain ⟨l1, e1⟩ := List.getElem?_eq_some_iff.mp h1
      obtain ⟨l2, e2⟩ := List.getElem?_eq_some_iff.mp h2
      rw [← e1, ← e2]
      exact List.pairwise_iff_getElem.mp sy i (i + 1) l1 l2 (Nat.lt_succ_self i)
    rw [e] at this
    cases this
theorem eqvAll_strs : ∀ (zs ys : List Str), PyData.eqvAll (zs.map PyData.str) (ys.map PyData.str) = decide (zs = ys)
  | [], [] => by simp [PyData.eqvAll]
  | [], _ :: _ => by simp [PyData.eqvAll]
  | _ :: _, [] => by simp [PyData.eqvAll]
  | a :: zs, b :: ys => by
    rw [List.map_cons, List.map_cons]
    show (PyData.eqv (.str a) (.str b) && PyData.eqvAll (zs.map PyData.str) (ys.map PyData.str)) = _
    rw [eqvAll_strs zs ys]
    have e : PyData.eqv (.str a) (.str b) = decide (a = b) := by
      rw [Bool.eq_iff_iff, decide_eq_true_iff]
      simp [PyData.eqv]
    rw [e, Bool.eq_iff_iff, Bool.and_eq_true, decide_eq_true_iff, decide_eq_true_iff, decide_eq_true_iff, List.cons.injEq]
theorem eqv_strs (zs ys : List Str) : PyData.eqv (.list (zs.map PyData.str)) (.list (ys.map PyData.str)) = decide (zs = ys) := by
  rw [← eqvAll_strs]
  simp [PyData.eqv]
theorem strOk_of {z : Str} (h : Asc z) : PyData.strOk z = true := by
  unfold PyData.strOk
  rw [Array.all_eq_true_iff_forall_mem]
  intro c m
  exact decide_eq_true (Nat.lt_trans (h c (Array.mem_toList_iff.mpr m)) (by decide))
theorem lay_strs : ∀ (zs : List Str), (∀ z ∈ zs, Asc z) → PyData.canLayAll0 (zs.map PyData.str) = true ∧ PyData.depthAll (zs.map PyData.str) ≤ 0
  | [], _ => ⟨rfl, by simp [PyData.depthAll]⟩
  | z :: zs, h => by
    obtain ⟨h1, h2⟩ := lay_strs zs fun y m => h y (List.mem_cons_of_mem _ m)
    have h3 := strOk_of (h z List.mem_cons_self)
    constructor
    · simp [PyData.canLay0, PyData.canLayAll0, h1, h3]
    · simp [PyData.depth, PyData.depthAll] at h2 ⊢
      exact h2
theorem shaped_strs {zs : List Str} (h : ∀ z ∈ zs, Asc z) : SeqAt.shaped (.list (zs.map PyData.str)) = true := by
  obtain ⟨h1, h2⟩ := lay_strs zs h
  unfold SeqAt.shaped
  rw [Bool.and_eq_true]
  refine ⟨by simpa [PyData.canLay0] using h1, decide_eq_true ?_⟩
  simp only [PyData.depth]
  omega
theorem dp_strs {K : PySem.W.Frag} {H : Hp} {l : Addr} {zs : List Str} (h : SqL K H l (zs.map V.str)) : Dp K H (.ref l) (.list (zs.map PyData.str)) := by
  refine .lst h ?_
  have : ∀ ys : List Str, DpAll K H (ys.map V.str) (ys.map PyData.str) := by
    intro ys
    induction ys with
    | nil => exact .nil
    | cons y ys ih => exact .cons (.str y) ih
  exact this zs
theorem name_asc {z : Str} (h : nameS z = true) : Asc z := by
  unfold nameS at h
  rw [Bool.and_eq_true] at h
  intro c m
  have := List.all_eq_true.mp h.2 c m
  rw [between_az] at this
  have e : ∀ c ∈ (Str.ofString "abcdefghijklmnopqrstuvwxyz").cps.toList, c < 128 := by decide +kernel
  exact e c (of_decide_eq_true this)
theorem nodup_len {α : Type} [BEq α] [LawfulBEq α] : ∀ {l m : List α}, l.Nodup → (∀ x ∈ l, x ∈ m) → l.length ≤ m.length
  | [], _, _, _ => Nat.zero_le _
  | x :: l, m, nd, h => by
    have mx := h x List.mem_cons_self
    have ih := nodup_len (l := l) (m := m.erase x) (List.nodup_cons.mp nd).2 fun y my => (List.mem_erase_of_ne (fun z => (List.nodup_cons.mp nd).1 (by rw [← z]; exact my))).mpr (h y (List.mem_cons_of_mem _ my))
    rw [List.length_erase_of_mem mx] at ih
    have := List.length_pos_of_mem mx
    show l.length + 1 ≤ m.length
    omega
section
variable {P : Program} {w : World} {K : PySem.W.Frag} {mg : Str → Option Value} {base : Heap}
def spIs (K : PySem.W.Frag) (tb : Addr) (g : V → Bool) : Sp := fun vs H Q _ => ∃ x, vs = [x] ∧ GxR.TabG H tb ∧ Thing K H x ∧ ∀ H', GxR.Tabbed tb H H' → Q (.bl (g x)) H'
theorem tabbed_refl {H : Hp} {tb : Addr} (h : GxR.TabG H tb) : GxR.Tabbed tb H H := ⟨h, fun _ _ => rfl⟩
theorem ok_isName {f c tb : Addr} {fd : FuncData} {k : Nat} {t8 : Tok} (F : Fun K "is_name" "is_name" sIsName f fd) (hc : fd.code = .ref c) (TB : GxR.TabB base mg c tb) (T : Bl mg) (m8 : mg "MOST_LETTERS" = some (.int 8 t8)) : FnOk P w K mg base CX0 (k + 1) f fd ["thing"] (spIs K tb nameB) := by
  refine okC F hc scN (fun vs H Q E h => ?_) (fun A outer s H vs Q E hr h => ?_)
  · obtain ⟨x, rfl, _⟩ := h
    rfl
  · obtain ⟨x, rfl, tab, th, q⟩ := h
    refine ⟨_, (pss_cons (ps_if (PW.pt (pw_or (pt_not (pt_val (pe_callB call_isi (by rfl) T.isinstance (by decide +kernel) (pa_cons (pv 0) (pa_cons (pe_bltn (v := .ty "str") (by rfl) T.str (by decide +kernel) rfl) pa_nil)))))
          (pw_or1 (pt_not (pt_chain op_le op_le pe_int (pe_callB call_len_str (by rfl) T.len PySem.boot_len (pa_cons (pv 0) pa_nil)) (pe_glob (v := .int 8) rfl m8 ⟨_, rfl⟩))))))
        (pss_one (ps_ret pe_bl)) pss_nil)
      (pss_one (ps_ret (pe_allG hr (by rfl) T.all TB rfl (gen_scope rfl rfl (by decide +kernel) rfl rfl) (pv 0) (genR_text (test_between rfl rfl)))))), ?_⟩
    rcases th with ⟨z, rfl, zl⟩ | ⟨nz, t, ty, kit⟩
    · refine ⟨.str z, rfl, _, _, _, _, true, rfl, .ty "str", .base (.str z), kit_ty (by decide +kernel), _, rfl, iffF rfl ?_⟩
      refine ⟨.str z, rfl, z, rfl, zl, 1, _, rfl, rfl, _, rfl, ?_⟩
      by_cases h1 : (1 : Int) ≤ z.length
      · refine iffT (decide_eq_true h1) ?_
        refine ⟨_, 8, rfl, rfl, _, rfl, ?_⟩
        by_cases h8 : (z.length : Int) ≤ 8
        · refine iffF (by rw [decide_eq_true h8]; rfl) ?_
          refine ⟨.str z, rfl, tab, _, _, ⟨z, rfl, rfl, rfl⟩, fun H2 tb2 => ?_⟩
          have e : (List.range z.cps.size).all (GxR.trF (between "a" "z") z.cps.toList) = nameB (.str z) := by
            rw [text_all]
            show _ = nameS z
            unfold nameS
            rw [decide_eq_true (show 1 ≤ z.length by omega), decide_eq_true (show z.length ≤ 8 by omega), Bool.true_and, Bool.true_and]
          rw [e]
          exact q H2 tb2
        · refine iffT (by rw [decide_eq_false h8]; rfl) ?_
          have e : nameB (.str z) = false := by
            show nameS z = false
            unfold nameS
            rw [decide_eq_false (show ¬ z.length ≤ 8 by omega), Bool.and_false, Bool.false_and]
          rw [e] at q
          exact q _ (tabbed_refl tab)
      · refine iffF (decide_eq_false h1) ?_
        refine ⟨_, rfl, iffT rfl ?_⟩
        have e : nameB (.str z) = false := by
          show nameS z = false
          unfold nameS
          rw [decide_eq_false (show ¬ 1 ≤ z.length by omega), Bool.false_and, Bool.false_and]
        rw [e] at q
        exact q _ (tabbed_refl tab)
    · refine ⟨x, rfl, _, _, _, _, false, rfl, .ty "str", ty, kit, _, rfl, iffT rfl ?_⟩
      have e : nameB x = false := by
        cases x with
        | str z => exact absurd rfl (nz z)
        | _ => rfl
      rw [e] at q
      exact iffT rfl (q _ (tabbed_refl tab))
def spLawIs (K : PySem.W.Frag) (g : V → Bool) : Sp := fun vs H Q _ => ∃ x, vs = [x] ∧ Thing K H x ∧ ∀ H', Same H H' → Q (.bl (g x)) H'
theorem ok_lawName {f : Addr} {fd : FuncData} {k : Nat} (F : Fun K "_law_is_name" "_law_is_name" sLawName f fd) (T : Bl mg) : FnOk P w K mg base CX0 (k + 1) f fd ["_law_thing"] (spLawIs K nameB) := by
  refine F.ok scLN (fun vs H Q E h => ?_) (fun cdv A outer s H vs Q E hr h => ?_)
  · obtain ⟨x, rfl, _⟩ := h
    rfl
  · obtain ⟨x, rfl, th, q⟩ := h
    refine ⟨_, (pss_cons (ps_if (PW.pt (pw_or (pt_not (pt_val (pe_callB call_isi (by rfl) T.isinstance (by decide +kernel) (pa_cons (pv 0) (pa_cons (pe_bltn (v := .ty "str") (by rfl) T.str (by decide +kernel) rfl) pa_nil)))))
          (pw_or (pt_cmpR op_lt (pe_callB call_len_str (by rfl) T.len PySem.boot_len (pa_cons (pv 0) pa_nil)) pe_int (nomark _)) (pw_or1 (pt_cmpR op_gt (pe_callB call_len_str (by rfl) T.len PySem.boot_len (pa_cons (pv 0) pa_nil)) pe_int (nomark _))))))
        (pss_one (ps_ret pe_bl)) pss_nil)
      (pss_one (ps_ret (pe_callB (cr_all rfl) (by rfl) T.all (by decide +kernel) (pa_cons (pe_lc (own := [("_law_character", 1)]) (g := gName 1) (tt := tYes) rfl scLN.nd (pi_str (pv 0)) (blkOk_by (own := [("_law_character", 1)]) (N := ["_law_thing", "_law_character"]) (sc := defScope sLawName) (by decide +kernel)) (fun _ _ _ _ _ => (pg_name (i := 1) scLN.nd rfl (.inl rfl))) (fun _ _ _ _ _ => pts_nil) (fun _ _ _ _ _ => (pe_cmpR op_in_sign (pv 1) pe_str (by rfl)))) pa_nil))))), ?_⟩
    rcases th with ⟨z, rfl, zl⟩ | ⟨nz, t, ty, kit⟩
    · refine ⟨.str z, rfl, _, _, _, _, true, rfl, .ty "str", .base (.str z), kit_ty (by decide +kernel), _, rfl, iffF rfl ?_⟩
      refine ⟨.str z, rfl, z, rfl, zl, _, 1, rfl, rfl, _, rfl, ?_⟩
      by_cases h1 : (z.length : Int) < 1
      · refine iffT (decide_eq_true h1) (iffT rfl ?_)
        have e : nameB (.str z) = false := by
          show nameS z = false
          unfold nameS
          rw [decide_eq_false (show ¬ 1 ≤ z.length by omega), Bool.false_and, Bool.false_and]
        rw [e] at q
        exact q _ (Same.refl _)
      · refine iffF (decide_eq_false h1) ?_
        refine ⟨.str z, rfl, z, rfl, zl, _, 8, rfl, rfl, _, rfl, ?_⟩
        by_cases h8 : (8 : Int) < z.length
        · refine iffT (decide_eq_true h8) ?_
          have e : nameB (.str z) = false := by
            show nameS z = false
            unfold nameS
            rw [decide_eq_false (show ¬ z.length ≤ 8 by omega), Bool.and_false, Bool.false_and]
          rw [e] at q
          exact q _ (Same.refl _)
        · refine iffF (decide_eq_false h8) ?_
          refine ⟨.str z, rfl, z, rfl, fun D nD => ?_⟩
          refine lc_str (a := z) (fun i H2 => H2 D = some (.lst ((((tl z).take i).map (between "a" "z")).map V.bl)) ∧ Same H H2) ?_ ?_ ?_
          · exact ⟨upd_same, same_upd nD⟩
          · rintro i c H2 hc ⟨eD, s2⟩
            refine ⟨rfl, lc_yes ?_⟩
            refine ⟨.str ⟨#[c]⟩, rfl, c, _, rfl, rfl, _, eD, ?_, ?_, ?_⟩
            · rw [List.length_map, List.length_map, List.length_take, tl_len]
              exact Nat.lt_of_le_of_lt (Nat.min_le_right _ _) (small1000 (by omega))
            · rw [upd_same, List.take_add_one, hc, List.map_append, List.map_append, ← between_az]
              rfl
            · exact same_put s2 nD
          · rintro H2 ⟨eD, s2⟩
            have et : (tl z).take z.cps.size = tl z := List.take_of_length_le (by rw [tl_len]; exact Nat.le_refl _)
            rw [et] at eD
            refine ⟨D, _, rfl, SqL.of eD, ?_⟩
            have e : ((tl z).map (between "a" "z")).all id = nameB (.str z) := by
              rw [all_take]
              show _ = nameS z
              unfold nameS
              rw [decide_eq_true (show 1 ≤ z.length by omega), decide_eq_true (show z.length ≤ 8 by omega), Bool.true_and, Bool.true_and]
            rw [e]
            exact q H2 s2
    · refine ⟨x, rfl, _, _, _, _, false, rfl, .ty "str", ty, kit, _, rfl, iffT rfl ?_⟩
      have e : nameB x = false := by
        cases x with
        | str z => exact absurd rfl (nz z)
        | _ => rfl
      rw [e] at q
      exact iffT rfl (q _ (Same.refl _))
def spAsc (K : PySem.W.Frag) (pa : Addr) : Sp := fun vs H Q _ => ∃ (l : Addr) (zs : List Str), vs = [.ref l] ∧ (SqL K H l (zs.map V.str) ∨ SqT K H l (zs.map V.str)) ∧ zs.length ≤ 1000 ∧ GxR.TabG H pa ∧ l ≠ pa ∧ ∀ H', GxR.Tabbed pa H H' → Q (.bl (ascL zs)) H'
theorem ok_asc {f c pa : Addr} {fd : FuncData} (F : Fun K "is_ascending" "is_ascending" sAsc f fd) (hc : fd.code = .ref c) (TB : GxR.TabB base mg c pa) (T : Bl mg) : FnOk P w K mg base CX0 2 f fd ["names"] (spAsc K pa) := by
  refine okC F hc scAs (fun vs H Q E h => ?_) (fun A outer s H vs Q E hr h => ?_)
  · obtain ⟨l, zs, rfl, _⟩ := h
    rfl
  · obtain ⟨l, zs, rfl, hS, hl, tab, lp, q⟩ := h
    refine ⟨_, (pss_one (ps_ret (pe_allC (j := 1) rfl hr (by rfl) T.all TB rfl scAs.nd (gxn_by (N := ["names", "at"]) (sc := defScope sAsc) (by decide +kernel)) rfl rfl rfl rfl (pi_range1 (by rfl) T.range (pa_cons (pe_op op_sub (pe_callB call_len_seq (by rfl) T.len PySem.boot_len (pa_cons (pv 0) pa_nil)) pe_int) pa_nil))
      (fun _ _ _ _ _ _ _ => (pe_cmpR op_lt_str (pe_ix (show IxR _ (rIx K) from ix_seq) (pv 0) (pv 1) (fun _ _ => rfl)) (pe_ix (show IxR _ (rIx K) from ix_seq) (pv 0) (pe_op op_add (pv 1) pe_int) (fun _ _ => rfl)) (nomark _)))))), ?_⟩
    refine ⟨.ref l, rfl, l, _, rfl, hS, _, 1, rfl, rfl, _, rfl, by rw [List.length_map]; omega, by rw [List.length_map]; omega, tab, zs.length - 1, lessAt zs, fun _ H2 => GxR.Tabbed pa H H2, fun H2 t2 => t2, ?_, ?_, fun _ H2 t2 => q H2 t2⟩
    · intro i H2 hi t2
      refine ⟨?_, ?_⟩
      · show i < (((zs.map V.str).length : Int) - 1).toNat
        rw [List.length_map]
        omega
      · rintro v H3 ⟨rfl, rfl⟩
        have sq : SqA K H3 l (zs.map V.str) := SqA.at_ hS (t2.2 l lp)
        have l1 : i < zs.length := by omega
        have l2 : i + 1 < zs.length := by omega
        have ai : ∀ (k : Nat) (hk : k < zs.length) (z : Int), z = k → atI (zs.map V.str) z = some (.str zs[k]) := fun k hk z ez => by
          subst ez
          obtain ⟨v, e1, e2⟩ := at_of (xs := zs.map V.str) (i := (k : Int)) (by omega) (by rw [List.length_map]; omega)
          rw [e2, ← e1, Int.toNat_natCast, List.getElem?_map, List.getElem?_eq_getElem hk]
          rfl
        refine ⟨.ref l, rfl, .int (0 + (i : Nat)), rfl, ixA sq (ai i l1 _ (by omega)) ?_⟩
        refine ⟨.ref l, rfl, .int (0 + (i : Nat)), rfl, _, 1, rfl, rfl, ixA sq (ai (i + 1) l2 _ (by omega)) ?_⟩
        refine ⟨_, _, rfl, rfl, ?_, t2⟩
        rw [less_at (List.getElem?_eq_getElem l1) (List.getElem?_eq_getElem l2)]
    · intro H2 t2
      show (((zs.map V.str).length : Int) - 1).toNat ≤ zs.length - 1
      rw [List.length_map]
      omega
end
end Cu

namespace Cu
open PySem PySem.Spec PyProof.Rows L2
/-! ### is_names, is_touched -/
abbrev sNms : Stmt := topS 5
abbrev sTch : Stmt := topS 10
theorem scNms : FnScope ["thing", "part"] ["thing"] (defScope sNms) := ⟨rfl, rfl, rfl, by decide +kernel, rfl, by decide +kernel, by decide +kernel⟩
theorem scTc : FnScope ["thing"] ["thing"] (defScope sTch) := ⟨rfl, rfl, rfl, by decide +kernel, rfl, by decide +kernel, by decide +kernel⟩
def strD : PyData → Str
  | .str z => z
  | _ => Str.empty
def namesD : PyData → Bool
  | .tuple ds => ds.all nameD && ascL (ds.map strD)
  | _ => false
def touchD : PyData → Bool
  | .tuple ds => decide (1 ≤ ds.length) && decide (ds.length ≤ 4) && (ds.all nameD && ascL (ds.map strD))
  | _ => false
/-- a thing whose texts right inside a tuple are not too long -/
structure Fit1 (H : Hp) (x : V) (d : PyData) : Prop where
  dx : Dx H x d
  inn : ∀ a xs, x = .ref a → H a = some (.tup xs) → ∀ y ∈ xs, ∀ z, y = .str z → z.length ≤ sizeLine
def trN (ds : List PyData) (i : Nat) : Bool := match ds[i]? with
  | some d => nameD d
  | none => false
theorem all_trN (ds : List PyData) : (List.range ds.length).all (trN ds) = ds.all nameD := by
  rw [Bool.eq_iff_iff, List.all_eq_true, List.all_eq_true]
  constructor
  · intro h d m
    obtain ⟨i, hi, e⟩ := List.mem_iff_getElem.mp m
    have := h i (List.mem_range.mpr hi)
    unfold trN at this
    rw [List.getElem?_eq_getElem hi, e] at this
    exact this
  · intro h i m
    have hi := List.mem_range.mp m
    unfold trN
    rw [List.getElem?_eq_getElem hi]
    exact h _ (List.getElem_mem hi)
theorem names_strs {H : Hp} : ∀ {xs : List V} {ds : List PyData}, DxAll H xs ds → ds.all nameD = true → xs = (ds.map strD).map V.str
  | _, _, .nil, _ => rfl
  | _, _, .cons (d := d) k t, h => by
    rw [List.all_cons, Bool.and_eq_true] at h
    rw [names_strs t h.2]
    cases k with
    | str z => rfl
    | _ => cases h.1
/-- a thing that is small -/
structure Sd (H : Hp) (x : V) (d : PyData) : Prop where
  dx : Dx H x d
  sm : small d = true
theorem Sd.stays {ps : List Addr} {H H' : Hp} {y : V} {e : PyData} (t : Tbs ps H H') (h : ∀ q ∈ ps, GxR.TabG H q) (f : Sd H y e) : Sd H' y e := ⟨Dx.stays (t.stays h) _ _ f.dx, f.sm⟩
theorem small_str {z : Str} (h : small (.str z) = true) : z.length ≤ sizeLine := of_decide_eq_true h
theorem Sd.txt {H : Hp} {x : V} {d : PyData} (h : Sd H x d) : ∀ z, x = .str z → z.length ≤ sizeLine := by
  rintro z rfl
  cases h.dx
  exact small_str h.sm
section
variable {P : Program} {w : World} {K : PySem.W.Frag} {mg : Str → Option Value} {base : Heap}
def spNames (ps : List Addr) : Sp := fun vs H Q _ => ∃ x d, vs = [x] ∧ Sd H x d ∧ (∀ p ∈ ps, GxR.TabG H p) ∧ ∀ H', Tbs ps H H' → Q (.bl (namesD d)) H'
theorem ok_names {f fN fA c pn pt pa : Addr} {ps : List Addr} {fd fdN fdA : FuncData} (F : Fun K "is_names" "is_names" sNms f fd) (hc : fd.code = .ref c) (TB : GxR.TabB base mg c pt) (hn : pn ∈ ps) (ht : pt ∈ ps) (ha : pa ∈ ps) (DN : Df K mg "is_name" sIsName ["thing"] fN fdN) (DA : Df K mg "is_ascending" sAsc ["names"] fA fdA)
    (GN : FnOk P w K mg base CX0 1 fN fdN ["thing"] (spIs K pn nameB)) (GA : FnOk P w K mg base CX0 2 fA fdA ["names"] (spAsc K pa)) (T : Bl mg) : FnOk P w K mg base CX0 3 f fd ["thing"] (spNames ps) := by
  refine okC F hc scNms (fun vs H Q E h => ?_) (fun A outer s H vs Q E hr h => ?_)
  · obtain ⟨x, d, rfl, _⟩ := h
    rfl
  · obtain ⟨x, d, rfl, ⟨dx, sm⟩, tabs, q⟩ := h
    refine ⟨_, (pss_one (ps_ret (pe_and (pe_callB call_isi (by rfl) T.isinstance (by decide +kernel) (pa_cons (pv 0) (pa_cons (pe_bltn (v := .ty "tuple") (by rfl) T.tuple (by decide +kernel) rfl) pa_nil)))
        (pe_and (pe_allC (j := 1) (k := 1) rfl hr (by rfl) T.all TB rfl scNms.nd (gxn_by (N := ["thing", "part"]) (sc := defScope sNms) (by decide +kernel)) rfl rfl rfl rfl (pi_tup (pv 0))
          (fun _ _ _ _ _ _ rm => (pe_call GN rm (by rfl) DN.g DN.F.kp DN.b .nil pass0 (pa_cons (pv 1) pa_nil))))
        (pe_one (pe_call GA hr (by rfl) DA.g DA.F.kp DA.b .nil pass0 (pa_cons (pv 0) pa_nil))))))), ?_⟩
    have t0 : Tbs ps H H := .refl tabs
    refine ⟨x, rfl, _, _, _, _, _, rfl, .ty "tuple", ty_of dx, kit_tup d, _, rfl, ?_⟩
    cases dx with
    | int i => exact iffF rfl (q _ t0)
    | bl b => exact iffF rfl (q _ t0)
    | non => exact iffF rfl (q _ t0)
    | str z => exact iffF rfl (q _ t0)
    | lst e t => exact iffF rfl (q _ t0)
    | dct e t => exact iffF rfl (q _ t0)
    | @tup a xs ds e t =>
      have lx := dx_len t
      obtain ⟨l1000, sms⟩ := small_tup sm
      have nap : a ∉ ps := fun z => by
        obtain ⟨qs, e1, _⟩ := tabs a z
        rw [e1] at e
        cases e
      have W := walk_tup (K := K) (a := a) (xs := xs)
      have sq : ∀ H2, Tbs ps H H2 → SqT K H2 a xs := fun H2 t2 => SqT.of (t2.keep a _ nap e)
      have eT : namesD (.tuple ds) = (ds.all nameD && ascL (ds.map strD)) := rfl
      refine iffT rfl ⟨.ref a, rfl, a, rfl, ⟨_, SqT.of e⟩, tabs pt ht, xs.length, trN ds, fun _ H2 => Tbs ps H H2, fun H2 t2 => .one tabs ht t2, ?_, fun H2 t2 => W.stops H2 (sq H2 t2), ?_⟩
      · intro i H2 hi t2
        refine ⟨W.goes i H2 hi (sq H2 t2), fun v H3 y => ?_⟩
        obtain ⟨rfl, ev⟩ := W.yields i H2 v H3 hi (sq H2 t2) y
        have hd : i < ds.length := by omega
        obtain ⟨v', e1, k1⟩ := dx_get t (List.getElem?_eq_getElem hd)
        rw [ev] at e1
        cases e1
        have sv : Sd H v ds[i] := ⟨k1, sms _ (List.getElem_mem hd)⟩
        have th : Thing K H3 v := thing_of (Dx.stays (t2.stays tabs) _ _ k1) sv.txt
        refine ⟨v, rfl, v, rfl, t2.tab pn hn, th, fun H4 t4 => ⟨?_, t2.trans (.one t2.tab hn t4)⟩⟩
        unfold trN
        rw [List.getElem?_eq_getElem hd, nameB_D k1]
      · intro _ H2 t2
        refine ⟨_, rfl, ?_⟩
        rw [lx, all_trN]
        cases hA : ds.all nameD with
        | false =>
          refine iffF rfl ?_
          have := q _ t2
          rw [eT, hA, Bool.false_and] at this
          exact this
        | true =>
          refine iffT rfl ?_
          have ex := names_strs t hA
          have sq2 := sq H2 t2
          rw [ex] at sq2
          refine ⟨.ref a, rfl, a, ds.map strD, rfl, .inr sq2, by rw [List.length_map]; omega, t2.tab pa ha, fun z => nap (by rw [z]; exact ha), fun H4 t4 => ?_⟩
          have := q H4 (t2.trans (.one t2.tab ha t4))
          rw [eT, hA, Bool.true_and] at this
          exact this
def spTouch (ps : List Addr) : Sp := fun vs H Q _ => ∃ x d, vs = [x] ∧ Sd H x d ∧ (∀ p ∈ ps, GxR.TabG H p) ∧ ∀ H', Tbs ps H H' → Q (.bl (touchD d)) H'
theorem touch_names {ds : List PyData} (h : namesD (.tuple ds) = true) : touchD (.tuple ds) = (decide (1 ≤ ds.length) && decide (ds.length ≤ 4)) := by
  have h' : (ds.all nameD && ascL (ds.map strD)) = true := h
  show (decide (1 ≤ ds.length) && decide (ds.length ≤ 4) && (ds.all nameD && ascL (ds.map strD))) = _
  rw [h', Bool.and_true]
theorem touch_not {d : PyData} (h : namesD d = false) : touchD d = false := by
  cases d with
  | tuple ds =>
    have h' : (ds.all nameD && ascL (ds.map strD)) = false := h
    show (decide (1 ≤ ds.length) && decide (ds.length ≤ 4) && (ds.all nameD && ascL (ds.map strD))) = _
    rw [h', Bool.and_false]
  | _ => rfl
theorem ok_touched {f fM : Addr} {ps : List Addr} {fd fdM : FuncData} {t4 : Tok} (F : Fun K "is_touched" "is_touched" sTch f fd) (DM : Df K mg "is_names" sNms ["thing"] fM fdM) (GM : FnOk P w K mg base CX0 3 fM fdM ["thing"] (spNames ps)) (m4 : mg "MOST_DOCUMENTS" = some (.int 4 t4)) (T : Bl mg) : FnOk P w K mg base CX0 4 f fd ["thing"] (spTouch ps) := by
  refine F.ok scTc (fun vs H Q E h => ?_) (fun cdv A outer s H vs Q E hr h => ?_)
  · obtain ⟨x, d, rfl, _⟩ := h
    rfl
  · obtain ⟨x, d, rfl, sd, tabs, q⟩ := h
    refine ⟨_, (pss_one (ps_ret (pe_and (pe_call GM hr (by rfl) DM.g DM.F.kp DM.b .nil pass0 (pa_cons (pv 0) pa_nil)) (pe_one (pe_chain op_le op_le pe_int (pe_callB call_len_seq (by rfl) T.len PySem.boot_len (pa_cons (pv 0) pa_nil)) (pe_glob (v := .int 4) rfl m4 ⟨_, rfl⟩)))))), ?_⟩
    refine ⟨x, rfl, x, d, rfl, sd, tabs, fun H2 t2 => ⟨_, rfl, ?_⟩⟩
    have dx2 := Dx.stays (t2.stays tabs) _ _ sd.dx
    have q2 := q _ t2
    cases hn : namesD d with
    | false =>
      refine iffF rfl ?_
      rw [touch_not hn] at q2
      exact q2
    | true =>
      refine iffT rfl ?_
      cases dx2 with
      | @tup a xs ds e t =>
        have lx := dx_len t
        rw [touch_names hn] at q2
        refine ⟨.ref a, rfl, a, xs, rfl, .inr (SqT.of e), 1, _, rfl, rfl, _, rfl, ?_⟩
        by_cases h1 : (1 : Int) ≤ xs.length
        · refine iffT (decide_eq_true h1) ⟨_, 4, rfl, rfl, ?_⟩
          rw [decide_eq_true (show 1 ≤ ds.length by omega), Bool.true_and] at q2
          by_cases h4 : (xs.length : Int) ≤ 4
          · rw [decide_eq_true (show ds.length ≤ 4 by omega)] at q2
            show Q (.bl (decide ((xs.length : Int) ≤ 4))) H2
            rw [decide_eq_true h4]
            exact q2
          · rw [decide_eq_false (show ¬ ds.length ≤ 4 by omega)] at q2
            show Q (.bl (decide ((xs.length : Int) ≤ 4))) H2
            rw [decide_eq_false h4]
            exact q2
        · refine iffF (decide_eq_false h1) ?_
          rw [decide_eq_false (show ¬ 1 ≤ ds.length by omega), Bool.false_and] at q2
          exact q2
      | _ => cases hn
end
end Cu

namespace Cu
open PySem PySem.Spec PyProof.Rows L2
/-! ### is_pair, is_action -/
abbrev sPair : Stmt := topS 4
abbrev sAct : Stmt := topS 9
theorem scPa : FnScope ["thing"] ["thing"] (defScope sPair) := ⟨rfl, rfl, rfl, by decide +kernel, rfl, by decide +kernel, by decide +kernel⟩
theorem scAc : FnScope ["thing"] ["thing"] (defScope sAct) := ⟨rfl, rfl, rfl, by decide +kernel, rfl, by decide +kernel, by decide +kernel⟩
def actD : PyData → Bool
  | .tuple [a, b] => nameD a && touchD b
  | _ => false
theorem actD_len {ds : List PyData} (h : ds.length ≠ 2) : actD (.tuple ds) = false := by
  match ds, h with
  | [], _ => rfl
  | [_], _ => rfl
  | [_, _], h => exact absurd rfl h
  | _ :: _ :: _ :: _, _ => rfl
structure FitA (H : Hp) (x : V) (d : PyData) : Prop where
  dx : Dx H x d
  inn : ∀ a xs, x = .ref a → H a = some (.tup xs) → ∀ y ∈ xs, (∀ z, y = .str z → z.length ≤ sizeLine) ∧ ∀ e, Dx H y e → Fit1 H y e
theorem Fit1.stays {ps : List Addr} {H H' : Hp} {y : V} {e : PyData} (t : Tbs ps H H') (h : ∀ q ∈ ps, GxR.TabG H q) (f : Fit1 H y e) : Fit1 H' y e := by
  refine ⟨Dx.stays (t.stays h) _ _ f.dx, fun a xs ey eH => ?_⟩
  have fd := f.dx
  subst ey
  cases fd with
  | tup e1 _ =>
    have z := t.stays h a _ e1 (by first | exact .inl ⟨_, rfl⟩ | exact .inr (.inl ⟨_, rfl⟩) | exact .inr (.inr ⟨_, rfl⟩))
    rw [z] at eH
    cases eH
    exact f.inn a _ rfl e1
  | lst e1 _ =>
    have z := t.stays h a _ e1 (by first | exact .inl ⟨_, rfl⟩ | exact .inr (.inl ⟨_, rfl⟩) | exact .inr (.inr ⟨_, rfl⟩))
    rw [z] at eH
    cases eH
  | dct e1 _ =>
    have z := t.stays h a _ e1 (by first | exact .inl ⟨_, rfl⟩ | exact .inr (.inl ⟨_, rfl⟩) | exact .inr (.inr ⟨_, rfl⟩))
    rw [z] at eH
    cases eH
section
variable {P : Program} {w : World} {K : PySem.W.Frag} {mg : Str → Option Value} {base : Heap}
def pairD : PyData → Bool
  | .tuple ds => decide (ds.length = 2)
  | _ => false
def spPair : Sp := fun vs H Q _ => ∃ x d, vs = [x] ∧ Dx H x d ∧ Q (.bl (pairD d)) H
theorem ok_pair {f : Addr} {fd : FuncData} {k : Nat} (F : Fun K "is_pair" "is_pair" sPair f fd) (T : Bl mg) : FnOk P w K mg base CX0 (k + 1) f fd ["thing"] spPair := by
  refine F.ok scPa (fun vs H Q E h => ?_) (fun cdv A outer s H vs Q E hr h => ?_)
  · obtain ⟨x, d, rfl, _⟩ := h
    rfl
  · obtain ⟨x, d, rfl, dx, q⟩ := h
    refine ⟨_, (pss_one (ps_ret (pe_and (pe_callB call_isi (by rfl) T.isinstance (by decide +kernel) (pa_cons (pv 0) (pa_cons (pe_bltn (v := .ty "tuple") (by rfl) T.tuple (by decide +kernel) rfl) pa_nil))) (pe_one (pe_cmpR op_eq (pe_callB call_len_seq (by rfl) T.len PySem.boot_len (pa_cons (pv 0) pa_nil)) pe_int (nomark _)))))), ?_⟩
    refine ⟨x, rfl, _, _, _, _, _, rfl, .ty "tuple", ty_of dx, kit_tup d, _, rfl, ?_⟩
    cases dx with
    | int i => exact iffF rfl q
    | bl b => exact iffF rfl q
    | non => exact iffF rfl q
    | str z => exact iffF rfl q
    | lst e t => exact iffF rfl q
    | dct e t => exact iffF rfl q
    | @tup a xs ds e t =>
      refine iffT rfl ⟨.ref a, rfl, a, xs, rfl, .inr (SqT.of e), rfl, ?_⟩
      have lx := dx_len t
      have ee : decide (V.int (xs.length : Int) = .int 2) = pairD (.tuple ds) := by
        show _ = decide (ds.length = 2)
        by_cases h2 : ds.length = 2
        · rw [decide_eq_true h2, decide_eq_true]
          rw [lx, h2]
          rfl
        · rw [decide_eq_false h2, decide_eq_false]
          intro z
          have := V.int.inj z
          omega
      rw [ee]
      exact q
theorem act_not {d : PyData} (h : pairD d = false) : actD d = false := by
  cases d with
  | tuple ds => exact actD_len (of_decide_eq_false h)
  | _ => rfl
def spAct (ps : List Addr) : Sp := fun vs H Q _ => ∃ x d, vs = [x] ∧ Sd H x d ∧ (∀ p ∈ ps, GxR.TabG H p) ∧ ∀ H', Tbs ps H H' → Q (.bl (actD d)) H'
theorem ok_action {f fN fT fP : Addr} {ps : List Addr} {pn : Addr} {fd fdN fdT fdP : FuncData} (F : Fun K "is_action" "is_action" sAct f fd) (hpn : pn ∈ ps) (DP : Df K mg "is_pair" sPair ["thing"] fP fdP) (DN : Df K mg "is_name" sIsName ["thing"] fN fdN) (DT : Df K mg "is_touched" sTch ["thing"] fT fdT)
    (GN : FnOk P w K mg base CX0 1 fN fdN ["thing"] (spIs K pn nameB)) (GT : FnOk P w K mg base CX0 4 fT fdT ["thing"] (spTouch ps)) (T : Bl mg) : FnOk P w K mg base CX0 5 f fd ["thing"] (spAct ps) := by
  have GP : FnOk P w K mg base CX0 1 fP fdP _ spPair := ok_pair DP.F T
  refine F.ok scAc (fun vs H Q E h => ?_) (fun cdv A outer s H vs Q E hr h => ?_)
  · obtain ⟨x, d, rfl, _⟩ := h
    rfl
  · obtain ⟨x, d, rfl, ⟨dx, sm⟩, tabs, q⟩ := h
    refine ⟨_, (pss_one (ps_ret (pe_and (pe_call GP (hr.mono (by decide)) (by rfl) DP.g DP.F.kp DP.b .nil pass0 (pa_cons (pv 0) pa_nil)) (pe_and (pe_call GN (hr.mono (by decide)) (by rfl) DN.g DN.F.kp DN.b .nil pass0 (pa_cons (pe_ix ix_tup (pv 0) pe_int (fun _ _ => rfl)) pa_nil)) (pe_one (pe_call GT hr (by rfl) DT.g DT.F.kp DT.b .nil pass0 (pa_cons (pe_ix ix_tup (pv 0) pe_int (fun _ _ => rfl)) pa_nil))))))), ?_⟩
    have t0 : Tbs ps H H := .refl tabs
    refine ⟨x, rfl, x, d, rfl, dx, _, rfl, ?_⟩
    cases hp : pairD d with
    | false =>
      refine iffF rfl ?_
      have := q _ t0
      rw [act_not hp] at this
      exact this
    | true =>
      refine iffT rfl ?_
      cases dx with
      | @tup a xs ds e t =>
        have h2 : xs.length = 2 := (dx_len t).trans (of_decide_eq_true hp)
        have nap : a ∉ ps := fun z => by
          obtain ⟨qs, e1, _⟩ := tabs a z
          rw [e1] at e
          cases e
        obtain ⟨_, sms⟩ := small_tup sm
        match xs, ds, e, t, h2, sms with
        | [x1, x2], [d1, d2], e, .cons k1 (.cons k2 .nil), _, sms =>
          have s1 : Sd H x1 d1 := ⟨k1, sms _ (by simp)⟩
          have s2 : Sd H x2 d2 := ⟨k2, sms _ (by simp)⟩
          refine ⟨.ref a, rfl, a, _, 0, x1, rfl, rfl, SqT.of e, rfl, x1, rfl, tabs pn hpn, thing_of k1 s1.txt, fun H1 t1 => ⟨_, rfl, ?_⟩⟩
          have m1 : Tbs ps H H1 := .one tabs hpn t1
          rw [nameB_D k1]
          cases hn : nameD d1 with
          | false =>
            refine iffF rfl ?_
            have q' := q _ m1
            simp only [actD, hn, Bool.false_and] at q'
            exact q'
          | true =>
            refine iffT rfl ?_
            refine ⟨.ref a, rfl, a, _, 1, x2, rfl, rfl, SqT.of (m1.keep a _ nap e), rfl, x2, d2, rfl, s2.stays m1 tabs, m1.tab, fun H2 t2 => ?_⟩
            have q' := q _ (m1.trans t2)
            simp only [actD, hn, Bool.true_and] at q'
            exact q'
      | _ => cases hp
end
/-! ### how many differ -/
theorem dup_len : ∀ {xs : List Str}, ¬ xs.Nodup → ∃ ys : List Str, ys.length < xs.length ∧ ∀ k ∈ xs, k ∈ ys
  | [], h => absurd .nil h
  | x :: r, h => by
    by_cases m : x ∈ r
    · refine ⟨r, Nat.lt_succ_self _, fun k mk => ?_⟩
      rcases List.mem_cons.mp mk with e | e
      · rw [e]
        exact m
      · exact e
    · have hr : ¬ r.Nodup := fun nd => h (List.nodup_cons.mpr ⟨m, nd⟩)
      obtain ⟨ys, l, s⟩ := dup_len hr
      refine ⟨x :: ys, Nat.succ_lt_succ l, fun k mk => ?_⟩
      rcases List.mem_cons.mp mk with e | e
      · rw [e]
        exact List.mem_cons_self
      · exact List.mem_cons_of_mem _ (s k e)
section
variable {X : Cx}
/-- len(set(xs)) -/
def rLenD (w : World) : List V → Hp → VK → Prop := fun vs H Q => ∃ (a : Addr) (xs : List Str) (n : Nat), vs = [.ref a] ∧ H a = some (SetXO w a (fun k => decide (k ∈ xs)) n) ∧ ((¬ xs.Nodup → n < xs.length) → Q (.int n) H)
theorem call_lenD : CallR X (.builtin "len") (rLenD X.w) := by
  intro pins s σ H vs us Q I r h
  obtain ⟨a, xs, n, rfl, e, q⟩ := h
  refine call_lenX pins s σ H _ us Q I r ⟨a, _, n, rfl, e, q fun nd => ?_⟩
  obtain ⟨ys, l, s'⟩ := dup_len nd
  obtain ⟨_, es, _, _, _, _, _, T⟩ := setXO_get I e
  have z := nodup_len T.nd (m := ys) fun k m => s' k (of_decide_eq_true ((T.mem k).mpr m))
  rw [List.length_map, Array.length_toList, T.num] at z
  omega
end
end Cu

namespace Cu
open PySem PySem.Spec PyProof.Rows L2
/-! ### is_heap -/
abbrev sHp : Stmt := topS 8
abbrev nHp : List Str := ["thing", "part", "name", "documents"]
theorem scHp : FnScope nHp ["thing"] (defScope sHp) := ⟨rfl, rfl, rfl, by decide +kernel, rfl, by decide +kernel, by decide +kernel⟩
def nmD : PyData → Str
  | .tuple (.str z :: _) => z
  | _ => Str.empty
def heapD : PyData → Bool
  | .tuple ds => ds.all actD && decide ((ds.map nmD).Nodup)
  | _ => false
structure FitH (H : Hp) (x : V) (d : PyData) : Prop where
  dx : Dx H x d
  inn : ∀ a xs, x = .ref a → H a = some (.tup xs) → xs.length ≤ 1000 ∧ ∀ y ∈ xs, ∀ e, Dx H y e → FitA H y e
theorem dx_back {ps : List Addr} {H H' : Hp} {y : V} {e : PyData} (t : Tbs ps H H') (h : ∀ q ∈ ps, GxR.TabG H q) (dx : Dx H y e) : ∀ a xs, y = .ref a → H' a = some (.tup xs) → H a = some (.tup xs) := by
  rintro a xs rfl eH
  cases dx with
  | tup e1 _ =>
    have z := t.stays h a _ e1 (by first | exact .inl ⟨_, rfl⟩ | exact .inr (.inl ⟨_, rfl⟩) | exact .inr (.inr ⟨_, rfl⟩))
    rw [z] at eH
    cases eH
    exact e1
  | lst e1 _ =>
    have z := t.stays h a _ e1 (by first | exact .inl ⟨_, rfl⟩ | exact .inr (.inl ⟨_, rfl⟩) | exact .inr (.inr ⟨_, rfl⟩))
    rw [z] at eH
    cases eH
  | dct e1 _ =>
    have z := t.stays h a _ e1 (by first | exact .inl ⟨_, rfl⟩ | exact .inr (.inl ⟨_, rfl⟩) | exact .inr (.inr ⟨_, rfl⟩))
    rw [z] at eH
    cases eH
theorem dxAll_of {H : Hp} : ∀ {xs : List V} {ds : List PyData} {y : V}, DxAll H xs ds → y ∈ xs → ∃ d, Dx H y d
  | _, _, _, .nil, m => nomatch m
  | _, _, _, .cons k t, m => by
    rcases List.mem_cons.mp m with e | e
    · rw [e]
      exact ⟨_, k⟩
    · exact dxAll_of t e
theorem FitA.stays {ps : List Addr} {H H' : Hp} {y : V} {e : PyData} (t : Tbs ps H H') (h : ∀ q ∈ ps, GxR.TabG H q) (f : FitA H y e) : FitA H' y e := by
  refine ⟨Dx.stays (t.stays h) _ _ f.dx, fun a xs ey eH v mv => ?_⟩
  have e0 := dx_back t h f.dx a xs ey eH
  obtain ⟨f1, f2⟩ := f.inn a xs ey e0 v mv
  refine ⟨f1, fun g dg => ?_⟩
  -- v has data in H
  have fd := f.dx
  subst ey
  cases fd with
  | @tup _ ys ds e1 al =>
    cases e0.symm.trans e1
    obtain ⟨d, dv⟩ := dxAll_of al mv
    have fv := f2 d dv
    refine ⟨dg, fun b zs eb hb => fv.inn b zs eb (dx_back t h dv b zs eb hb)⟩
  | lst e1 _ => cases e0.symm.trans e1
  | dct e1 _ => cases e0.symm.trans e1
def trA (ds : List PyData) (i : Nat) : Bool := match ds[i]? with
  | some d => actD d
  | none => false
theorem all_trA (ds : List PyData) : (List.range ds.length).all (trA ds) = ds.all actD := by
  rw [Bool.eq_iff_iff, List.all_eq_true, List.all_eq_true]
  constructor
  · intro h d m
    obtain ⟨i, hi, e⟩ := List.mem_iff_getElem.mp m
    have := h i (List.mem_range.mpr hi)
    unfold trA at this
    rw [List.getElem?_eq_getElem hi, e] at this
    exact this
  · intro h i m
    have hi := List.mem_range.mp m
    unfold trA
    rw [List.getElem?_eq_getElem hi]
    exact h _ (List.getElem_mem hi)
theorem act_name {H : Hp} {x : V} {d : PyData} (h : Dx H x d) (e : actD d = true) : ∃ (a : Addr) (y : V), x = .ref a ∧ H a = some (.tup [.str (nmD d), y]) := by
  cases h with
  | @tup a xs ds e1 t =>
    match ds, e, t with
    | [d1, d2], e, .cons k1 (.cons k2 .nil) =>
      cases k1 with
      | str z => exact ⟨a, _, rfl, e1⟩
      | _ => cases e
    | [], e, _ => cases e
    | [_], e, _ => cases e
    | _ :: _ :: _ :: _, e, _ => cases e
  | _ => cases e
section
variable {P : Program} {w : World} {K : PySem.W.Frag} {mg : Str → Option Value} {base : Heap}
def spHeapIs (ps : List Addr) : Sp := fun vs H Q _ => ∃ x d, vs = [x] ∧ Sd H x d ∧ (∀ p ∈ ps, GxR.TabG H p) ∧ ∀ H', Tbs ps H H' → Q (.bl (heapD d)) H'
theorem ok_isHeap {f fA c ph : Addr} {ps : List Addr} {fd fdA : FuncData} (F : Fun K "is_heap" "is_heap" sHp f fd) (hc : fd.code = .ref c) (TB : GxR.TabB base mg c ph) (hph : ph ∈ ps) (DA : Df K mg "is_action" sAct ["thing"] fA fdA)
    (GA : FnOk P w K mg base CX0 5 fA fdA ["thing"] (spAct ps)) (T : Bl mg) : FnOk P w K mg base CX0 7 f fd ["thing"] (spHeapIs ps) := by
  refine okC F hc scHp (fun vs H Q E h => ?_) (fun A outer s H vs Q E hr h => ?_)
  · obtain ⟨x, d, rfl, _⟩ := h
    rfl
  · obtain ⟨x, d, rfl, ⟨dx, sm⟩, tabs, q⟩ := h
    refine ⟨_, (pss_cons (ps_if (PW.pt (pw_or (pt_not (pt_val (pe_callB call_isi (by rfl) T.isinstance (by decide +kernel) (pa_cons (pv 0) (pa_cons (pe_bltn (v := .ty "tuple") (by rfl) T.tuple (by decide +kernel) rfl) pa_nil)))))
          (pw_or1 (pt_not (pt_val (pe_allC (j := 1) (k := 5) rfl hr (by rfl) T.all TB rfl scHp.nd (gxn_by (N := nHp) (sc := defScope sHp) (by decide +kernel)) rfl rfl rfl rfl (pi_tup (pv 0))
          (fun _ _ _ _ _ _ rm => (pe_call GA rm (by rfl) DA.g DA.F.kp DA.b .nil pass0 (pa_cons (pv 1) pa_nil)))))))))
        (pss_one (ps_ret pe_bl)) pss_nil)
      (pss_one (ps_ret (pe_cmpR op_eq (pe_callB call_lenD (by rfl) T.len PySem.boot_len (pa_cons (pe_callTy (call_setX rfl) (by rfl) T.set (by decide +kernel) (pa_cons (pe_lc (own := [("name", 2), ("documents", 3)]) (g := gTup K 2 (gCons (gName 2) (gCons (gName 3) gNil))) (tt := tYes) rfl scHp.nd (pi_tup (pv 0)) (blkOk_by (own := [("name", 2), ("documents", 3)]) (N := nHp) (sc := defScope sHp) (by decide +kernel)) (fun _ _ _ _ _ => (pg_tup rfl (pgs_cons (pg_name (i := 2) scHp.nd rfl (.inl rfl)) (pgs_cons (pg_name (i := 3) scHp.nd rfl (.inl rfl)) pgs_nil)))) (fun _ _ _ _ _ => pts_nil) (fun _ _ _ _ _ => (pv 2))) pa_nil)) pa_nil))
        (pe_callB call_len_seq (by rfl) T.len PySem.boot_len (pa_cons (pv 0) pa_nil)) (nomark _))))), ?_⟩
    have t0 : Tbs ps H H := .refl tabs
    refine ⟨x, rfl, _, _, _, _, _, rfl, .ty "tuple", ty_of dx, kit_tup d, _, rfl, ?_⟩
    cases dx with
    | int i => exact iffT rfl (iffT rfl (q _ t0))
    | bl b => exact iffT rfl (iffT rfl (q _ t0))
    | non => exact iffT rfl (iffT rfl (q _ t0))
    | str z => exact iffT rfl (iffT rfl (q _ t0))
    | lst e t => exact iffT rfl (iffT rfl (q _ t0))
    | dct e t => exact iffT rfl (iffT rfl (q _ t0))
    | @tup a xs ds e t =>
      have lx := dx_len t
      obtain ⟨xl, sms⟩ := small_tup sm
      have nap : a ∉ ps := fun z => by
        obtain ⟨qs, e1, _⟩ := tabs a z
        rw [e1] at e
        cases e
      have W := walk_tup (K := K) (a := a) (xs := xs)
      have sq : ∀ H2, Tbs ps H H2 → SqT K H2 a xs := fun H2 t2 => SqT.of (t2.keep a _ nap e)
      refine iffF rfl ⟨.ref a, rfl, a, rfl, ⟨_, SqT.of e⟩, tabs ph hph, xs.length, trA ds, fun _ H2 => Tbs ps H H2, fun H2 t2 => .one tabs hph t2, ?_, fun H2 t2 => W.stops H2 (sq H2 t2), ?_⟩
      · intro i H2 hi t2
        refine ⟨W.goes i H2 hi (sq H2 t2), fun v H3 y => ?_⟩
        obtain ⟨rfl, ev⟩ := W.yields i H2 v H3 hi (sq H2 t2) y
        have hd : i < ds.length := by omega
        obtain ⟨v', e1, k1⟩ := dx_get t (List.getElem?_eq_getElem hd)
        rw [ev] at e1
        cases e1
        have f1 : Sd H v ds[i] := ⟨k1, sms _ (List.getElem_mem hd)⟩
        refine ⟨v, rfl, v, _, rfl, f1.stays t2 tabs, t2.tab, fun H4 t4 => ⟨?_, t2.trans t4⟩⟩
        unfold trA
        rw [List.getElem?_eq_getElem hd]
      · intro _ H2 t2
        refine ⟨_, rfl, ?_⟩
        rw [lx, all_trA]
        cases hA : ds.all actD with
        | false =>
          refine iffT rfl ?_
          have := q _ t2
          have eH : heapD (.tuple ds) = false := by
            show (ds.all actD && _) = false
            rw [hA, Bool.false_and]
          rw [eH] at this
          exact this
        | true =>
        refine iffF rfl ?_
        refine ⟨.ref a, rfl, a, rfl, ⟨_, sq H2 t2⟩, fun D nD => ?_⟩
        have nDp : ∀ p ∈ ps, D ≠ p := fun p hp z => by
          obtain ⟨qs, e1, _⟩ := t2.tab p hp
          rw [← z, nD] at e1
          cases e1
        refine lc_tup (K := K) (a := a) (xs := xs) (fun i H3 => H3 D = some (.lst (((ds.take i).map nmD).map V.str)) ∧ Tbs ps H H3 ∧ Same H2 H3) ?_ ?_ ?_ ?_
        · exact ⟨upd_same, t2.new nD, same_upd nD⟩
        · rintro i H3 _ ⟨_, t3, _⟩
          exact sq H3 t3
        · rintro i x H3 ex ⟨eD, t3, s3⟩
          have hi : i < xs.length := (List.getElem?_eq_some_iff.mp ex).1
          have hd : i < ds.length := by omega
          obtain ⟨v', e1, k1⟩ := dx_get t (List.getElem?_eq_getElem hd)
          rw [ex] at e1
          cases e1
          have ed : actD ds[i] = true := List.all_eq_true.mp hA _ (List.getElem_mem hd)
          obtain ⟨b, y, rfl, eb⟩ := act_name (Dx.stays (t3.stays tabs) _ _ k1) ed
          refine ⟨b, _, rfl, SqT.of eb, rfl, _, _, rfl, _, _, rfl, rfl, ?_⟩
          refine ⟨rfl, lc_yes ?_⟩
          refine ⟨_, rfl, _, eD, ?_, ?_, ?_, ?_⟩
          · rw [List.length_map, List.length_map, List.length_take]
            exact small1000 (by omega)
          · rw [upd_same, List.take_add_one, List.getElem?_eq_getElem hd, List.map_append, List.map_append]
            rfl
          · refine ⟨fun b' o nb eb' => ?_, fun p hp => ?_⟩
            · have hb : b' ≠ D := fun z => by
                rw [z] at eb'
                have := t2.keep D o (z ▸ nb) eb'
                rw [nD] at this
                cases this
              rw [upd_ne hb]
              exact t3.keep b' o nb eb'
            · obtain ⟨qs, e1, tt⟩ := t3.tab p hp
              exact ⟨qs, (upd_ne (Ne.symm (nDp p hp))).trans e1, tt⟩
          · exact same_put s3 nD
        · rintro H3 ⟨eD, t3, s3⟩
          have ft : ds.take xs.length = ds := List.take_of_length_le (by omega)
          rw [ft] at eD
          refine ⟨D, ds.map nmD, rfl, .inl (SqL.of eD), by rw [List.length_map]; omega, fun p n np nl nn => ?_⟩
          refine ⟨p, ds.map nmD, n, rfl, upd_same, fun dn => ?_⟩
          have t4 := t3.new (o := SetXO w p (fun k => decide (k ∈ ds.map nmD)) n) np
          refine ⟨.ref a, rfl, a, xs, rfl, .inr (sq _ t4), rfl, ?_⟩
          have := q _ t4
          have eH : heapD (.tuple ds) = decide (V.int (n : Int) = .int (xs.length : Int)) := by
            show (ds.all actD && decide ((ds.map nmD).Nodup)) = _
            rw [hA, Bool.true_and]
            by_cases nd : (ds.map nmD).Nodup
            · have := nn nd
              rw [List.length_map] at this
              rw [decide_eq_true nd, decide_eq_true]
              rw [this, lx]
            · have := dn nd
              rw [List.length_map] at this
              rw [decide_eq_false nd, decide_eq_false]
              intro z
              have := V.int.inj z
              omega
          rw [eH] at this
          exact this
end
end Cu

namespace Cu
open PySem PySem.Spec PyProof.Rows L2
/-! ### _law_is_documents -/
abbrev sLawDoc : Stmt := topS 18
abbrev nLDo : List Str := ["_law_thing", "_law_document"]
theorem scLDo : FnScope nLDo ["_law_thing"] (defScope sLawDoc) := ⟨rfl, rfl, rfl, by decide +kernel, rfl, by decide +kernel, by decide +kernel⟩
theorem nameD_asc {d : PyData} (h : nameD d = true) : Asc (strD d) := by
  cases d with
  | str z => exact name_asc h
  | _ => cases h
section
variable {P : Program} {w : World} {K : PySem.W.Frag} {mg : Str → Option Value} {base : Heap}
def spLawDoc : Sp := fun vs H Q _ => ∃ x d, vs = [x] ∧ Fit1 H x d ∧ ∀ H', Same H H' → Q (.bl (touchD d)) H'
theorem ok_lawDoc {f fN : Addr} {fd fdN : FuncData} (F : Fun K "_law_is_documents" "_law_is_documents" sLawDoc f fd) (DN : Df K mg "_law_is_name" sLawName ["_law_thing"] fN fdN) (T : Bl mg) : FnOk P w K mg base CX0 2 f fd ["_law_thing"] spLawDoc := by
  have GN : FnOk P w K mg base CX0 1 fN fdN ["_law_thing"] (spLawIs K nameB) := ok_lawName DN.F T
  refine F.ok scLDo (fun vs H Q E h => ?_) (fun cdv A outer s H vs Q E hr h => ?_)
  · obtain ⟨x, d, rfl, _⟩ := h
    rfl
  · obtain ⟨x, d, rfl, ⟨dx, inn⟩, q⟩ := h
    refine ⟨_, (pss_cons (ps_if (PW.pt (pw_or (pt_not (pt_val (pe_callB call_isi (by rfl) T.isinstance (by decide +kernel) (pa_cons (pv 0) (pa_cons (pe_bltn (v := .ty "tuple") (by rfl) T.tuple (by decide +kernel) rfl) pa_nil)))))
          (pw_or (pt_cmpR op_lt (pe_callB call_len_seq (by rfl) T.len PySem.boot_len (pa_cons (pv 0) pa_nil)) pe_int (nomark _)) (pw_or1 (pt_cmpR op_gt (pe_callB call_len_seq (by rfl) T.len PySem.boot_len (pa_cons (pv 0) pa_nil)) pe_int (nomark _))))))
        (pss_one (ps_ret pe_bl)) pss_nil)
      (pss_one (ps_ret (pe_and (pe_callB (cr_all rfl) (by rfl) T.all (by decide +kernel) (pa_cons (pe_lc (own := [("_law_document", 1)]) (g := gName 1) (tt := tYes) rfl scLDo.nd (pi_tup (pv 0)) (blkOk_by (own := [("_law_document", 1)]) (N := nLDo) (sc := defScope sLawDoc) (by decide +kernel)) (fun _ _ _ _ _ => (pg_name (i := 1) scLDo.nd rfl (.inl rfl))) (fun _ _ _ _ _ => pts_nil) (fun _ _ _ _ _ => (pe_call GN hr (by rfl) DN.g DN.F.kp DN.b .nil pass0 (pa_cons (pv 1) pa_nil)))) pa_nil))
        (pe_one (pe_cmpR (op_eqD hr.units) (pe_callTy call_list_of (by rfl) T.list (by decide +kernel) (pa_cons (pv 0) pa_nil)) (pe_callB (call_sortX rfl) (by rfl) T.sorted (by decide +kernel) (pa_cons (pe_callTy (call_setX rfl) (by rfl) T.set (by decide +kernel) (pa_cons (pv 0) pa_nil)) pa_nil)) (nomark _))))))), ?_⟩
    have t0 : Same H H := Same.refl _
    refine ⟨x, rfl, _, _, _, _, _, rfl, .ty "tuple", ty_of dx, kit_tup d, _, rfl, ?_⟩
    cases dx with
    | int i => exact iffT rfl (iffT rfl (q _ t0))
    | bl b => exact iffT rfl (iffT rfl (q _ t0))
    | non => exact iffT rfl (iffT rfl (q _ t0))
    | str z => exact iffT rfl (iffT rfl (q _ t0))
    | lst e t => exact iffT rfl (iffT rfl (q _ t0))
    | dct e t => exact iffT rfl (iffT rfl (q _ t0))
    | @tup a xs ds e t =>
      have lx := dx_len t
      have no : ∀ H2, Same H H2 → touchD (.tuple ds) = false → Q (.bl false) H2 := fun H2 t2 z => by
        have := q H2 t2
        rw [z] at this
        exact this
      refine iffF rfl ⟨.ref a, rfl, a, xs, rfl, .inr (SqT.of e), _, 1, rfl, rfl, _, rfl, ?_⟩
      by_cases h1 : (xs.length : Int) < 1
      · refine iffT (decide_eq_true h1) (iffT rfl (no _ t0 ?_))
        show (decide (1 ≤ ds.length) && _ && _) = false
        rw [decide_eq_false (by omega), Bool.false_and, Bool.false_and]
      refine iffF (decide_eq_false h1) ⟨.ref a, rfl, a, xs, rfl, .inr (SqT.of e), _, 4, rfl, rfl, _, rfl, ?_⟩
      by_cases h4 : (xs.length : Int) > 4
      · refine iffT (decide_eq_true h4) (no _ t0 ?_)
        show (decide (1 ≤ ds.length) && decide (ds.length ≤ 4) && _) = false
        rw [decide_eq_false (show ¬ ds.length ≤ 4 by omega), Bool.and_false, Bool.false_and]
      refine iffF (decide_eq_false h4) ?_
      have eT : touchD (.tuple ds) = (ds.all nameD && ascL (ds.map strD)) := by
        show (decide (1 ≤ ds.length) && decide (ds.length ≤ 4) && (ds.all nameD && ascL (ds.map strD))) = _
        rw [decide_eq_true (show 1 ≤ ds.length by omega), decide_eq_true (show ds.length ≤ 4 by omega), Bool.true_and, Bool.true_and]
      refine ⟨.ref a, rfl, a, rfl, ⟨_, SqT.of e⟩, fun D nD => ?_⟩
      refine lc_tup (K := K) (a := a) (xs := xs) (fun i H3 => H3 D = some (.lst (((ds.take i).map nameD).map V.bl)) ∧ Same H H3) ?_ ?_ ?_ ?_
      · exact ⟨upd_same, same_upd nD⟩
      · rintro i H3 _ ⟨_, s3⟩
        exact SqT.of (s3 _ _ e)
      · rintro i x H3 ex ⟨eD, s3⟩
        have hi : i < xs.length := (List.getElem?_eq_some_iff.mp ex).1
        have hd : i < ds.length := by omega
        obtain ⟨v', e1, k1⟩ := dx_get t (List.getElem?_eq_getElem hd)
        rw [ex] at e1
        cases e1
        refine ⟨rfl, lc_yes ?_⟩
        have k3 : Dx H3 x ds[i] := Dx.stays (fun b o eb _ => s3 b o eb) _ _ k1
        refine ⟨x, rfl, x, rfl, thing_of k3 (inn a xs rfl e x (List.mem_of_getElem? ex)), fun H4 s4 => ⟨_, s4 _ _ eD, ?_, ?_, ?_⟩⟩
        · rw [List.length_map, List.length_map, List.length_take]
          exact small1000 (by omega)
        · rw [upd_same, List.take_add_one, List.getElem?_eq_getElem hd, List.map_append, List.map_append, nameB_D k1]
          rfl
        · exact same_put (s3.trans s4) nD
      · rintro H3 ⟨eD, s3⟩
        have ft : ds.take xs.length = ds := List.take_of_length_le (by omega)
        rw [ft] at eD
        refine ⟨D, ds.map nameD, rfl, SqL.of eD, _, rfl, ?_⟩
        have eA : (ds.map nameD).all id = ds.all nameD := by
          rw [List.all_map]
          rfl
        rw [eA]
        cases hA : ds.all nameD with
        | false =>
          refine iffF rfl (no _ s3 ?_)
          rw [eT, hA, Bool.false_and]
        | true =>
        refine iffT rfl ?_
        have ex := names_strs t hA
        have e3 : H3 a = some (.tup ((ds.map strD).map V.str)) := by
          rw [← ex]
          exact s3 _ _ e
        have asc : ∀ z ∈ ds.map strD, Asc z := fun z m => by
          obtain ⟨d, md, rfl⟩ := List.mem_map.mp m
          exact nameD_asc (List.all_eq_true.mp hA d md)
        refine ⟨.ref a, rfl, a, _, rfl, .inr (SqT.of e3), fun G nG => ?_⟩
        have eG : (upd H3 G (.lst ((ds.map strD).map V.str))) G = some (.lst ((ds.map strD).map V.str)) := upd_same
        have e4 := same_upd (o := .lst ((ds.map strD).map V.str)) nG _ _ e3
        have s4 := s3.trans (same_upd (o := .lst ((ds.map strD).map V.str)) nG)
        generalize upd H3 G (.lst ((ds.map strD).map V.str)) = H4 at eG e4 s4 ⊢
        refine ⟨.ref a, rfl, a, ds.map strD, rfl, .inr (SqT.of e4), by rw [List.length_map]; omega, fun p n np _ _ => ?_⟩
        refine ⟨p, _, n, rfl, upd_same, fun ks nd hk => ?_, fun ys r nd so mem len nr => ?_⟩
        · have : ks.length ≤ (ds.map strD).length := nodup_len nd fun k m => of_decide_eq_true (hk k m)
          rw [List.length_map] at this
          omega
        have m2 : ∀ k, k ∈ ys ↔ k ∈ ds.map strD := fun k => by
          rw [mem k]
          exact decide_eq_true_iff
        have asy : ∀ z ∈ ys, Asc z := fun z m => asc z ((m2 z).mp m)
        have eG2 := same_upd (o := .lst (ys.map V.str)) nr _ _ (same_upd np _ _ eG)
        refine ⟨.list ((ds.map strD).map PyData.str), .list (ys.map PyData.str), dp_strs (SqL.of eG2), dp_strs (SqL.of upd_same), shaped_strs asc, shaped_strs asy, ?_⟩
        rw [eqv_strs, asc_same nd so m2]
        have := q _ (s4.trans ((same_upd np).trans (same_upd (o := .lst (ys.map V.str)) nr)))
        rw [eT, hA, Bool.true_and] at this
        exact this
end
end Cu

namespace Cu
open PySem PySem.Spec PyProof.Rows L2
/-! ### _law_is_heap -/
abbrev sLawHp : Stmt := topS 19
abbrev nLHp : List Str := ["_law_thing", "_law_names", "_law_action"]
theorem scLHp : FnScope nLHp ["_law_thing"] (defScope sLawHp) := ⟨rfl, rfl, rfl, by decide +kernel, rfl, by decide +kernel, by decide +kernel⟩
theorem in_str {z : Str} : ∀ {xs : List V}, (∀ v ∈ xs, ∃ s, v = .str s) → (inV (.str z) xs = true ↔ V.str z ∈ xs) := by
  intro xs h
  unfold inV
  rw [List.any_eq_true]
  constructor
  · rintro ⟨v, m, e⟩
    obtain ⟨s, rfl⟩ := h v m
    have : s = z := by simpa [eqV] using e
    rw [← this]
    exact m
  · intro m
    exact ⟨_, m, by simp [eqV]⟩
theorem in_map {z : Str} {l : List Str} : inV (.str z) (l.map V.str) = true ↔ z ∈ l :=
  (in_str (fun v m => by obtain ⟨s, _, rfl⟩ := List.mem_map.mp m; exact ⟨s, rfl⟩)).trans ⟨fun m => by
    obtain ⟨s, hs, e⟩ := List.mem_map.mp m
    cases e
    exact hs, List.mem_map_of_mem⟩
theorem flat_map (l : List Str) : (l.map V.str).all flatV = true := by
  rw [List.all_eq_true]
  intro v m
  obtain ⟨z, _, rfl⟩ := List.mem_map.mp m
  rfl
theorem heap_no {ds : List PyData} {i : Nat} {d : PyData} (h : ds[i]? = some d) (e : actD d = false) : heapD (.tuple ds) = false := by
  show (ds.all actD && _) = false
  have : ds.all actD = false := by
    cases z : ds.all actD with
    | false => rfl
    | true =>
      have := List.all_eq_true.mp z d (List.mem_of_getElem? h)
      rw [e] at this
      cases this
  rw [this, Bool.false_and]
theorem heap_dup {ds : List PyData} {i : Nat} {d : PyData} (h : ds[i]? = some d) (m : nmD d ∈ (ds.take i).map nmD) : heapD (.tuple ds) = false := by
  show (_ && decide ((ds.map nmD).Nodup)) = false
  rw [decide_eq_false, Bool.and_false]
  intro nd
  obtain ⟨hi, e⟩ := List.getElem?_eq_some_iff.mp h
  have sp : ds.map nmD = (ds.take i).map nmD ++ (ds.drop i).map nmD := by rw [← List.map_append, List.take_append_drop]
  rw [sp] at nd
  have md : nmD d ∈ (ds.drop i).map nmD := by
    refine List.mem_map_of_mem ?_
    rw [← e]
    exact List.mem_drop_iff_getElem.mpr ⟨0, by omega, by simp⟩
  exact (List.nodup_append.mp nd).2.2 _ m _ md rfl
section
variable {P : Program} {w : World} {K : PySem.W.Frag} {mg : Str → Option Value} {base : Heap}
def spLawHp : Sp := fun vs H Q _ => ∃ x d, vs = [x] ∧ FitH H x d ∧ ∀ H', Same H H' → Q (.bl (heapD d)) H'
theorem ok_lawHp {f fN fD : Addr} {fd fdN fdD : FuncData} (F : Fun K "_law_is_heap" "_law_is_heap" sLawHp f fd) (DN : Df K mg "_law_is_name" sLawName ["_law_thing"] fN fdN) (DD : Df K mg "_law_is_documents" sLawDoc ["_law_thing"] fD fdD) (T : Bl mg) : FnOk P w K mg base CX0 3 f fd ["_law_thing"] spLawHp := by
  have GN : FnOk P w K mg base CX0 1 fN fdN ["_law_thing"] (spLawIs K nameB) := ok_lawName DN.F T
  have GD : FnOk P w K mg base CX0 2 fD fdD ["_law_thing"] spLawDoc := ok_lawDoc DD.F DN T
  refine F.ok scLHp (fun vs H Q E h => ?_) (fun cdv A outer s H vs Q E hr h => ?_)
  · obtain ⟨x, d, rfl, _⟩ := h
    rfl
  · obtain ⟨x, d, rfl, ⟨dx, inn⟩, q⟩ := h
    refine ⟨_, (pss_cons (ps_if (pt_not (pt_val (pe_callB call_isi (by rfl) T.isinstance (by decide +kernel) (pa_cons (pv 0) (pa_cons (pe_bltn (v := .ty "tuple") (by rfl) T.tuple (by decide +kernel) rfl) pa_nil)))))
        (pss_one (ps_ret pe_bl)) pss_nil)
      (pss_cons (ps_set (i := 1) scLHp.nd rfl (.inl rfl) (pe_lst pa_nil))
      (pss_cons (ps_for PassesOwn.never rfl (pi_tup (pv 0)) (pg_name (i := 2) scLHp.nd rfl (.inl rfl))
        (pss_cons (ps_if (PW.pt (pw_or (pt_not (pt_val (pe_callB call_isi (by rfl) T.isinstance (by decide +kernel) (pa_cons (pv 2) (pa_cons (pe_bltn (v := .ty "tuple") (by rfl) T.tuple (by decide +kernel) rfl) pa_nil)))))
            (pw_or (pt_cmpR op_ne (pe_callB call_len_seq (by rfl) T.len PySem.boot_len (pa_cons (pv 2) pa_nil)) pe_int (nomark _)) (pw_or1 (pt_not (pt_val (pe_call GN (hr.mono (by decide)) (by rfl) DN.g DN.F.kp DN.b .nil pass0 (pa_cons (pe_ix ix_tup (pv 2) pe_int (fun _ _ => rfl)) pa_nil))))))))
          (pss_one (ps_ret pe_bl)) pss_nil)
        (pss_cons (ps_if (PW.pt (pw_or (pt_not (pt_val (pe_call GD hr (by rfl) DD.g DD.F.kp DD.b .nil pass0 (pa_cons (pe_ix ix_tup (pv 2) pe_int (fun _ _ => rfl)) pa_nil))))
            (pw_or1 (pt_cmpR op_in_seq (pe_ix ix_tup (pv 2) pe_int (fun _ _ => rfl)) (pv 1) (by rfl)))))
          (pss_one (ps_ret pe_bl)) pss_nil)
        (pss_one (ps_expr (pe_bm PySem.F.plainAttrs_list PySem.F.slot_list_append PySem.F.type_list_append mt_append (pv 1) (pa_cons (pe_ix ix_tup (pv 2) pe_int (fun _ _ => rfl)) pa_nil)))))))
      (pss_one (ps_ret pe_bl))))), ?_⟩
    have t0 : Same H H := Same.refl _
    refine ⟨x, rfl, _, _, _, _, _, rfl, .ty "tuple", ty_of dx, kit_tup d, _, rfl, ?_⟩
    cases dx with
    | int i => exact iffT rfl (q _ t0)
    | bl b => exact iffT rfl (q _ t0)
    | non => exact iffT rfl (q _ t0)
    | str z => exact iffT rfl (q _ t0)
    | lst e t => exact iffT rfl (q _ t0)
    | dct e t => exact iffT rfl (q _ t0)
    | @tup a xs ds e t =>
      have lx := dx_len t
      obtain ⟨xl, fits⟩ := inn a xs rfl e
      have no : ∀ H2, Same H H2 → heapD (.tuple ds) = false → Q (.bl false) H2 := fun H2 t2 z => by
        have := q H2 t2
        rw [z] at this
        exact this
      refine iffF rfl ⟨by show 0 ≤ sizeLine; decide, fun l nl => ?_⟩
      refine ⟨.ref a, rfl, a, rfl, ⟨_, SqT.of (same_upd nl _ _ e)⟩, ?_⟩
      refine for_tup (K := K) (a := a) (xs := xs) (fun i σ H1 => ∃ y2 : Option V, σ = [some (.ref a), some (.ref l), y2] ∧ Same H H1 ∧ H1 l = some (.lst (((ds.take i).map nmD).map V.str)) ∧ (ds.take i).all actD = true ∧ ((ds.take i).map nmD).Nodup) ?_ ?_ ?_ ?_
      · exact ⟨_, rfl, same_upd nl, upd_same, rfl, .nil⟩
      · rintro i σ H1 _ ⟨_, _, s1, _⟩
        exact SqT.of (s1 _ _ e)
      · rintro i x σ H1 ex ⟨y2, rfl, s1, el, al, nd⟩
        have hi : i < xs.length := (List.getElem?_eq_some_iff.mp ex).1
        have hd : i < ds.length := by omega
        have hg : ds[i]? = some ds[i] := List.getElem?_eq_getElem hd
        obtain ⟨v', e1, k1⟩ := dx_get t hg
        rw [ex] at e1
        cases e1
        have fx := fits x (List.mem_of_getElem? ex) _ k1
        have kH1 : Dx H1 x ds[i] := Dx.stays (fun b o eb _ => s1 b o eb) _ _ k1
        have tk : ds.take (i + 1) = ds.take i ++ [ds[i]] := by
          rw [List.take_add_one, hg]
          rfl
        refine ⟨x, rfl, _, _, _, _, _, rfl, .ty "tuple", ty_of kH1, kit_tup ds[i], _, rfl, ?_⟩
        generalize ds[i] = d0 at hg k1 kH1 fx tk ⊢
        have bad : ∀ H2, Same H H2 → actD d0 = false → Q (.bl false) H2 := fun H2 s2 z => no H2 s2 (heap_no hg z)
        cases k1 with
        | int i => exact iffT rfl (iffT rfl (bad _ s1 rfl))
        | bl b => exact iffT rfl (iffT rfl (bad _ s1 rfl))
        | non => exact iffT rfl (iffT rfl (bad _ s1 rfl))
        | str z => exact iffT rfl (iffT rfl (bad _ s1 rfl))
        | lst e t => exact iffT rfl (iffT rfl (bad _ s1 rfl))
        | dct e t => exact iffT rfl (iffT rfl (bad _ s1 rfl))
        | @tup b ys es eb tb =>
          refine iffF rfl ⟨.ref b, rfl, b, ys, rfl, .inr (SqT.of (s1 _ _ eb)), rfl, _, rfl, ?_⟩
          by_cases h2 : ¬ ys.length = 2
          · refine iffT ?_ (iffT rfl (bad _ s1 (actD_len (by rw [← dx_len tb]; exact h2))))
            have : ¬ (V.int (ys.length : Int) = .int 2) := fun z => h2 (by have := V.int.inj z; omega)
            rw [decide_eq_false this]
            rfl
          have h2 := Decidable.not_not.mp h2
          refine iffF (by rw [h2]; decide) ?_
          match ys, es, eb, tb, h2 with
          | [y1, y2], [e1, e2], eb, .cons c1 (.cons c2 .nil), _ =>
            have fb := fx.inn b _ rfl eb
            have c1' : Dx H1 y1 e1 := Dx.stays (fun b o eb _ => s1 b o eb) _ _ c1
            refine ⟨.ref b, rfl, b, _, 0, y1, rfl, rfl, SqT.of (s1 _ _ eb), rfl, y1, rfl, thing_of c1' (fb y1 (by simp)).1, fun H2 s2 => ⟨_, rfl, ?_⟩⟩
            have s12 := s1.trans s2
            rw [nameB_D c1]
            cases hn : nameD e1 with
            | false =>
              refine iffT rfl (bad _ s12 ?_)
              show (nameD e1 && touchD e2) = false
              rw [hn, Bool.false_and]
            | true =>
            refine iffF rfl ?_
            have f2 : Fit1 H2 y2 e2 := ((fb y2 (by simp)).2 e2 c2).stays (ps := []) ⟨fun b o _ eb => s12 b o eb, fun p hp => nomatch hp⟩ (fun p hp => nomatch hp)
            refine ⟨.ref b, rfl, b, _, 1, y2, rfl, rfl, SqT.of (s12 _ _ eb), rfl, y2, e2, rfl, f2, fun H3 s3 => ⟨_, rfl, ?_⟩⟩
            have s13 := s12.trans s3
            have el3 := s3 _ _ (s2 _ _ el)
            cases ht : touchD e2 with
            | false =>
              refine iffT rfl (iffT rfl (bad _ s13 ?_))
              show (nameD e1 && touchD e2) = false
              rw [ht, Bool.and_false]
            | true =>
            refine iffF rfl ?_
            cases c1 with
            | str z =>
              refine ⟨.ref b, rfl, b, _, 0, .str z, rfl, rfl, SqT.of (s13 _ _ eb), rfl, .ref l, rfl, l, _, rfl, .inl (SqL.of el3), rfl, flat_map _, _, rfl, ?_⟩
              by_cases hin : inV (.str z) (((ds.take i).map nmD).map V.str) = true
              · refine iffT hin (no _ s13 (heap_dup hg ?_))
                exact in_map.mp hin
              · refine iffF (by simpa using hin) ?_
                refine ⟨.ref l, rfl, .inl ⟨rfl, _, SqL.of el3⟩, .ref b, rfl, b, _, 0, .str z, rfl, rfl, SqT.of (s13 _ _ eb), rfl, l, _, _, rfl, rfl, el3, ?_, ?_⟩
                · rw [List.length_map, List.length_map, List.length_take]
                  exact small1000 (by omega)
                · refine ⟨_, rfl, same_put s13 nl, ?_, ?_, ?_⟩
                  · rw [upd_same, tk, List.map_append, List.map_append]
                    rfl
                  · rw [tk, List.all_append, al, Bool.true_and, List.all_cons, List.all_nil, Bool.and_true]
                    show (nameD (.str z) && touchD e2) = true
                    rw [hn, ht]
                    rfl
                  · rw [tk, List.map_append]
                    refine List.nodup_append.mpr ⟨nd, by simp, fun u mu v mv => ?_⟩
                    have mv' : v = z := List.mem_singleton.mp mv
                    rw [mv']
                    rintro rfl
                    exact hin (in_map.mpr mu)
            | _ => cases hn
      · rintro σ H1 ⟨y2, rfl, s1, el, al, nd⟩
        have ft : ds.take xs.length = ds := List.take_of_length_le (by omega)
        rw [ft] at al nd
        have := q _ s1
        have eH : heapD (.tuple ds) = true := by
          show (ds.all actD && decide ((ds.map nmD).Nodup)) = true
          rw [al, decide_eq_true nd]
          rfl
        rw [eH] at this
        exact this
end
end Cu

namespace Cu
open PySem PySem.Spec PyProof.Rows L2
abbrev sSub : Stmt := topS 15
abbrev nSub : List Str := ["_law_hand_here", "_law_some", "_law_count", "_law_left", "_law_turn", "_law_at"]
theorem scSub : FnScope nSub ["_law_hand_here", "_law_some", "_law_count"] (defScope sSub) := ⟨rfl, rfl, rfl, by decide +kernel, rfl, by decide +kernel, by decide +kernel⟩
def ixV (is : List Nat) : List V := is.map fun (i : Nat) => V.int (i : Int)
theorem ixV_erase (is : List Nat) (k : Nat) : (ixV is).eraseIdx k = ixV (is.eraseIdx k) := by
  unfold ixV
  induction is generalizing k with
  | nil => rfl
  | cons i r ih =>
    cases k with
    | zero => rfl
    | succ k =>
      show _ :: (List.map _ r).eraseIdx k = _ :: _
      rw [ih]
theorem pick_all {α : Type} (zs : List α) (d : α) : (List.range zs.length).map (fun i => zs.getD i d) = zs := by
  apply List.ext_getElem
  · rw [List.length_map, List.length_range]
  · intro i h1 h2
    rw [List.getElem_map, List.getElem_range, List.getD_eq_getElem?_getD, List.getElem?_eq_getElem h2]
    rfl
section
variable {P : Program} {w : World} {K : PySem.W.Frag} {mg : Str → Option Value} {base : Heap}
def spSub : Sp := fun vs H Q _ => ∃ (a so : Addr) (zs : List V) (c n : Nat), vs = [.ref a, .ref so, .int (c : Int)] ∧ Hand H a n ∧ n + 1000 < 2 ^ 40 ∧ so ≠ a ∧ H so = some (.lst zs) ∧ c ≤ zs.length ∧ zs.length ≤ 100 ∧
  ∀ H' t ys, Upto a H H' → Hand H' a (n + 100) → H t = none → H' t = some (.tup ys) → ys.Sublist zs → ys.length = c → Q (.ref t) H'
theorem ok_sub {f fT : Addr} {fd fdT : FuncData} {k : Nat} (F : Fun K "_law_subset" "_law_subset" sSub f fd) (DT : Df K mg "_law_take" sTake ["_law_hand_here", "_law_many"] fT fdT) (T : Bl mg) : FnOk P w K mg base CX0 (k + 2) f fd ["_law_hand_here", "_law_some", "_law_count"] spSub := by
  have GT : FnOk P w K mg base CX0 1 fT fdT _ spTake := ok_take DT.F T
  refine F.ok scSub (fun vs H Q E h => ?_) (fun cdv A outer s H vs Q E hr h => ?_)
  · obtain ⟨a, so, zs, c, n, rfl, _⟩ := h
    rfl
  · obtain ⟨a, so, zs, c, n, rfl, hH, hn, sa, es, cz, z1, q⟩ := h
    refine ⟨_, (pss_cons (ps_set (i := 3) scSub.nd rfl (.inl rfl) (pe_listRg rfl (by rfl) T.list (prg_1 (by rfl) T.range (pe_callB call_len_seq (by rfl) T.len PySem.boot_len (pa_cons (pv 1) pa_nil)))))
  (pss_cons (ps_for PassesOwn.never rfl (pi_range1 (by rfl) T.range (pa_cons (pe_op op_sub (pe_callB call_len_seq (by rfl) T.len PySem.boot_len (pa_cons (pv 1) pa_nil)) (pv 2)) pa_nil)) (pg_name (i := 4) scSub.nd rfl (.inl rfl))
  (pss_one (ps_expr (pe_bm PySem.F.plainAttrs_list PySem.F.slot_list_pop PySem.F.type_list_pop mt_popAt (pv 3) (pa_cons (pe_call GT (hr.mono (by omega)) (by rfl) DT.g DT.F.kp DT.b .nil pass0 (pa_cons (pv 0) (pa_cons (pe_callB call_len_seq (by rfl) T.len PySem.boot_len (pa_cons (pv 3) pa_nil)) pa_nil))) pa_nil)))))
  (pss_one (ps_ret (pe_callTy call_tuple_of (by rfl) T.tuple (by decide +kernel) (pa_cons (pe_lc (own := [("_law_at", 5)]) (g := gName 5) (tt := tYes) rfl scSub.nd (pi_list (pv 3)) (blkOk_by (own := [("_law_at", 5)]) (N := nSub) (sc := defScope sSub) (by decide +kernel)) (fun _ _ _ _ _ => (pg_name (i := 5) scSub.nd rfl (.inl rfl))) (fun _ _ _ _ _ => pts_nil) (fun _ _ _ _ _ => (pe_ix (show IxR _ (rIxL K) from ix_list) (pv 1) (pv 5) (fun _ _ => rfl)))) pa_nil)))))), ?_⟩
    refine ⟨.ref so, rfl, so, zs, rfl, .inl (SqL.of es), _, rfl, RgOk.of_le (by omega) (by omega) (by omega) (by omega), fun lf nlf => ?_⟩
    have la : lf ≠ a := Hand.ne hH.some nlf
    have lso : so ≠ lf := ne_of_none es nlf
    have e0 : rgV 0 (zs.length : Int) = ixV (List.range zs.length) := by
      unfold rgV ixV
      rw [show ((zs.length : Int) - 0).toNat = zs.length by omega]
      exact List.map_congr_left fun i _ => by rw [Int.zero_add]
    rw [e0]
    refine ⟨.ref so, rfl, so, zs, rfl, .inl (SqL.of ((upd_ne lso).trans es)), .int c, rfl, zs.length, c, rfl, rfl, _, rfl, by omega, by omega, ?_⟩
    refine for_range (lo := 0) (n := ((zs.length : Int) - c).toNat) (fun i σ H1 => ∃ (y4 y5 : Option V) (is : List Nat), σ = [some (.ref a), some (.ref so), some (.int c), some (.ref lf), y4, y5] ∧ Upto a H H1 ∧ Hand H1 a (n + i) ∧ H1 lf = some (.lst (ixV is)) ∧ is.Sublist (List.range zs.length) ∧ is.length + i = zs.length) ?_ ?_ ?_
    · exact ⟨none, none, List.range zs.length, rfl, .new nlf, hH.new nlf, upd_same, List.Sublist.refl _, by rw [List.length_range]; rfl⟩
    · rintro i σ H1 hi ⟨y4, y5, is, rfl, u1, h1, el, sub, len⟩
      have isl : (ixV is).length = is.length := List.length_map _
      refine ⟨.ref lf, rfl, .inl ⟨rfl, _, SqL.of el⟩, .ref a, rfl, .ref lf, rfl, lf, _, rfl, .inl (SqL.of el), a, _, n + i, rfl, h1, by omega, by omega, by omega, fun H2 d u2 h2 d0 d1 => ?_⟩
      have el2 : H2 lf = _ := u2 lf _ la el
      obtain ⟨v, g1, g2⟩ := at_of (xs := ixV is) d0 d1
      obtain ⟨j, s1, s2, s3, _, _⟩ := atI_get g2
      refine ⟨lf, _, d, j, v, rfl, rfl, el2, by omega, by omega, s1, s2, ?_⟩
      rw [ixV_erase]
      refine ⟨_, _, is.eraseIdx j, rfl, (u1.trans u2).put nlf, (h2.at (upd_ne la.symm)).mono (by omega), upd_same, (List.eraseIdx_sublist _ _).trans sub, ?_⟩
      rw [List.length_eraseIdx, if_pos (by omega)]
      omega
    · rintro σ H1 ⟨y4, y5, is, rfl, u1, h1, el, sub, len⟩
      have esz : H1 so = some (.lst zs) := u1 so _ sa es
      refine ⟨.ref lf, rfl, lf, rfl, ⟨_, SqL.of el⟩, fun D nD => ?_⟩
      have Da := Hand.ne h1.some nD
      have Dso : so ≠ D := ne_of_none esz nD
      have Dlf : lf ≠ D := ne_of_none el nD
      have isl : (ixV is).length = is.length := List.length_map _
      refine lc_list (K := K) (a := lf) (xs := ixV is) (fun i H2 => H2 = upd H1 D (.lst ((is.take i).map fun i => zs.getD i .non))) ?_ ?_ ?_ ?_
      · rfl
      · rintro i H2 _ rfl
        exact SqL.of ((upd_ne Dlf).trans el)
      · rintro i x H2 hx rfl
        unfold ixV at hx
        rw [List.getElem?_map] at hx
        obtain ⟨j, hj, rfl⟩ := Option.map_eq_some_iff.mp hx
        have jm := List.mem_range.mp (sub.subset (List.mem_of_getElem? hj))
        refine ⟨rfl, lc_yes ?_⟩
        obtain ⟨v, g1, g2⟩ := at_of (xs := zs) (i := (j : Int)) (by omega) (by omega)
        refine ⟨.ref so, rfl, .int j, rfl, so, zs, j, v, rfl, rfl, SqL.of ((upd_ne Dso).trans esz), g2, _, upd_same, ?_, ?_⟩
        · rw [List.length_map]
          rw [List.length_take]
          exact small1000 (by omega)
        · rw [upd_upd, List.take_add_one, hj, List.map_append]
          have ev : zs.getD j .non = v := by
            rw [List.getD_eq_getElem?_getD]
            rw [Int.toNat_natCast] at g1
            rw [g1]
            rfl
          show _ = upd H1 D (.lst (_ ++ [zs.getD j .non]))
          rw [ev]
      · rintro H2 rfl
        rw [isl, List.take_length]
        refine ⟨D, _, rfl, .inl ⟨SqL.of upd_same, fun t nt => ?_⟩⟩
        have uD : Upto a H (upd H1 D _) := u1.trans (.new (o := .lst (is.map fun i => zs.getD i .non)) nD)
        have ta : t ≠ a := Hand.ne (h1.new nD).some nt
        refine q _ t (is.map fun i => zs.getD i .non) (uD.trans (.new nt)) (((h1.new nD).new nt).mono (by omega)) (uD.free ta nt) upd_same ?_ ?_
        · have := sub.map (fun i => zs.getD i .non)
          rw [pick_all] at this
          exact this
        · rw [List.length_map]
          omega
end
end Cu

namespace Cu
open PySem PySem.Spec PyProof.Rows L2
/-! ### any(x in others for x in documents) -/
theorem src_tuple {prog : Program} {w : World} {P t : Addr} {s1 : Shared} {items : Array Value} (ht : s1.heap.IsTuple t items) (hP : P < s1.heap.objs.size) (nP : t ≠ P) : Src prog w P s1 (.ref t) items.size (fun i v => items[i]? = some v) := by
  intro A E Q h hh
  have lt : t < s1.heap.objs.size := by
    obtain ⟨o, e, _⟩ := ht
    exact Heap.lt_size e
  apply wpAny_pyIter_tuple ht
  refine h _ [s1.heap.objs.size, t] _ (fun A' hA => Walks.tuple hA _ t (Nat.ne_of_lt lt) items) ⟨⟨_, Heap.get?_push_size _ rfl, rfl, rfl⟩, ht.push _⟩ ?_
  intro b hb
  rcases List.mem_cons.mp hb with rfl | z
  · exact ⟨Nat.le_refl _, fun e => Nat.lt_irrefl _ (e ▸ hP)⟩
  · rw [List.mem_singleton.mp z]
    exact ⟨Nat.le_of_lt lt, nP⟩
theorem src_list {prog : Program} {w : World} {P t : Addr} {s1 : Shared} {items : Array Value} (ht : s1.heap.IsList t items) (hP : P < s1.heap.objs.size) (nP : t ≠ P) : Src prog w P s1 (.ref t) items.size (fun i v => items[i]? = some v) := by
  intro A E Q h hh
  have lt : t < s1.heap.objs.size := by
    obtain ⟨o, e, _⟩ := ht
    exact Heap.lt_size e
  apply wpAny_pyIter_list ht
  refine h _ [s1.heap.objs.size, t] _ (fun A' hA => Walks.list hA _ t (Nat.ne_of_lt lt) items) ⟨⟨_, Heap.get?_push_size _ rfl, rfl, rfl⟩, ht.at fun o e => Heap.get?_push_of_some _ e⟩ ?_
  intro b hb
  rcases List.mem_cons.mp hb with rfl | z
  · exact ⟨Nat.le_refl _, fun e => Nat.lt_irrefl _ (e ▸ hP)⟩
  · rw [List.mem_singleton.mp z]
    exact ⟨Nat.le_of_lt lt, nP⟩
/-- what a rule for any(..) asks, by the frame's names -/
def GenRs (X : Cx) (P : Addr) (scope : Scope) (x : Str) (elt : Expr) (R : L2.St → V → Hp → Nat → (Nat → Bool) → Prop) : Prop :=
  ∀ pins σ v H1 s1 u n tr, R σ v H1 n tr → GxR.TabG H1 P → Inv X pins σ H1 s1 → RelV v u → P < s1.heap.objs.size → ∃ Pf F, Src X.prog X.w P s1 u n Pf ∧ Calm X P scope x elt s1 Pf F ∧ TruthOf X.prog X.w X.A.in1 F tr
def tAnyG (P : Addr) (te : TE) (R : L2.St → V → Hp → Nat → (Nat → Bool) → Prop) : TE := fun σ H Q => te σ H fun v H1 => GxR.TabG H1 P ∧ ∃ n tr, R σ v H1 n tr ∧ ∀ H2, GxR.Tabbed P H1 H2 → Q (.bl ((List.range n).any tr)) H2
section
variable {X : Cx}
theorem pe_anyG {c P : Addr} {elt iter : Expr} {x : Str} {px p pos gpos : Pos} {scope : Scope} {te : TE} {k : Nat} {R : L2.St → V → Hp → Nat → (Nat → Bool) → Prop}
    (hr : Room k X.A) (hg : Gl X "any") (hm : X.mg "any" = none) (TB : GxR.TabB X.base X.mg c P) (hcode : X.env.code = .ref c) (S : GxR.GenS X.env scope x) (hi : PE X iter te) (rule : GenRs X P scope x elt R)
    (hs : ∀ v, genFold iter X.env v = pure v := by intro _; rfl)
    (he : starEach [.GeneratorExp elt [⟨.Name x px, iter, [], 0⟩] scope gpos] X.env = (false, eval (.GeneratorExp elt [⟨.Name x px, iter, [], 0⟩] scope gpos) X.env) :: starEach [] X.env := by rfl) :
    PE X (.Call (.Name "any" p) [.GeneratorExp elt [⟨.Name x px, iter, [], 0⟩] scope gpos] [] pos) (tAnyG P te R) := by
  constructor
  intro pins s σ H Q I h
  apply wpAny_Call_Name_kw
  apply ld_blt I hg hm (show bootBuiltins "any" = some (.builtin "any") by decide +kernel)
  apply PyProof.Rows.callWith_builtin1 _ he (by rfl)
  rw [he]
  show wpAny _ _ (spliced ((false, eval (.GeneratorExp elt [⟨.Name x px, iter, [], 0⟩] scope gpos) X.env) :: backTo pos (starEach [] X.env))) _ _ s
  apply Calls.spliced_cons
  apply gen_make (R := fun v H1 => ∃ n tr, R σ v H1 n tr ∧ ∀ H2, GxR.Tabbed P H1 H2 → Q (.bl ((List.range n).any tr)) H2) hr TB hcode S hi hs I h
  rintro v H1 s1 u ⟨n, tr, hR, q⟩ tab I1 ru ltP
  obtain ⟨Pf, F, sc, calm, tru⟩ := rule pins σ v H1 s1 u n tr hR tab I1 ru ltP
  refine ⟨n, Pf, F, sc, calm, ?_⟩
  rintro g s5 ⟨fp, wr, G, go, W, st, inv⟩
  apply Calls.spliced_nil
  apply call_any_walkS
  apply W.self 0 _ _ _ st
  refine ⟨g, fp, wr, G, n, F, go, tr, rfl, W, st, tru, ?_⟩
  intro s' mv
  obtain ⟨H2, tb, J⟩ := inv s' mv
  exact ⟨.bl _, H2, J, rfl, q H2 tb⟩
/-- the i-th of xs lies in ys -/
def inAt (xs ys : List V) (i : Nat) : Bool := match xs[i]? with
  | some x => inV x ys
  | none => false
theorem inAt_any (xs ys : List V) : (List.range xs.length).any (inAt xs ys) = xs.any fun x => inV x ys := by
  rw [Bool.eq_iff_iff, List.any_eq_true, List.any_eq_true]
  constructor
  · rintro ⟨i, hi, h⟩
    have lt := List.mem_range.mp hi
    unfold inAt at h
    rw [List.getElem?_eq_getElem lt] at h
    exact ⟨_, List.getElem_mem lt, h⟩
  · rintro ⟨x, hx, h⟩
    obtain ⟨i, lt, e⟩ := List.getElem_of_mem hx
    refine ⟨i, List.mem_range.mpr lt, ?_⟩
    unfold inAt
    rw [List.getElem?_eq_getElem lt, e]
    exact h
def RIn (K : PySem.W.Frag) (j : Nat) : L2.St → V → Hp → Nat → (Nat → Bool) → Prop := fun σ v H n tr => ∃ t p xs ys, v = .ref t ∧ SqT K H t xs ∧ σ[j]? = some (some (.ref p)) ∧ (SqL K H p ys ∨ SqT K H p ys) ∧ xs.all flatV = true ∧ ys.all flatV = true ∧ n = xs.length ∧ tr = inAt xs ys
theorem vals_at : ∀ {xs : List V} {us : List Value} {i : Nat} {u : Value}, Vals xs us → us[i]? = some u → ∃ x, xs[i]? = some x ∧ RelV x u
  | _, _, _, _, .nil, e => by cases e
  | x :: xs, u :: us, 0, _, .cons r t, e => by
    cases e
    exact ⟨x, rfl, r⟩
  | x :: xs, u :: us, i + 1, _, .cons r t, e => vals_at (i := i) t e
theorem vals_len : ∀ {xs : List V} {us : List Value}, Vals xs us → us.length = xs.length
  | _, _, .nil => rfl
  | _, _, .cons _ t => by rw [List.length_cons, List.length_cons, vals_len t]
theorem genR_in {P : Addr} {scope : Scope} {x o : Str} {j : Nat} {p1 p2 p3 : Pos} (hk : scope.kind = .function) (hl : scope.names.lookup x = some .local) (ho : scope.names.lookup o = some .free) (hj : X.N[j]? = some o) (hv : X.env.scope.names.lookup o = some .cell) (hc : X.env.kindOf o = some .cell)
    (clo : ∀ (cells : List (Str × Addr)) c, cells.lookup o = some c → (cloFrom cells scope.names []).lookup o = some c) (hd : (x == ("__debug__" : Str)) = false := by decide) (hd2 : (o == ("__debug__" : Str)) = false := by decide) (hd3 : (o == ("__classdict__" : Str)) = false := by decide) :
    GenRs X P scope x (.Compare (.Name x p1) [.In] [.Name o p2] p3) (RIn X.K j) := by
  rintro pins σ v H1 s1 u n tr ⟨t, p, xs, ys, rfl, hx, hσ, hy, fx, fy, rfl, rfl⟩ ⟨ps, hP, _⟩ I ru ltP
  cases ru
  have isP : s1.heap.get? P = some { cls := .none, data := .fields ps } := I.hok P _ hP
  obtain ⟨its, r, pl, _⟩ := I.tuple hx
  have notP : ∀ b ob, s1.heap.get? b = some ob → (∀ z, ob.data ≠ .fields z) → b ≠ P := by
    intro b ob e nf z
    rw [z, isP] at e
    cases e
    exact nf _ rfl
  have plT : s1.heap.IsTuple t its.toArray := pl
  have tP : t ≠ P := by
    obtain ⟨ob, e, _, m, hd⟩ := pl
    exact notP t ob e fun z e2 => by rw [hd] at e2; cases e2
  obtain ⟨m, _, look⟩ := I.loc
  obtain ⟨u, rp, lk⟩ := look j o _ hj hσ (.inr (.inl hv))
  cases rp
  obtain ⟨c, hcl, hcell⟩ : ∃ c, X.env.cells.lookup o = some c ∧ s1.heap.IsCell c (some (.ref p)) := by
    rcases lk with ⟨k1, _⟩ | ⟨_, k2⟩
    · rw [hc] at k1
      cases k1
    · exact k2
  refine ⟨fun i v => its.toArray[i]? = some v, fun i y => ∃ x, xs[i]? = some x ∧ y = .bool (inV x ys), ?_, ?_, ?_⟩
  · have := src_tuple (prog := X.prog) (w := X.w) plT ltP tP
    rw [List.size_toArray, vals_len r] at this
    exact this
  · intro cenv A' E' i v s2 m2 e1 e2 e3 e4 hh hv2 hn hm keep
    have hv3 : its[i]? = some v := by
      rw [List.getElem?_toArray] at hv2
      exact hv2
    obtain ⟨x', hx', rx⟩ := vals_at r hv3
    have f1 : flatV x' = true := List.all_eq_true.mp fx x' (List.mem_of_getElem? hx')
    have kf : cenv.scope.kind = .function := by rw [e1]; exact hk
    have cell2 : s2.heap.IsCell c (some (.ref p)) := by
      obtain ⟨ob, e, hd⟩ := hcell
      refine ⟨ob, keep c ob ?_ e, hd⟩
      exact notP c ob e fun z e2 => by rw [hd] at e2; cases e2
    refine wpAny_Compare1 ?_ (hm := rfl)
    refine wpAny_Name (wpAny_loadName_local kf (show cenv.scope.names.lookup x = some .local by rw [e1]; exact hl) hn hm ?_) hd
    refine wpAny_Name (wpAny_loadName_free kf (show cenv.scope.names.lookup o = some .free by rw [e1]; exact ho) (by rw [e4]; exact clo _ _ hcl) cell2 ?_ hd3) hd2
    rcases hy with hy | hy
    · obtain ⟨js, r2, pl2, _⟩ := I.list hy
      have l2 : s2.heap.IsList p js.toArray := pl2.isList.at fun ob e => keep p ob (by
        obtain ⟨ob2, e2, _, m, hd⟩ := pl2.isList
        exact notP p ob2 e2 fun z e2 => by rw [hd] at e2; cases e2) e
      refine SeqAt.in_listAt (eqU x') l2 (fun w hw => mem_eqAt rx f1 r2 fy w (by simpa using hw)) ⟨⟨x', hx', ?_⟩, GxR.keeps_refl _⟩
      rw [show js.toArray.any (eqU x') = js.any (eqU x') by simp, any_eqU r2 fy]
      rfl
    · obtain ⟨js, r2, pl2, _⟩ := I.tuple hy
      have pl3 : s1.heap.IsTuple p js.toArray := pl2
      have l2 : s2.heap.IsTuple p js.toArray := pl3.at fun ob e => keep p ob (by
        obtain ⟨ob2, e2, _, m, hd⟩ := pl2
        exact notP p ob2 e2 fun z e2 => by rw [hd] at e2; cases e2) e
      refine SeqAt.in_tupleAt (eqU x') l2 (fun w hw => mem_eqAt rx f1 r2 fy w (by simpa using hw)) ⟨⟨x', hx', ?_⟩, GxR.keeps_refl _⟩
      rw [show js.toArray.any (eqU x') = js.any (eqU x') by simp, any_eqU r2 fy]
      rfl
  · rintro i y s2 Q E ⟨x', hx', rfl⟩ q
    have e : inAt xs ys i = inV x' ys := by
      unfold inAt
      rw [hx']
    rw [e] at q
    exact wpAny_truthy_bool q
end
end Cu

namespace Cu
open PySem PySem.Spec PyProof.Rows L2
/-! ### tuple(a for a, b in pairs if c in b) -/
section
variable {prog : Program} {w : World} {A : Around} {E : Value → Shared → Prop} {s : Shared}
theorem letOwned_tupleiter {elts : List Expr} {x1 : Nat} {pos : Pos} {I l T : Addr} {i : Nat} {Q : Unit → Shared → Prop} (hit : s.heap.IsTupleIter I l i) (hQ : Q () s) :
    wpAny (model prog w) A (letOwnedTupleGo (.Tuple elts x1 pos) (.ref I) (.ref T)) Q E s := by
  obtain ⟨o, ho, hc, hd⟩ := hit
  unfold letOwnedTupleGo
  refine wpAny_bind (wpAny_load ho ?_)
  rw [hc, hd]
  dsimp only
  rw [if_neg]
  · exact wpAny_pure hQ
  · intro z
    rw [Bool.and_eq_true] at z
    exact absurd z.1 (by decide)
end
theorem walks_pairs {prog : Program} {w : World} {A : Around} (hh : A.handled = none) (I ax : Addr) (hne : ax ≠ I) (items : Array Value) (Ts : Nat → Addr) (vals : Nat → Array Value)
    (hit : ∀ j, j < items.size → items[j]? = some (.ref (Ts j))) (hTI : ∀ j, j < items.size → Ts j ≠ I) :
    WalksU prog w A I (I :: ax :: (List.range items.size).map Ts) [I] items.size (fun j v => j < items.size ∧ v = vals j)
      (fun j h => h.IsTupleIter I ax j ∧ h.IsTuple ax items ∧ ∀ k, k < items.size → h.IsTuple (Ts k) (vals k))
      (fun j T h => (j < items.size ∧ T = Ts j) ∧ h.IsTupleIter I ax (j + 1) ∧ h.IsTuple ax items ∧ ∀ k, k < items.size → h.IsTuple (Ts k) (vals k)) where
  sub := fun b m => by
    rw [List.mem_singleton.mp m]
    exact List.mem_cons_self
  frame := by
    rintro i h h' ⟨a1, a2, a3⟩ keep
    refine ⟨a1.at (keep I List.mem_cons_self), a2.at (keep ax (List.mem_cons_of_mem _ List.mem_cons_self)), fun n lt => (a3 n lt).at (keep (Ts n) ?_)⟩
    exact List.mem_cons_of_mem _ (List.mem_cons_of_mem _ (List.mem_map_of_mem (List.mem_range.mpr lt)))
  item := by
    rintro i s Q E lt ⟨a1, a2, a3⟩ q
    apply wpAny_pyNext_tuple_item a1 a2 (hit i lt)
    intro h' now rest
    have all : ∀ n, n < items.size → h'.IsTuple (Ts n) (vals n) := fun n l => (a3 n l).extBut rest.extBut (hTI n l)
    refine q _ _ h' s.toks ⟨lt, rfl⟩ (all i lt) ⟨⟨lt, rfl⟩, now, a2.extBut rest.extBut hne, all⟩ ?_
    intro b o nb e
    exact rest.extBut b o (fun z => nb (z ▸ List.mem_cons_self)) e
  go := by
    rintro _ _ _ i T s Q E ⟨_, a1, a2⟩ q
    exact letOwned_tupleiter a1 (q s.heap ⟨a1, a2⟩ fun _ _ _ e => e)
  apart := by
    rintro i T h ⟨⟨lt, rfl⟩, _⟩ m
    exact hTI i lt (List.mem_singleton.mp m)
  done := by
    rintro s Q E ⟨a1, a2, _⟩ q
    apply wpAny_pyNext_tuple_end hh a1 a2 (by simp)
    intro h' rest
    exact q h' s.toks fun b o nb e => rest b o (fun z => nb (z ▸ List.mem_cons_self)) e
  self := by
    rintro i s Q E ⟨a1, _⟩ q
    exact wpAny_pyIter_tupleiter a1 q
/-- what xv gives when it is walked from the state s1: n pairs -/
def SrcT (prog : Program) (w : World) (P : Addr) (s1 : Shared) (xv : Value) (n : Nat) (Pt : Nat → Array Value → Prop) : Prop :=
  ∀ (A : Around) (E : Value → Shared → Prop) (Q : Value → Shared → Prop),
    (∀ (o : Obj) (fp : List Addr) (go : Nat → Heap → Prop) (Mid : Nat → Addr → Heap → Prop), (∀ A' : Around, A'.handled = none → WalksU prog w A' s1.heap.objs.size fp [s1.heap.objs.size] n Pt go Mid) → go 0 (s1.heap.push o) → (∀ b ∈ fp, b ≤ s1.heap.objs.size ∧ b ≠ P) →
      Q (.ref s1.heap.objs.size) { s1 with heap := s1.heap.push o }) → A.handled = none → wpAny (model prog w) A (pyIter xv) Q E s1
/-- tests and element change nothing -/
def CalmT (X : Cx) (P : Addr) (scope : Scope) (xa xb : Str) (ifs : List Expr) (elt : Expr) (s1 : Shared) (Pt : Nat → Array Value → Prop) (pz : Nat → Bool) (F : Nat → Value → Prop) : Prop :=
  ∀ (cenv : Env) (A' : Around) (E' : Value → Shared → Prop) (i : Nat) (va vb : Value) (s2 : Shared) (m2 : Str → Option Value), cenv.scope = scope → cenv.globals = X.env.globals → cenv.builtins = builtinsNs → cenv.cells = cloFrom X.env.cells scope.names [] →
    A'.handled = none → Pt i #[va, vb] → s2.heap.Ns cenv.locals m2 → m2 xa = some va → m2 xb = some vb → (∀ b u, b ≠ P → s1.heap.get? b = some u → s2.heap.get? b = some u) →
    wpAny (model X.prog X.w) A' (forIn ifs true fun c r => if r = true then do let ok ← isTrue c cenv (eval c cenv); pure (ForInStep.yield ok) else pure (ForInStep.yield r)) (fun ok s3 => ok = pz i ∧ Keeps s2 s3) E' s2 ∧
    (pz i = true → wpAny (model X.prog X.w) A' (eval elt cenv) (fun y s3 => F i y ∧ Keeps s2 s3) E' s2)
/-- the generator g is ready to be walked by a builtin type -/
def SetT (X : Cx) (pins : List (Addr × Obj)) (σ : L2.St) (H1 : Hp) (P : Addr) (n : Nat) (F : Nat → Value → Prop) (g : Addr) (s5 : Shared) : Prop :=
  ∃ (fp wr : List Addr) (G : Array GenState → Array GenState → Prop) (go : Nat → Shared → Prop), WalksS X.prog X.w X.A.in1.in1.in1 g fp wr G n F go ∧ (∀ i s, go i s → s.TypeIs (.ref g) "generator") ∧ go 0 s5 ∧ (∀ b ∈ fp, b < s5.heap.objs.size) ∧ g ∈ fp ∧
    ∀ s', Moved wr G s5 s' → ∃ H2, GxR.Tabbed P H1 H2 ∧ Inv X pins σ H2 s'
section
variable {X : Cx} {pins : List (Addr × Obj)} {σ : L2.St} {H : Hp} {s : Shared}
theorem gen_makeT {c P : Addr} {elt iter : Expr} {xa xb : Str} {pa pb pt gpos : Pos} {kt : Nat} {ifs : List Expr} {scope : Scope} {te : TE} {k : Nat} {Q' : Value → Shared → Prop} {R : V → Hp → Prop}
    (hr : Room k X.A) (TB : GxR.TabB X.base X.mg c P) (hcode : X.env.code = .ref c) (S : GxR.GenS X.env scope xa) (Sb : scope.names.lookup xb = some .local) (hab : xa ≠ xb) (hi : PE X iter te) (hs : ∀ v, genFold iter X.env v = pure v) (I : Inv X pins σ H s)
    (h : te σ H fun v H1 => GxR.TabG H1 P ∧ R v H1)
    (src : ∀ v H1 s1 u, R v H1 → GxR.TabG H1 P → Inv X pins σ H1 s1 → RelV v u → P < s1.heap.objs.size → ∃ n Pt pz F, SrcT X.prog X.w P s1 u n Pt ∧ (∀ i vals, Pt i vals → ∃ va vb, vals = #[va, vb]) ∧ CalmT X P scope xa xb ifs elt s1 Pt pz F ∧
      ∀ g s5, SetT X pins σ H1 P (passing pz n 0).length (fun j y => ∃ i, (passing pz n 0)[j]? = some i ∧ F i y) g s5 → Q' (.ref g) s5) :
    wpAny (model X.prog X.w) X.A (eval (.GeneratorExp elt [⟨.Tuple [.Name xa pa, .Name xb pb] kt pt, iter, ifs, 0⟩] scope gpos) X.env) Q' X.xe s := by
  have dp : X.A.depth < recursionLimit := by
    have := hr.dp
    omega
  apply wpAny_GeneratorExp_walksQT hr.hd S.co (closure_ok S.free) S.cell S.dot S.loc Sb hab S.kind dp _ hs
  refine thn (hi.run pins s σ H _ I h) ?_
  rintro xv s1 ⟨v, H1, I1, r1, tab, hR⟩
  obtain ⟨ps, hP, tr⟩ := id tab
  have isP : s1.heap.get? P = some { cls := .none, data := .fields ps } := I1.hok P _ hP
  have ltP : P < s1.heap.objs.size := Heap.lt_size isP
  obtain ⟨n, Pt, pz, F, sc, two, calm, fin⟩ := src v H1 s1 xv hR tab I1 r1 ltP
  apply sc _ _ _ _ hr.hd
  intro o fp go Mid W st hfp
  have isP2 : (s1.heap.push o).get? P = some { cls := .none, data := .fields ps } := Heap.get?_push_of_some _ isP
  have cd : PySem.W.CodeHd (s1.heap.push o) c P := TB.code.keeps fun b u e => Heap.get?_push_of_some _ (I1.bk b u e)
  have lim2 := I1.nolimit.push o
  refine And.intro lim2 ?_
  have rest : ∀ (code : Value) (h3 : Heap) (tk : Nat) (qs : Array Value), Heap.ExtBut P (s1.heap.push o) h3 → (s1.heap.push o).objs.size ≤ h3.objs.size → h3.get? P = some { cls := .none, data := .fields qs } → (∃ more, qs = ps ++ more) → TriplesOk qs.toList →
      wpAny (model X.prog X.w) X.A (builtinsFor X.env.globals X.env.builtins) (fun bi s4 =>
        ∃ it fp wr n₀ Pt St₀ Mid pz F, Value.ref s1.heap.objs.size = .ref it ∧ (∀ A' : Around, A'.handled = none → WalksU X.prog X.w A' it fp wr n₀ Pt St₀ Mid) ∧ (∀ i vals, Pt i vals → ∃ va vb, vals = #[va, vb]) ∧ St₀ 0 s4.heap ∧ (∀ b ∈ fp, b < s4.heap.objs.size) ∧ s4.heap.NoLimit ∧ cStatics ∉ wr ∧
          (∀ href : Heap, (∀ b o, s4.heap.get? b = some o → href.get? b = some o) → QuietGenT X.prog X.w (genEnv scope (cloFrom X.env.cells scope.names []) s4.heap.objs.size code bi X.env) xa xb ifs elt (List.range s4.heap.objs.size) wr Pt pz F href) ∧
          (∀ a h₅ tk gs, gs.bare = true → s4.heap.objs.size < a → h₅.objs.size = a + 1 → (∀ b o, s4.heap.get? b = some o → h₅.get? b = some o) →
            WalksS X.prog X.w X.A.in4 a (a :: s4.heap.objs.size :: List.range s4.heap.objs.size) (s4.heap.objs.size :: wr) (GenOnlyQ s4.gens.size) (passing pz n₀ 0).length
              (fun j y => ∃ i, (passing pz n₀ 0)[j]? = some i ∧ F i y) (GenAt X.prog X.w X.A.in4 a s4.gens.size s4.heap.objs.size (List.range s4.heap.objs.size) wr pz n₀ F) →
            GenAt X.prog X.w X.A.in4 a s4.gens.size s4.heap.objs.size (List.range s4.heap.objs.size) wr pz n₀ F 0 { s4 with gens := s4.gens.push gs, toks := tk, heap := h₅ } →
            Q' (.ref a) { s4 with gens := s4.gens.push gs, toks := tk, heap := h₅ })) X.xe { s1 with heap := h3, toks := tk } := by
    intro code h3 tk qs ex size isP3 grown tr3
    obtain ⟨bm, ob, b1, b2, b3, b4, b5, b6, b7, b8⟩ := TB.bm
    have old3 : ∀ b u, b ≠ P → s1.heap.get? b = some u → h3.get? b = some u := fun b u nb e => ex b u nb (Heap.get?_push_of_some _ e)
    have itlt : s1.heap.objs.size < h3.objs.size := by
      have q : (s1.heap.push o).objs.size = s1.heap.objs.size + 1 := Heap.size_push ..
      omega
    obtain ⟨mc, nsc, _⟩ := id I1.nolimit
    have ltc : cStatics < s1.heap.objs.size := nsc.lt
    have ncP : cStatics ≠ P := by
      intro e
      obtain ⟨o', es, ep, ho, hd, _⟩ := nsc
      rw [e, isP] at ho
      cases ho
      cases hd
    have gl : h3.Ns X.env.globals X.mg := by
      rw [I1.ok.glob]
      exact ((I1.mod.glob.keeps I1.bk).push o).extBut ex TB.gP
    apply wpAny_builtinsFor gl b1 b2 (old3 _ _ b4 (I1.bk _ _ b5)) b6 b7 b8
    refine ⟨s1.heap.objs.size, fp, [s1.heap.objs.size], n, Pt, go, Mid, pz, F, rfl, W, two, ?_, ?_, lim2.extBut ex ncP, ?_, ?_, ?_⟩
    · exact (W X.A hr.hd).frame _ _ _ st fun b hb u e => ex b u (hfp b hb).2 e
    · intro b hb
      exact Nat.lt_of_le_of_lt (hfp b hb).1 itlt
    · intro z
      rcases List.mem_cons.mp z with z | z
      · exact Nat.ne_of_lt ltc z
      · cases z
    · intro href kept
      have was : ∀ s2 : Shared, (∀ b ∈ List.range h3.objs.size, b ∉ [s1.heap.objs.size] → ∀ o, href.get? b = some o → s2.heap.get? b = some o) → ∀ b u, b ≠ P → s1.heap.get? b = some u → s2.heap.get? b = some u := by
        intro s2 hk b u nb e
        have l1 := Heap.lt_size e
        refine hk b (List.mem_range.mpr (Nat.lt_trans l1 itlt)) ?_ u (kept b u (old3 b u nb e))
        intro z
        rcases List.mem_cons.mp z with z | z
        · exact Nat.ne_of_lt l1 z
        · cases z
      constructor
      · intro A' E' i va vb s2 m2 hA hPv hn hm hm' hk
        exact (calm (genEnv scope (cloFrom X.env.cells scope.names []) h3.objs.size code builtinsNs X.env) A' E' i va vb s2 m2 rfl rfl rfl rfl hA hPv hn hm hm' (was s2 hk)).1
      · intro A' E' i va vb s2 m2 hA hPv hp hn hm hm' hk
        exact (calm (genEnv scope (cloFrom X.env.cells scope.names []) h3.objs.size code builtinsNs X.env) A' E' i va vb s2 m2 rfl rfl rfl rfl hA hPv hn hm hm' (was s2 hk)).2 hp
    · intro g h5 tk5 gs bare lt5 sz5 keep5 W5 at5
      refine fin g _ ⟨_, _, _, _, W5.in4_3, ?_, at5, ?_, List.mem_cons_self, ?_⟩
      · rintro i s ⟨⟨ob, _, _, e, hc, _⟩, _⟩
        exact ⟨ob, e, hc⟩
      · intro b hb
        show b < h5.objs.size
        rw [sz5]
        have lt5' : h3.objs.size < g := lt5
        rcases List.mem_cons.mp hb with z | z
        · rw [z]
          exact Nat.lt_succ_self _
        · rcases List.mem_cons.mp z with z | z
          · rw [z]
            exact Nat.lt_succ_of_lt lt5'
          · exact Nat.lt_succ_of_lt (Nat.lt_trans (List.mem_range.mp z) lt5')
      · intro s' mv
        obtain ⟨more, em⟩ := grown
        have out : ∀ b u, s1.heap.get? b = some u → b ∉ h3.objs.size :: [s1.heap.objs.size] := by
          intro b u e hb
          have l1 : b < s1.heap.objs.size := Heap.lt_size e
          rcases List.mem_cons.mp hb with z | z
          · exact Nat.lt_irrefl _ (Nat.lt_trans (z ▸ l1 : (h3.objs.size : Nat) < s1.heap.objs.size) itlt)
          · rcases List.mem_cons.mp z with z | z
            · exact Nat.ne_of_lt l1 z
            · cases z
        have other : ∀ b u, b ≠ P → s1.heap.get? b = some u → s'.heap.get? b = some u := fun b u nb e => mv.heap b u (out b u e) (keep5 b u (old3 b u nb e))
        have tabNow : s'.heap.get? P = some { cls := .none, data := .fields (ps ++ more) } := by
          rw [← em]
          exact mv.heap P _ (out P _ isP) (keep5 P _ isP3)
        have J := GxR.inv_tab (more := more) (h' := s'.heap) (g' := s'.gens) (d' := s'.drawn) (t' := s'.toks) I1 hP other tabNow (AllBare.movedS (I1.bare.push bare) mv)
        rw [GxR.sh_eta s1 s' mv.os] at J
        refine ⟨upd H1 P (.tbl (ps ++ more)), ⟨⟨ps ++ more, upd_same, ?_⟩, fun b nb => upd_ne nb⟩, J⟩
        rw [← em]
        exact tr3
  cases hit : codeAmong gpos ps.toList with
  | none =>
    apply wpAny_genexprCodeX hcode (cd.code isP2 tr) (cd.tab isP2) hit
    intro c' h' tk ex ge lt co' _ tab' _
    obtain ⟨o1, vs, f1, tf, fl, tg, inF, tx, tt, op, _, _, _, _, _, _, _, _, _, tr', _⟩ := co'
    exact rest _ h' tk _ ex (Nat.le_trans ge (Nat.le_of_lt lt)) tab'.2 ⟨_, rfl⟩ tr'
  | some cv =>
    apply wpAny_genexprCode_hit hcode (cd.code isP2 tr) hit
    exact rest cv (s1.heap.push o) s1.toks ps (Heap.ExtBut.refl _ _) (Nat.le_refl _) isP2 ⟨#[], by simp⟩ tr
/-- a row: where it lies, its first part, where its second part lies, what that holds -/
abbrev Row := Addr × V × Addr × List V
abbrev row0 : Row := (0, .non, 0, [])
/-- v is a tuple of these rows -/
structure Rows_ (K : PySem.W.Frag) (H : Hp) (v : V) (rows : List Row) : Prop where
  at_ : ∃ t, v = .ref t ∧ SqT K H t (rows.map fun r => V.ref r.1)
  each : ∀ r ∈ rows, SqT K H r.1 [r.2.1, .ref r.2.2.1] ∧ SqT K H r.2.2.1 r.2.2.2 ∧ r.2.2.2.all flatV = true
def RRow (P : Addr) (K : PySem.W.Frag) (j : Nat) (σ : L2.St) (Q : VK) (v : V) (H1 : Hp) : Prop := ∃ (rows : List Row) (x0 : V), Rows_ K H1 v rows ∧ σ[j]? = some (some x0) ∧ flatV x0 = true ∧
  ∀ H2, GxR.Tabbed P H1 H2 → ∀ l, H2 l = none → Q (.ref l) (upd H2 l (.tup ((rows.filter fun r => inV x0 r.2.2.2).map fun r => r.2.1)))
def tRows (P : Addr) (te : TE) (K : PySem.W.Frag) (j : Nat) : TE := fun σ H Q => te σ H fun v H1 => GxR.TabG H1 P ∧ RRow P K j σ Q v H1
theorem rows_range (rows : List Row) : (List.range rows.length).map (fun i => rows.getD i row0) = rows := by
  apply List.ext_getElem
  · rw [List.length_map, List.length_range]
  · intro i h1 h2
    rw [List.getElem_map, List.getElem_range, List.getD_eq_getElem?_getD, List.getElem?_eq_getElem h2]
    rfl
theorem rows_vals {K : PySem.W.Frag} {X : Cx} {pins : List (Addr × Obj)} {σ : L2.St} {H : Hp} {s : Shared} (I : Inv X pins σ H s) : ∀ rows : List Row, (∀ r ∈ rows, SqT X.K H r.1 [r.2.1, .ref r.2.2.1]) → ∃ us : List Value, us.length = rows.length ∧
    ∀ i, i < rows.length → RelV (rows.getD i row0).2.1 (us.getD i .none) ∧ s.heap.IsTuple (rows.getD i row0).1 #[us.getD i .none, .ref (rows.getD i row0).2.2.1]
  | [], _ => ⟨[], rfl, fun i h => absurd h (Nat.not_lt_zero _)⟩
  | r :: rs, h => by
    obtain ⟨us, l, hu⟩ := rows_vals (K := K) I rs fun r' m => h r' (List.mem_cons_of_mem _ m)
    obtain ⟨its, vs, pl, _⟩ := I.tuple (h r List.mem_cons_self)
    cases vs with
    | cons r1 t1 =>
      cases t1 with
      | cons r2 t2 =>
        cases t2
        cases r2
        rename_i u0
        refine ⟨u0 :: us, by rw [List.length_cons, List.length_cons, l], fun i hi => ?_⟩
        cases i with
        | zero => exact ⟨r1, pl⟩
        | succ i => exact hu i (Nat.lt_of_succ_lt_succ hi)
theorem vals_of : ∀ {xs : List V} {us : List Value}, xs.length = us.length → (∀ (i : Nat) (u : Value), us[i]? = some u → ∃ x, xs[i]? = some x ∧ RelV x u) → Vals xs us
  | [], [], _, _ => .nil
  | x :: xs, u :: us, l, h => by
    obtain ⟨x', e, r⟩ := h 0 u rfl
    cases e
    exact .cons r (vals_of (Nat.succ.inj l) fun i v hv => h (i + 1) v hv)
  | [], _ :: _, l, _ => by cases l
  | _ :: _, [], l, _ => by cases l
theorem pe_tupG {c P : Addr} {iter : Expr} {xa xb o : Str} {j : Nat} {pa pb pt p pos gpos p1 p2 p3 p4 : Pos} {kt : Nat} {scope : Scope} {te : TE} {k : Nat}
    (hr : Room k X.A) (hg : Gl X "tuple") (hm : X.mg "tuple" = none) (TB : GxR.TabB X.base X.mg c P) (hcode : X.env.code = .ref c) (S : GxR.GenS X.env scope xa) (Sb : scope.names.lookup xb = some .local) (hab : xa ≠ xb) (hi : PE X iter te)
    (ho : scope.names.lookup o = some .free) (hj : X.N[j]? = some o) (hv : X.env.scope.names.lookup o = some .cell) (hc : X.env.kindOf o = some .cell) (clo : ∀ (cells : List (Str × Addr)) c, cells.lookup o = some c → (cloFrom cells scope.names []).lookup o = some c)
    (hs : ∀ v, genFold iter X.env v = pure v := by intro _; rfl) (hd : (xa == ("__debug__" : Str)) = false := by decide) (hdb : (xb == ("__debug__" : Str)) = false := by decide) (hd2 : (o == ("__debug__" : Str)) = false := by decide) (hd3 : (o == ("__classdict__" : Str)) = false := by decide)
    (he : starEach [.GeneratorExp (.Name xa p1) [⟨.Tuple [.Name xa pa, .Name xb pb] kt pt, iter, [.Compare (.Name o p2) [.In] [.Name xb p3] p4], 0⟩] scope gpos] X.env = (false, eval (.GeneratorExp (.Name xa p1) [⟨.Tuple [.Name xa pa, .Name xb pb] kt pt, iter, [.Compare (.Name o p2) [.In] [.Name xb p3] p4], 0⟩] scope gpos) X.env) :: starEach [] X.env := by rfl) :
    PE X (.Call (.Name "tuple" p) [.GeneratorExp (.Name xa p1) [⟨.Tuple [.Name xa pa, .Name xb pb] kt pt, iter, [.Compare (.Name o p2) [.In] [.Name xb p3] p4], 0⟩] scope gpos] [] pos) (tRows P te X.K j) := by
  constructor
  intro pins s σ H Q I h
  apply wpAny_Call_Name_kw
  apply ld_blt I hg hm (show bootBuiltins "tuple" = some (.type "tuple") by decide +kernel)
  apply PyProof.Rows.callWith_type1 _ he (by rfl)
  rw [he]
  show wpAny _ _ (spliced ((false, eval (.GeneratorExp (.Name xa p1) [⟨.Tuple [.Name xa pa, .Name xb pb] kt pt, iter, [.Compare (.Name o p2) [.In] [.Name xb p3] p4], 0⟩] scope gpos) X.env) :: backTo pos (starEach [] X.env))) _ _ s
  apply Calls.spliced_cons
  apply gen_makeT (R := RRow P X.K j σ Q) hr TB hcode S Sb hab hi hs I h
  rintro v H1 s1 u ⟨rows, x0, ⟨⟨t, rfl, sq⟩, each⟩, hσ, f0, q⟩ ⟨ps, hP, _⟩ I1 ru ltP
  cases ru
  have isP : s1.heap.get? P = some { cls := .none, data := .fields ps } := I1.hok P _ hP
  have notP : ∀ b ob, s1.heap.get? b = some ob → (∀ z, ob.data ≠ .fields z) → b ≠ P := by
    intro b ob e nf z
    rw [z, isP] at e
    cases e
    exact nf _ rfl
  have tupP : ∀ b its, s1.heap.IsTuple b its → b ≠ P := by
    rintro b its ⟨ob, e, _, m, hd⟩
    exact notP b ob e fun z e2 => by rw [hd] at e2; cases e2
  obtain ⟨its, vs, pl, small⟩ := I1.tuple sq
  have plT : s1.heap.IsTuple t its.toArray := pl
  have li := vals_len vs
  rw [List.length_map] at li small
  obtain ⟨us, lu, hu⟩ := rows_vals (K := X.K) I1 rows fun r m => (each r m).1
  have mem : ∀ i, i < rows.length → rows.getD i row0 ∈ rows := by
    intro i hi
    rw [List.getD_eq_getElem?_getD, List.getElem?_eq_getElem hi]
    exact List.getElem_mem hi
  obtain ⟨m, _, look⟩ := I1.loc
  obtain ⟨u0, r0, lk⟩ := look j o _ hj hσ (.inr (.inl hv))
  obtain ⟨cc, hcl, hcell⟩ : ∃ c, X.env.cells.lookup o = some c ∧ s1.heap.IsCell c (some u0) := by
    rcases lk with ⟨k1, _⟩ | ⟨_, k2⟩
    · rw [hc] at k1
      cases k1
    · exact k2
  have szT : its.toArray.size = rows.length := by rw [List.size_toArray, li]
  have itemAt : ∀ i, i < its.toArray.size → its.toArray[i]? = some (.ref (rows.getD i row0).1) := by
    intro i hi
    rw [szT] at hi
    have hi2 : i < its.length := by omega
    rw [List.getElem?_toArray, List.getElem?_eq_getElem hi2]
    obtain ⟨x, hx, rx⟩ := vals_at vs (List.getElem?_eq_getElem hi2)
    rw [List.getElem?_map, List.getElem?_eq_getElem hi] at hx
    cases hx
    have e : rows.getD i row0 = rows[i] := by
      rw [List.getD_eq_getElem?_getD, List.getElem?_eq_getElem hi]
      rfl
    rw [e]
    exact congrArg some rx
  have ltH : ∀ b its, s1.heap.IsTuple b its → b < s1.heap.objs.size := by
    rintro b its ⟨ob, e, _⟩
    exact Heap.lt_size e
  refine ⟨its.toArray.size, fun i v => i < its.toArray.size ∧ v = #[us.getD i .none, .ref (rows.getD i row0).2.2.1], fun i => inV x0 (rows.getD i row0).2.2.2, fun i y => i < its.toArray.size ∧ y = us.getD i .none, ?_, ?_, ?_, ?_⟩
  · intro A E Q h hh
    apply wpAny_pyIter_tuple plT
    refine h _ _ _ _ (fun A' hA => walks_pairs hA _ t (Nat.ne_of_lt (ltH _ _ plT)) its.toArray (fun i => (rows.getD i row0).1) (fun i => #[us.getD i .none, .ref (rows.getD i row0).2.2.1]) itemAt fun i hi => Nat.ne_of_lt (ltH _ _ (hu i (szT ▸ hi)).2)) ⟨⟨_, Heap.get?_push_size _ rfl, rfl, rfl⟩, plT.push _, fun i hi => (hu i (szT ▸ hi)).2.push _⟩ ?_
    intro b hb
    rcases List.mem_cons.mp hb with rfl | z
    · exact ⟨Nat.le_refl _, fun e => Nat.lt_irrefl _ (e ▸ ltP)⟩
    · rcases List.mem_cons.mp z with rfl | z
      · exact ⟨Nat.le_of_lt (ltH _ _ plT), tupP _ _ plT⟩
      · obtain ⟨i, mi, rfl⟩ := List.mem_map.mp z
        have hi := List.mem_range.mp mi
        rw [szT] at hi
        exact ⟨Nat.le_of_lt (ltH _ _ (hu i hi).2), tupP _ _ (hu i hi).2⟩
  · rintro i vals ⟨_, rfl⟩
    exact ⟨_, _, rfl⟩
  · intro cenv A' E' i va vb s2 m2 e1 e2 e3 e4 hh hv2 hn hma hmb keep
    obtain ⟨hi, ev⟩ := hv2
    have eva : va = us.getD i .none := by
      have := congrArg (fun a : Array Value => a[0]?) ev
      exact Option.some.inj this
    have evb : vb = .ref (rows.getD i row0).2.2.1 := by
      have := congrArg (fun a : Array Value => a[1]?) ev
      exact Option.some.inj this
    subst eva evb
    have hi2 : i < rows.length := szT ▸ hi
    have kf : cenv.scope.kind = .function := by rw [e1]; exact S.kind
    have cell2 : s2.heap.IsCell cc (some u0) := by
      obtain ⟨ob, e, hd⟩ := hcell
      refine ⟨ob, keep cc ob ?_ e, hd⟩
      exact notP cc ob e fun z e2 => by rw [hd] at e2; cases e2
    obtain ⟨_, sq2, fl⟩ := each _ (mem i hi2)
    obtain ⟨js, r2, pl2, _⟩ := I1.tuple sq2
    have pl3 : s1.heap.IsTuple (rows.getD i row0).2.2.1 js.toArray := pl2
    have l2 : s2.heap.IsTuple (rows.getD i row0).2.2.1 js.toArray := pl3.at fun ob e => keep _ ob (tupP _ _ pl3) e
    constructor
    · simp only [List.forIn_cons, List.forIn_nil]
      refine wpAny_bind ?_
      simp only [if_pos]
      refine wpAny_bind ?_
      refine wpAny_isTrue_Compare1 ?_ (hm := rfl)
      refine wpAny_Name (wpAny_loadName_free kf (show cenv.scope.names.lookup o = some .free by rw [e1]; exact ho) (by rw [e4]; exact clo _ _ hcl) cell2 ?_ hd3) hd2
      refine wpAny_Name (wpAny_loadName_local kf (show cenv.scope.names.lookup xb = some .local by rw [e1]; exact Sb) hn hmb ?_) hdb
      refine SeqAt.in_tupleAt (eqU x0) l2 (fun w hw => mem_eqAt r0 f0 r2 fl w (by simpa using hw)) ?_
      apply wpAny_truthy_bool
      refine wpAny_pure (wpAny_pure ⟨?_, GxR.keeps_refl _⟩)
      rw [show js.toArray.any (eqU x0) = js.any (eqU x0) by simp, any_eqU r2 fl]
      rfl
    · intro _
      exact wpAny_Name (wpAny_loadName_local kf (show cenv.scope.names.lookup xa = some .local by rw [e1]; exact S.loc) hn hma ⟨⟨hi, rfl⟩, GxR.keeps_refl _⟩) hd
  · rintro g s5 ⟨fp, wr, G, go, W, hT, st, hfp, hI, inv⟩
    apply Calls.spliced_nil
    refine call_tuple_gen W hT st hfp hI (fun s' acc mv items => ?_) ?_
    · obtain ⟨H2, tb, J⟩ := inv s' mv
      have ep : (rows.filter fun r => inV x0 r.2.2.2).map (fun r => r.2.1) = (passing (fun i => inV x0 (rows.getD i row0).2.2.2) its.toArray.size 0).map fun i => (rows.getD i row0).2.1 := by
        conv => lhs; rw [← rows_range rows]
        rw [List.filter_map, List.map_map, szT]
        rfl
      have rel : Vals ((rows.filter fun r => inV x0 r.2.2.2).map fun r => r.2.1) acc.toList := by
        rw [ep]
        refine vals_of (by rw [List.length_map]; exact items.1.symm.trans Array.length_toList.symm) ?_
        intro i u hu1
        rw [Array.getElem?_toList] at hu1
        obtain ⟨i', hp, hlt, rfl⟩ := items.2 i u hu1
        refine ⟨_, by rw [List.getElem?_map, hp]; rfl, (hu i' (szT ▸ hlt)).1⟩
      have I2 : Inv X pins σ (upd H2 s'.heap.objs.size (.tup ((rows.filter fun r => inV x0 r.2.2.2).map fun r => r.2.1))) { s' with heap := s'.heap.push { cls := .type "tuple", data := .seq acc } } := by
        refine J.laid (t' := s'.toks) (fun b o e => Heap.get?_push_of_some _ e) (Nat.le_refl _) (show ObjOk X.prog X.w _ _ _ (.tup _) from ⟨?_, acc.toList, rel, ?_⟩)
        · rw [List.length_map]
          exact Nat.le_trans (List.length_filter_le _ _) small
        · rw [Array.toArray_toList]
          exact IsTup.new _ _
      exact ⟨.ref s'.heap.objs.size, _, I2, rfl, q H2 tb _ (J.hok.fresh (Nat.le_refl _))⟩
    · unfold passing
      refine Nat.le_trans (List.length_filter_le _ _) ?_
      rw [List.drop_zero, List.length_range, szT]
      exact small
end
end Cu

namespace Cu
open PySem PySem.Spec PyProof.Rows L2
open PySem.AutoSeq1 (wpAny_loadPart')
/-! ### list.extend(tuple) -/
theorem extend_tuple (l : Addr) (items : Array Value) (n : Nat) (b : Addr) (items2 : Array Value) (n2 : Nat) (dd : Option Addr) (sl : Array (Option Value)) (hs0 : ¬(!items.isEmpty && Builtin.List.listTooLong (items.size + items2.size)) = true) (hs1 : items.size ≤ sizeLine) (hs2 : items.size + items2.size ≤ sizeLine + 1) :
    Meets (Builtin.«list.extend» ⟨[.ref l, .ref b], []⟩) (fun _ R s => s.heap.get? l = some { cls := .type "list", dict := none, data := .seq items n, slots := #[] } ∧ s.heap.get? b = some { cls := .type "tuple", dict := dd, data := .seq items2 n2, slots := sl } ∧ R (.ok (.ret Value.none)) { s with heap := s.heap.update l (Obj.mapSeq fun x => x ++ items2), toks := s.toks }) :=
  .of_wp fun prog w A R s h => by
    obtain ⟨hp, g, d, tk, os⟩ := s
    obtain ⟨hl, hb, h⟩ := h
    have t1 := PySem.AutoSeq1.sub_tuple_tuple
    have t2 := PySem.AutoSeq1.sub_tuple_list
    have fits : (items ++ items2).size ≤ sizeLine + 1 := by
      rw [Array.size_append]
      exact hs2
    wp_walk using (wpAny_updateSeq hl rfl (hz := hs1) (_hz' := fits)), wpAny_loadPart' hl, wpAny_loadPart' hb
    exact ⟨_, rfl, h⟩
section
variable {X : Cx}
def rExtT (K : PySem.W.Frag) : V → List V → Hp → VK → Prop := fun x vs H Q => ∃ l b xs zs, x = .ref l ∧ vs = [.ref b] ∧ H l = some (.lst xs) ∧ SqT K H b zs ∧ xs.length + zs.length ≤ sizeLine ∧ Q .non (upd H l (.lst (xs ++ zs)))
theorem mt_extT : MtM X "list.extend" (rExtT X.K) := by
  intro pins s σ H x vs v us Q I rx rv h
  obtain ⟨l, b, xs, zs, rfl, rfl, hH, hB, hz, q⟩ := h
  cases rx
  obtain ⟨u, rfl, ru⟩ := rv.one
  cases ru
  obtain ⟨z, its, n, r, hl, e⟩ := I.lstM hH
  obtain ⟨js, r2, ⟨⟨cls, dd, data, sl⟩, e2, hc, n2, hd⟩, _⟩ := I.tuple hB
  simp only at hc hd
  subst hc hd
  have l2 := vals_len r2
  have room : its.toArray.size + js.toArray.size ≤ sizeLine := by
    rw [List.size_toArray, List.size_toArray]
    omega
  have short : ¬ (!its.toArray.isEmpty && Builtin.List.listTooLong (its.toArray.size + js.toArray.size)) = true := by
    rw [notLongL room, Bool.and_false]
    exact Bool.false_ne_true
  refine call_meets F.slot_list_extend ⟨_, e, rfl⟩ F.entry_list_extend (F.args_list_extend_2 _ _) (extend_tuple l its.toArray n b js.toArray n2 dd sl short (by rw [List.size_toArray]; omega) (by omega)) ⟨e, e2, ?_⟩
  refine ⟨.non, _, I.lset (its' := its ++ js) hH e (by simp) (r.append r2) ?_, rfl, q⟩
  rw [List.length_append]
  omega
end
end Cu

namespace Cu
open PySem PySem.Spec PyProof.Rows L2
/-! ### what is taken, one after another: by itself, or since it meets something taken before -/
section
variable {α : Type}
def pick1 (p : α → Bool) (t : α → α → Bool) (fs : List α) (r : α) : List α := if p r || fs.any (t r) then fs ++ [r] else fs
def pick (p : α → Bool) (t : α → α → Bool) (l : List α) : List α := l.foldl (pick1 p t) []
theorem pick_snoc (p : α → Bool) (t : α → α → Bool) (l : List α) (r : α) : pick p t (l ++ [r]) = pick1 p t (pick p t l) r := by
  unfold pick
  rw [List.foldl_append]
  rfl
/-- from x to y, each step to something later that meets the one before -/
inductive Path (t : α → α → Bool) : List α → α → α → Prop
  | here (l : List α) (r : α) : Path t (l ++ [r]) r r
  | next {l : List α} {x y : α} (r : α) : Path t l x y → t r y = true → Path t (l ++ [r]) x r
  | keep {l : List α} {x y : α} (r : α) : Path t l x y → Path t (l ++ [r]) x y
theorem snoc_ind {C : List α → Prop} (h0 : C []) (h1 : ∀ l r, C l → C (l ++ [r])) (l : List α) : C l := by
  rw [← List.reverse_reverse l]
  induction l.reverse with
  | nil => exact h0
  | cons r s ih =>
    rw [List.reverse_cons]
    exact h1 _ _ ih
theorem path_nil {t : α → α → Bool} {x y : α} (h : Path t [] x y) : False := by
  generalize e : ([] : List α) = l at h
  cases h with
  | here l r => exact absurd e.symm (by simp)
  | next r _ _ => exact absurd e.symm (by simp)
  | keep r _ => exact absurd e.symm (by simp)
theorem path_snoc {t : α → α → Bool} {l : List α} {r x y : α} (h : Path t (l ++ [r]) x y) : (x = r ∧ y = r) ∨ (y = r ∧ ∃ z, Path t l x z ∧ t r z = true) ∨ Path t l x y := by
  generalize e : l ++ [r] = l2 at h
  cases h with
  | here l' r' =>
    obtain ⟨_, e2⟩ := List.append_inj' e rfl
    cases e2
    exact .inl ⟨rfl, rfl⟩
  | next r' h1 h2 =>
    obtain ⟨e1, e2⟩ := List.append_inj' e rfl
    cases e2
    subst e1
    exact .inr (.inl ⟨rfl, _, h1, h2⟩)
  | keep r' h1 =>
    obtain ⟨e1, e2⟩ := List.append_inj' e rfl
    subst e1
    exact .inr (.inr h1)
theorem path_mem {t : α → α → Bool} {l : List α} {x y : α} (h : Path t l x y) : x ∈ l ∧ y ∈ l := by
  induction h with
  | here l r => exact ⟨by simp, by simp⟩
  | next r _ _ ih => exact ⟨List.mem_append_left _ ih.1, by simp⟩
  | keep r _ ih => exact ⟨List.mem_append_left _ ih.1, List.mem_append_left _ ih.2⟩
theorem mem_pick (p : α → Bool) (t : α → α → Bool) (l : List α) : ∀ y, y ∈ pick p t l ↔ ∃ x, p x = true ∧ Path t l x y := by
  induction l using snoc_ind with
  | h0 =>
    intro y
    constructor
    · intro h
      cases h
    · rintro ⟨x, _, h⟩
      exact absurd h path_nil
  | h1 l r ih =>
    intro y
    rw [pick_snoc]
    unfold pick1
    constructor
    · intro h
      split at h
      · rename_i hb
        rcases List.mem_append.mp h with h | h
        · obtain ⟨x, px, h⟩ := (ih y).mp h
          exact ⟨x, px, .keep r h⟩
        · rw [List.mem_singleton.mp h]
          rcases (Bool.or_eq_true _ _).mp hb with hb | hb
          · exact ⟨r, hb, .here l r⟩
          · obtain ⟨z, mz, tz⟩ := List.any_eq_true.mp hb
            obtain ⟨x, px, h⟩ := (ih z).mp mz
            exact ⟨x, px, .next r h tz⟩
      · obtain ⟨x, px, h⟩ := (ih y).mp h
        exact ⟨x, px, .keep r h⟩
    · rintro ⟨x, px, h⟩
      rcases path_snoc h with ⟨rfl, rfl⟩ | ⟨rfl, z, hz, tz⟩ | h
      · rw [if_pos (by rw [px]; rfl)]
        exact List.mem_append_right _ (List.mem_singleton.mpr rfl)
      · rw [if_pos (by rw [List.any_eq_true.mpr ⟨z, (ih z).mpr ⟨x, px, hz⟩, tz⟩, Bool.or_true])]
        exact List.mem_append_right _ (List.mem_singleton.mpr rfl)
      · have m := (ih y).mpr ⟨x, px, h⟩
        split
        · exact List.mem_append_left _ m
        · exact m
theorem pick_sub (p : α → Bool) (t : α → α → Bool) (l : List α) : (pick p t l).Sublist l := by
  induction l using snoc_ind with
  | h0 => exact List.Sublist.slnil
  | h1 l r ih =>
    rw [pick_snoc]
    unfold pick1
    split
    · exact ih.append (List.Sublist.refl _)
    · exact ih.trans (List.sublist_append_left _ _)
theorem path_cons {t : α → α → Bool} {l : List α} {x y : α} (r : α) (h : Path t l x y) : Path t (r :: l) x y := by
  induction h with
  | here l r' => exact .here (r :: l) r'
  | next r' _ h2 ih => exact .next (l := r :: _) r' ih h2
  | keep r' _ ih => exact .keep (l := r :: _) r' ih
theorem path_head {t : α → α → Bool} (r : α) (l : List α) : Path t (r :: l) r r := by
  induction l using snoc_ind with
  | h0 => exact .here [] r
  | h1 l r' ih => exact .keep (l := r :: l) r' ih
theorem path_first {t : α → α → Bool} {l : List α} {y z : α} (r : α) (h : Path t l y z) (e : t y r = true) : Path t (r :: l) r z := by
  induction h with
  | here l r' => exact .next (l := r :: l) r' (path_head r l) e
  | next r' _ h2 ih => exact .next (l := r :: _) r' (ih e) h2
  | keep r' _ ih => exact .keep (l := r :: _) r' (ih e)
/-- back again -/
theorem path_rev {t : α → α → Bool} {l : List α} {x y : α} (h : Path t l x y) : Path (fun a b => t b a) l.reverse y x := by
  induction h with
  | here l r =>
    rw [List.reverse_append]
    exact path_head r _
  | next r _ h2 ih =>
    rw [List.reverse_append]
    exact path_first r ih h2
  | keep r _ ih =>
    rw [List.reverse_append]
    exact path_cons r ih
theorem path_trans {t : α → α → Bool} {l : List α} (nd : l.Nodup) : ∀ {x y z : α}, Path t l x y → Path t l y z → Path t l x z := by
  induction l using snoc_ind with
  | h0 =>
    intro x y z h
    exact absurd h path_nil
  | h1 l r ih =>
    intro x y z h1 h2
    have out : r ∉ l := fun m => by
      have := (List.nodup_append.mp nd).2.2 r m r (List.mem_singleton.mpr rfl)
      exact this rfl
    have nd' := (List.nodup_append.mp nd).1
    rcases path_snoc h2 with ⟨rfl, rfl⟩ | ⟨rfl, w, hw, tw⟩ | h3
    · exact h1
    · rcases path_snoc h1 with ⟨_, rfl⟩ | ⟨rfl, _⟩ | h1
      · exact absurd (path_mem hw).1 out
      · exact absurd (path_mem hw).1 out
      · exact .next _ (ih nd' h1 hw) tw
    · rcases path_snoc h1 with ⟨_, rfl⟩ | ⟨rfl, _⟩ | h1
      · exact absurd (path_mem h3).1 out
      · exact absurd (path_mem h3).1 out
      · exact .keep _ (ih nd' h1 h3)
/-- two sublists of a list without doubles, with the same members, are the same -/
theorem sub_ext : ∀ {l a b : List α}, l.Nodup → a.Sublist l → b.Sublist l → (∀ x, x ∈ a ↔ x ∈ b) → a = b
  | [], a, b, _, ha, hb, _ => by
    rw [List.sublist_nil.mp ha, List.sublist_nil.mp hb]
  | r :: l, a, b, nd, ha, hb, h => by
    have out := (List.nodup_cons.mp nd).1
    have nd' := (List.nodup_cons.mp nd).2
    cases ha with
    | cons _ ha =>
      cases hb with
      | cons _ hb => exact sub_ext nd' ha hb h
      | cons_cons _ hb => exact absurd (ha.subset ((h r).mpr List.mem_cons_self)) out
    | cons_cons _ ha =>
      cases hb with
      | cons _ hb => exact absurd (hb.subset ((h r).mp List.mem_cons_self)) out
      | cons_cons _ hb =>
        rename_i a' b'
        have : a' = b' := sub_ext nd' ha hb fun x => by
          constructor
          · intro m
            rcases List.mem_cons.mp ((h x).mp (List.mem_cons_of_mem _ m)) with e | e
            · rw [e] at m
              exact absurd (ha.subset m) out
            · exact e
          · intro m
            rcases List.mem_cons.mp ((h x).mpr (List.mem_cons_of_mem _ m)) with e | e
            · rw [e] at m
              exact absurd (hb.subset m) out
            · exact e
        rw [this]
/-- once more over what was taken -/
theorem pick_again (p p2 : α → Bool) (t : α → α → Bool) (l : List α) (nd : l.Nodup) (h : ∀ r ∈ l, p2 r = true ↔ r ∈ pick p t l) : pick p2 t l = pick p t l := by
  refine sub_ext nd (pick_sub _ _ _) (pick_sub _ _ _) fun y => ?_
  rw [mem_pick, mem_pick]
  constructor
  · rintro ⟨x, px, hx⟩
    obtain ⟨x', px', hx'⟩ := (mem_pick p t l x).mp ((h x (path_mem hx).1).mp px)
    exact ⟨x', px', path_trans nd hx' hx⟩
  · rintro ⟨x, px, hx⟩
    have my := (path_mem hx).2
    have xx : Path t l x x := by
      obtain ⟨a, b, e⟩ := List.append_of_mem (path_mem hx).1
      rw [e]
      clear e
      induction b using snoc_ind with
      | h0 => exact .here a x
      | h1 b r ih =>
        rw [show a ++ x :: (b ++ [r]) = (a ++ x :: b) ++ [r] by simp]
        exact .keep r ih
    exact ⟨x, (h x (path_mem hx).1).mpr ((mem_pick p t l x).mpr ⟨x, px, xx⟩), hx⟩
theorem pick_or (p q : α → Bool) (t : α → α → Bool) (l : List α) (y : α) : y ∈ pick (fun r => p r || q r) t l ↔ y ∈ pick p t l ∨ y ∈ pick q t l := by
  rw [mem_pick, mem_pick, mem_pick]
  constructor
  · rintro ⟨x, px, h⟩
    rcases (Bool.or_eq_true _ _).mp px with px | px
    · exact .inl ⟨x, px, h⟩
    · exact .inr ⟨x, px, h⟩
  · rintro (⟨x, px, h⟩ | ⟨x, px, h⟩)
    · exact ⟨x, by rw [px]; rfl, h⟩
    · exact ⟨x, by rw [px, Bool.or_true], h⟩
end
end Cu

namespace Cu
open PySem PySem.Spec PyProof.Rows L2
structure HeapIn (F : Hp) (t : Addr) (rows : List Row) : Prop where
  at_ : F t = some (.tup (rows.map fun r => V.ref r.1))
  row : ∀ r ∈ rows, F r.1 = some (.tup [r.2.1, .ref r.2.2.1])
  doc : ∀ r ∈ rows, F r.2.2.1 = some (.tup r.2.2.2)
  flat : ∀ r ∈ rows, r.2.2.2.all flatV = true ∧ flatV r.2.1 = true
  few : ∀ r ∈ rows, r.2.2.2.length ≤ 8
abbrev sHeap : Stmt := topS 16
abbrev nHeap : List Str := ["_law_hand_here", "_law_count", "_law_width", "_law_letters", "_law_pool", "_law_documents", "_law_found", "_law_turn", "_law_name", "_law_size", "_law_at"]
theorem scHeap : FnScope nHeap ["_law_hand_here", "_law_count", "_law_width"] (defScope sHeap) := ⟨rfl, rfl, rfl, by decide +kernel, rfl, by decide +kernel, by decide +kernel⟩
def tails : List Str := ["", "y", "longest"]
def nameAt (i : Nat) : Str := (⟨#[97 + i % 26]⟩ : Str) ++ tails.getD (i / 26) ""
def pool (n : Nat) : List Str := (List.range n).map nameAt
theorem pool_nodup {n : Nat} (h : n ≤ 40) : (pool n).Nodup := by
  have e : (pool 40).Nodup := by decide +kernel
  have s : (pool n).Sublist (pool 40) := by
    unfold pool
    exact (List.range_sublist.mpr h).map _
  exact e.sublist s
theorem pool_sub {n : Nat} (h : n ≤ 40) {z : Str} (m : z ∈ pool n) : z ∈ pool 40 := by
  unfold pool at m ⊢
  exact ((List.range_sublist.mpr h).map _).subset m
abbrev abc : Str := "abcdefghijklmnopqrstuvwxyz"
theorem abc_at {i : Nat} : atI abc.cps.toList (((i : Nat) : Int) % 26) = some (97 + i % 26) := by
  have e : ∀ j < 26, atI abc.cps.toList ((j : Nat) : Int) = some (97 + j) := by decide +kernel
  have := e (i % 26) (Nat.mod_lt _ (by decide))
  rw [← this]
  congr 1
theorem tail_at {i : Nat} (h : i < 40) : atI [V.str "", .str "y", .str "longest"] (((i : Nat) : Int) / 26) = some (.str (tails.getD (i / 26) "")) := by
  have e : ∀ i < 40, atI [V.str "", .str "y", .str "longest"] (((i : Nat) : Int) / 26) = some (.str (tails.getD (i / 26) "")) := by decide +kernel
  exact e i h
theorem name_short {i : Nat} (h : i < 40) : (nameAt i).length ≤ 8 ∧ (tails.getD (i / 26) "").length ≤ 7 := by
  have e : ∀ i < 40, (nameAt i).length ≤ 8 ∧ (tails.getD (i / 26) "").length ≤ 7 := by decide +kernel
  exact e i h
def docs8 : List V := [.str "a", .str "b", .str "c", .str "doc", .str "e", .str "longname", .str "z", .str "zz"]
theorem docs_cut {wd : Nat} (h : wd ≤ 8) : cutV docs8 none (some (wd : Int)) = docs8.take wd ∧ (docs8.take wd).length = wd := by
  have e : ∀ wd < 9, cutV docs8 none (some ((wd : Nat) : Int)) = docs8.take wd ∧ (docs8.take wd).length = wd := by decide +kernel
  exact e wd (by omega)
theorem docs_flat {ys : List V} (h : ys.Sublist docs8) : ys.all flatV = true ∧ ys.length ≤ 8 := by
  refine ⟨?_, h.length_le⟩
  rw [List.all_eq_true]
  intro y m
  have e : docs8.all flatV = true := by decide +kernel
  exact List.all_eq_true.mp e y (h.subset m)
theorem same_at {F H : Hp} {t : Addr} {o : HO} (s : Same F H) (e : H t = some o) : Same (upd F t o) H := fun b x eb => by
  by_cases z : b = t
  · subst z
    rw [upd_same] at eb
    cases eb
    exact e
  · rw [upd_ne z] at eb
    exact s b x eb
theorem erase_str (ps : List Str) (k : Nat) : (ps.map V.str).eraseIdx k = (ps.eraseIdx k).map V.str := by
  induction ps generalizing k with
  | nil => rfl
  | cons i r ih =>
    cases k with
    | zero => rfl
    | succ k =>
      show _ :: (List.map _ r).eraseIdx k = _ :: _
      rw [ih]
theorem erase_perm : ∀ (ps : List Str) (j : Nat) (y : Str), ps[j]? = some y → (y :: ps.eraseIdx j).Perm ps
  | x :: r, 0, y, e => by
    cases e
    exact List.Perm.refl _
  | x :: r, j + 1, y, e => (List.Perm.swap x y (r.eraseIdx j)).trans ((erase_perm r j y e).cons x)
theorem taken_nodup {zs ps : List Str} {j : Nat} {y : Str} (nd : (zs ++ ps).Nodup) (e : ps[j]? = some y) : ((zs ++ [y]) ++ ps.eraseIdx j).Nodup := by
  have : (zs ++ (y :: ps.eraseIdx j)).Perm (zs ++ ps) := List.Perm.append_left zs (erase_perm ps j y e)
  rw [List.append_assoc]
  exact this.nodup_iff.mpr nd
theorem taken_mem {zs ps : List Str} {j : Nat} {y z : Str} (e : ps[j]? = some y) (m : z ∈ (zs ++ [y]) ++ ps.eraseIdx j) : z ∈ zs ++ ps := by
  have : (zs ++ (y :: ps.eraseIdx j)).Perm (zs ++ ps) := List.Perm.append_left zs (erase_perm ps j y e)
  rw [List.append_assoc] at m
  exact this.mem_iff.mp m
/-- the heap so far -/
structure Made (a D dc fo : Addr) (G H : Hp) (n N wd i : Nat) (rows : List Row) (zs ps : List Str) (F1 H1 : Hp) : Prop where
  made : Mk a G H F1 H1
  hand : Hand H1 a (n + 102 * i)
  d1 : F1 D = none
  d2 : F1 dc = none
  d3 : F1 fo = none
  eD : H1 D = some (.lst (ps.map V.str))
  edc : H1 dc = some (.lst (docs8.take wd))
  efo : H1 fo = some (.lst (rows.map fun r => V.ref r.1))
  len : rows.length = i
  row : ∀ r ∈ rows, F1 r.1 = some (.tup [r.2.1, .ref r.2.2.1])
  doc : ∀ r ∈ rows, F1 r.2.2.1 = some (.tup r.2.2.2)
  sub : ∀ r ∈ rows, r.2.2.2.Sublist docs8 ∧ 0 < r.2.2.2.length
  nms : rows.map (fun r => r.2.1) = zs.map V.str
  nd : (zs ++ ps).Nodup
  sz : ps.length + i = N
  inn : ∀ z ∈ zs ++ ps, z ∈ pool N
section
variable {P : Program} {w : World} {K : PySem.W.Frag} {mg : Str → Option Value} {base : Heap}
def spHeap : Sp := fun vs H Q _ => ∃ (a : Addr) (c wd n : Nat) (F : Hp), vs = [.ref a, .int (c : Int), .int (wd : Int)] ∧ Hand H a n ∧ n + 10000 < 2 ^ 40 ∧ c ≤ 40 ∧ 1 ≤ wd ∧ wd ≤ 8 ∧ Same F H ∧ F a = none ∧
  ∀ F' H' t rows (zs : List Str), Mk a F H F' H' → Hand H' a (n + 102 * c) → HeapIn F' t rows → rows.length = c → rows.map (fun r => r.2.1) = zs.map V.str → zs.Nodup → (∀ z ∈ zs, z ∈ pool 40) → (∀ r ∈ rows, r.2.2.2.Sublist docs8 ∧ 0 < r.2.2.2.length) → Q (.ref t) H'
theorem ok_heap {f fT fO fS : Addr} {fd fdT fdO fdS : FuncData} {k : Nat} (F : Fun K "_law_heap" "_law_heap" sHeap f fd) (DT : Df K mg "_law_take" sTake ["_law_hand_here", "_law_many"] fT fdT) (DO : Df K mg "_law_of" sOf ["_law_hand_here", "_law_some"] fO fdO) (DS : Df K mg "_law_subset" sSub ["_law_hand_here", "_law_some", "_law_count"] fS fdS) (T : Bl mg) :
    FnOk P w K mg base CX0 (k + 3) f fd ["_law_hand_here", "_law_count", "_law_width"] spHeap := by
  have GT : FnOk P w K mg base CX0 1 fT fdT _ spTake := ok_take DT.F T
  have GL : FnOk P w K mg base CX0 2 fO fdO _ spOfL := ok_ofL DO.F DT T
  have GS : FnOk P w K mg base CX0 2 fS fdS _ spSub := ok_sub DS.F DT T
  refine F.ok scHeap (fun vs H Q E h => ?_) (fun cdv A outer s H vs Q E hr h => ?_)
  · obtain ⟨a, c, wd, n, G, rfl, _⟩ := h
    rfl
  · obtain ⟨a, c, wd, n, G, rfl, hH, hn, c40, w1, w8, sG, ga, q⟩ := h
    refine ⟨_, (pss_cons (ps_set (i := 3) scHeap.nd rfl (.inr rfl) pe_str)
  (pss_cons (ps_setLc (i := 4) (own := [("_law_at", 10)]) (g := gName 10) (tt := tYes) rfl scHeap.nd rfl rfl (sw_true rfl rfl rfl (by decide +kernel)) (pi_range1 (by rfl) T.range (pa_cons (pe_callB (call_max2 rfl) (by rfl) T.max (by decide +kernel) (pa_cons pe_int (pa_cons (pv 1) pa_nil))) pa_nil)) (blkOk_by (own := [("_law_at", 10)]) (N := nHeap) (sc := defScope sHeap) (by decide +kernel)) (fun _ _ _ _ _ => (pg_name (i := 10) scHeap.nd rfl (.inl rfl))) (fun _ _ _ _ _ => pts_nil) (fun _ _ _ _ _ => (pe_op op_add_str (pe_ix ix_str (pv 3) (pe_op op_mod (pv 10) pe_int) (fun _ _ => rfl)) (pe_ix (show IxR _ (rIxL K) from ix_list) (pe_lst (pa_cons pe_str (pa_cons pe_str (pa_cons pe_str pa_nil)))) (pe_op op_fdiv (pv 10) pe_int) (fun _ _ => rfl)))))
  (pss_cons (ps_set (i := 5) scHeap.nd rfl (.inl rfl) (pe_slice sl_list (pe_lst (pa_cons pe_str (pa_cons pe_str (pa_cons pe_str (pa_cons pe_str (pa_cons pe_str (pa_cons pe_str (pa_cons pe_str (pa_cons pe_str pa_nil))))))))) po_none (po_some (pv 2))))
  (pss_cons (ps_set (i := 6) scHeap.nd rfl (.inl rfl) (pe_lst pa_nil))
  (pss_cons (ps_for PassesOwn.never rfl (pi_range1 (by rfl) T.range (pa_cons (pv 1) pa_nil)) (pg_name (i := 7) scHeap.nd rfl (.inl rfl))
  (pss_cons (ps_set (i := 8) scHeap.nd rfl (.inl rfl) (pe_bm PySem.F.plainAttrs_list PySem.F.slot_list_pop PySem.F.type_list_pop mt_popAt (pv 4) (pa_cons (pe_call GT (hr.mono (by omega)) (by rfl) DT.g DT.F.kp DT.b .nil pass0 (pa_cons (pv 0) (pa_cons (pe_callB call_len_seq (by rfl) T.len PySem.boot_len (pa_cons (pv 4) pa_nil)) pa_nil))) pa_nil)))
  (pss_cons (ps_set (i := 9) scHeap.nd rfl (.inl rfl) (pe_callB (call_min2 rfl) (by rfl) T.min (by decide +kernel) (pa_cons (pv 2) (pa_cons (pe_call GL (hr.mono (by omega)) (by rfl) DO.g DO.F.kp DO.b .nil pass0 (pa_cons (pv 0) (pa_cons (pe_lst (pa_cons pe_int (pa_cons pe_int (pa_cons pe_int (pa_cons pe_int (pa_cons pe_int (pa_cons pe_int (pa_cons pe_int pa_nil)))))))) pa_nil))) pa_nil))))
  (pss_one (ps_expr (pe_bm PySem.F.plainAttrs_list PySem.F.slot_list_append PySem.F.type_list_append mt_append (pv 6) (pa_cons (pe_tup (pa_cons (pv 8) (pa_cons (pe_call GS (hr.mono (by omega)) (by rfl) DS.g DS.F.kp DS.b .nil pass0 (pa_cons (pv 0) (pa_cons (pv 5) (pa_cons (pv 9) pa_nil)))) pa_nil))) pa_nil)))))))
  (pss_one (ps_ret (pe_callTy call_tuple_of (by rfl) T.tuple (by decide +kernel) (pa_cons (pv 6) pa_nil))))))))), ?_⟩
    refine ⟨.int c, rfl, 26, c, rfl, ?_⟩
    obtain ⟨N, hN, N40, cN, N1⟩ : ∃ N : Nat, (if (c : Int) > 26 then (c : Int) else 26) = (N : Int) ∧ N ≤ 40 ∧ c ≤ N ∧ 0 < N := by
      by_cases z : (c : Int) > 26
      · exact ⟨c, if_pos z, c40, Nat.le_refl _, by omega⟩
      · exact ⟨26, if_neg z, by decide, by omega, by decide⟩
    rw [hN]
    refine ⟨N, rfl, by omega, by omega, fun D nD => ?_⟩
    have Da := Hand.ne hH.some nD
    refine lc_range (lo := 0) (n := (N : Int).toNat) (fun i H2 => H2 D = some (.lst ((pool i).map V.str)) ∧ Same H H2) ?_ ?_ ?_
    · exact ⟨upd_same, same_upd nD⟩
    · rintro i H2 hi ⟨eD, s2⟩
      refine ⟨rfl, lc_yes ?_⟩
      have i40 : i < 40 := by omega
      refine ⟨.str abc, rfl, .int (0 + (i : Nat)), rfl, 0 + (i : Nat), 26, rfl, rfl, (show (0 : Int) < 26 by decide), abc, _, 97 + i % 26, rfl, rfl, by decide +kernel, by rw [Int.zero_add]; exact abc_at, by show 3 ≤ sizeLine; decide, fun l nl => ?_⟩
      refine ⟨.int (0 + (i : Nat)), rfl, 0 + (i : Nat), 26, rfl, rfl, ⟨by decide, by decide⟩, l, _, _, .str (tails.getD (i / 26) ""), rfl, rfl, SqL.of upd_same, by rw [Int.zero_add]; exact tail_at i40, _, _, rfl, rfl, ?_, _, (upd_ne (ne_of_none eD nl)).trans eD, ?_, ?_, ?_⟩
      · have := (name_short i40).2
        show 1 + (tails.getD (i / 26) "").length ≤ sizeLine
        exact Nat.le_trans (show 1 + (tails.getD (i / 26) "").length ≤ 1000 by omega) (by decide)
      · rw [List.length_map]
        unfold pool
        rw [List.length_map, List.length_range]
        exact small1000 (by omega)
      · rw [upd_same]
        unfold pool
        rw [List.range_succ, List.map_append, List.map_append]
        rfl
      · exact same_put (s2.trans (same_upd nl)) nD
    · rintro H2 ⟨eD, s2⟩
      rw [Int.toNat_natCast] at eD
      refine ⟨by show 8 ≤ sizeLine; decide, fun l8 n8 => ⟨.int wd, rfl, wd, rfl, l8, docs8, rfl, SqL.of upd_same, fun dc ndc => ⟨by show 0 ≤ sizeLine; decide, fun fo nfo => ⟨.int c, rfl, c, rfl, by omega, by omega, ?_⟩⟩⟩⟩
      have s3 := (s2.trans (same_upd (o := .lst docs8) n8)).trans (same_upd (o := .lst (cutV docs8 none (some (wd : Int)))) ndc)
      have s4 := s3.trans (same_upd (o := .lst []) nfo)
      have hdc : H dc = none := (s2.trans (same_upd (o := .lst docs8) n8)).free ndc
      have hfo : H fo = none := s3.free nfo
      have Ddc : D ≠ dc := ne_of_none ((same_upd (o := .lst docs8) n8) _ _ eD) ndc
      have Dfo : D ≠ fo := ne_of_none ((same_upd (o := .lst (cutV docs8 none (some (wd : Int)))) ndc) _ _ ((same_upd (o := .lst docs8) n8) _ _ eD)) nfo
      have dcfo : dc ≠ fo := ne_of_none upd_same nfo
      have aD : a ≠ D := Da.symm
      have adc : a ≠ dc := by
        rintro rfl
        obtain ⟨o, eo⟩ := hH.some
        rw [eo] at hdc
        cases hdc
      have afo : a ≠ fo := by
        rintro rfl
        obtain ⟨o, eo⟩ := hH.some
        rw [eo] at hfo
        cases hfo
      have pl : (pool N).length = N := by
        unfold pool
        rw [List.length_map, List.length_range]
      refine for_range (lo := 0) (n := (c : Int).toNat) (fun i σ H1 => ∃ (y7 y8 y9 y10 : Option V) (rows : List Row) (zs ps : List Str) (F1 : Hp), σ = [some (.ref a), some (.int c), some (.int wd), some (.str abc), some (.ref D), some (.ref dc), some (.ref fo), y7, y8, y9, y10] ∧ Made a D dc fo G H n N wd i rows zs ps F1 H1) ?_ ?_ ?_
      · refine ⟨_, _, _, _, [], [], pool N, G, rfl, ⟨⟨.of s4, ?_, sG.trans s4, Same.refl _, fun _ _ _ z => z⟩, hH.same s4, sG.free nD, sG.free hdc, sG.free hfo, ?_, ?_, upd_same, rfl, fun r m => (nomatch m), fun r m => (nomatch m), fun r m => (nomatch m), rfl, pool_nodup N40, pl, fun z m => m⟩⟩
        · exact (hH.same s4).some
        · exact (same_upd (o := .lst []) nfo) _ _ ((same_upd (o := .lst (cutV docs8 none (some (wd : Int)))) ndc) _ _ ((same_upd (o := .lst docs8) n8) _ _ eD))
        · rw [(docs_cut w8).1]
          exact (upd_ne dcfo).trans upd_same
      · rintro i σ H1 hi ⟨y7, y8, y9, y10, rows, zs, ps, F1, rfl, M⟩
        have ic : i < c := by omega
        have psz := M.sz
        have F1a := M.made.fa hH.some ga
        have pml : (ps.map V.str).length = ps.length := List.length_map _
        refine ⟨.ref D, rfl, .inl ⟨rfl, _, SqL.of M.eD⟩, .ref a, rfl, .ref D, rfl, D, _, rfl, .inl (SqL.of M.eD), a, _, _, rfl, M.hand, by omega, by omega, by omega, fun H2 d u2 h2 d0 d1 => ?_⟩
        obtain ⟨v, g1, g2⟩ := at_of (xs := ps.map V.str) d0 d1
        obtain ⟨j, q1, q2, q3, _, _⟩ := atI_get g2
        have q2' := q2
        rw [List.getElem?_map] at q2'
        obtain ⟨y, hy, rfl⟩ := Option.map_eq_some_iff.mp q2'
        refine ⟨D, _, d, j, .str y, rfl, rfl, u2 D _ aD.symm M.eD, by omega, by omega, q1, q2, ?_⟩
        rw [erase_str]
        -- the size
        refine ⟨.int wd, rfl, .ref a, rfl, by show 7 ≤ sizeLine; decide, fun l nl => ?_⟩
        have h2' : Hand (upd H2 D (.lst ((ps.eraseIdx j).map V.str))) a _ := h2.at (upd_ne aD)
        have la := Hand.ne h2'.some nl
        refine ⟨a, l, _, _, rfl, h2'.new nl, by omega, la, upd_same, (by show 0 < 7; decide), (by show 7 ≤ 1000; decide), fun H4 v u4 h4 mv => ?_⟩
        obtain ⟨t4, rfl, t5, t6⟩ : ∃ t : Nat, v = .int (t : Int) ∧ t ≤ 4 ∧ 1 ≤ t := by
          simp only [List.mem_cons, List.not_mem_nil, or_false] at mv
          rcases mv with rfl | rfl | rfl | rfl | rfl | rfl | rfl
          · exact ⟨1, rfl, by decide, by decide⟩
          · exact ⟨1, rfl, by decide, by decide⟩
          · exact ⟨1, rfl, by decide, by decide⟩
          · exact ⟨2, rfl, by decide, by decide⟩
          · exact ⟨2, rfl, by decide, by decide⟩
          · exact ⟨3, rfl, by decide, by decide⟩
          · exact ⟨4, rfl, by decide, by decide⟩
        refine ⟨wd, t4, rfl, ?_⟩
        obtain ⟨sz, hsz, szw, sz1⟩ : ∃ sz : Nat, (if (t4 : Int) < wd then (t4 : Int) else wd) = (sz : Int) ∧ sz ≤ wd ∧ 1 ≤ sz := by
          by_cases z : (t4 : Int) < wd
          · exact ⟨t4, if_pos z, by omega, t6⟩
          · exact ⟨wd, if_neg z, Nat.le_refl _, w1⟩
        rw [hsz]
        -- what is as it was
        have uu : Upto a H1 H2 := u2
        have hD4 : ∀ o, H1 D = some o → H D = none := fun _ _ => nD |> fun z => z
        have keep4 : ∀ b o, b ≠ a → b ≠ D → H1 b = some o → H4 b = some o := fun b o n1 n2 e => u4 b o n1 ((same_upd nl) _ _ ((upd_ne n2).trans (u2 b o n1 e)))
        have eD4 : H4 D = some (.lst ((ps.eraseIdx j).map V.str)) := u4 D _ aD.symm ((same_upd nl) _ _ upd_same)
        have edc4 : H4 dc = some (.lst (docs8.take wd)) := keep4 dc _ adc.symm Ddc.symm M.edc
        have efo4 : H4 fo = _ := keep4 fo _ afo.symm Dfo.symm M.efo
        have sub4 : Same F1 H4 := fun b o e => keep4 b o (ne_of_none e F1a) (ne_of_none e M.d1) (M.made.sub b o e)
        have up4 : Upto a H H4 := fun b o n1 e => keep4 b o n1 (ne_of_none e nD) (M.made.upto b o n1 e)
        refine ⟨.ref fo, rfl, .inl ⟨rfl, _, SqL.of efo4⟩, .str y, rfl, .ref a, rfl, .ref dc, rfl, .int sz, rfl, a, dc, docs8.take wd, sz, _, rfl, h4, by omega, adc.symm, edc4, by rw [(docs_cut w8).2]; exact szw, by rw [(docs_cut w8).2]; omega, fun H6 t ys u6 h6 nt et sub len => ⟨by show 2 ≤ sizeLine; decide, fun p np => ?_⟩⟩
        have F1t : F1 t = none := sub4.free nt
        have sub6 : Same F1 H6 := same_upto sub4 u6 F1a
        have subT : Same (upd F1 t (.tup ys)) H6 := same_at sub6 et
        have ta : t ≠ a := Hand.ne h4.some nt
        have tD : D ≠ t := ne_of_none eD4 nt
        have tdc : dc ≠ t := ne_of_none edc4 nt
        have tfo : fo ≠ t := ne_of_none efo4 nt
        have eD6 := u6 D _ aD.symm eD4
        have edc6 := u6 dc _ adc.symm edc4
        have efo6 := u6 fo _ afo.symm efo4
        have pD : D ≠ p := ne_of_none eD6 np
        have pdc : dc ≠ p := ne_of_none edc6 np
        have pfo : fo ≠ p := ne_of_none efo6 np
        have pa : p ≠ a := Hand.ne h6.some np
        have subP := same_both (o := .tup [.str y, .ref t]) subT np
        have ht : H t = none := up4.free ta nt
        have up6 : Upto a H H6 := up4.trans u6
        have hp0 : H p = none := up6.free pa np
        have mono : Same F1 (upd (upd F1 t (.tup ys)) p (.tup [.str y, .ref t])) := (same_upd F1t).trans (same_upd (subT.free np))
        refine ⟨fo, _, _, rfl, rfl, (upd_ne pfo).trans efo6, ?_, ?_⟩
        · rw [List.length_map, M.len]
          exact small1000 (by omega)
        · refine ⟨_, _, _, _, rows ++ [(p, .str y, t, ys)], zs ++ [y], ps.eraseIdx j, _, rfl, ⟨⟨?_, ?_, ?_, M.made.mono.trans mono, ?_⟩, ?_, ?_, ?_, ?_, ?_, ?_, ?_, ?_, ?_, ?_, ?_, ?_, taken_nodup M.nd hy, ?_, fun z m => M.inn z (taken_mem hy m)⟩⟩
          · exact (up6.trans (.new np)).put hfo
          · obtain ⟨o, eo⟩ := (h6.new (o := .tup [.str y, .ref t]) np).some
            exact ⟨o, (upd_ne afo).trans eo⟩
          · refine same_put subP ?_
            rw [upd_ne pfo, upd_ne tfo]
            exact M.d3
          · intro b o e nb
            have b1 := M.made.fresh b o e nb
            rw [upd_ne (ne_of_none e hp0), upd_ne (ne_of_none e ht)]
            exact b1
          · exact ((h6.new np).at (upd_ne afo)).mono (by omega)
          · rw [upd_ne pD, upd_ne tD]
            exact M.d1
          · rw [upd_ne pdc, upd_ne tdc]
            exact M.d2
          · rw [upd_ne pfo, upd_ne tfo]
            exact M.d3
          · exact (upd_ne Dfo).trans ((upd_ne pD).trans eD6)
          · exact (upd_ne dcfo).trans ((upd_ne pdc).trans edc6)
          · rw [upd_same, List.map_append]
            rfl
          · rw [List.length_append, M.len]
            rfl
          · intro r m
            rcases List.mem_append.mp m with m | m
            · exact mono _ _ (M.row r m)
            · rw [List.mem_singleton.mp m]
              exact upd_same
          · intro r m
            rcases List.mem_append.mp m with m | m
            · exact mono _ _ (M.doc r m)
            · rw [List.mem_singleton.mp m]
              exact (upd_ne (fun z => by rw [← z, et] at np; cases np)).trans upd_same
          · intro r m
            rcases List.mem_append.mp m with m | m
            · exact M.sub r m
            · rw [List.mem_singleton.mp m]
              exact ⟨sub.trans (List.take_sublist _ _), by show 0 < ys.length; omega⟩
          · rw [List.map_append, List.map_append, M.nms]
            rfl
          · rw [List.length_eraseIdx, if_pos (by omega)]
            omega
      · rintro σ H1 ⟨y7, y8, y9, y10, rows, zs, ps, F1, rfl, M⟩
        refine ⟨.ref fo, rfl, fo, _, rfl, .inl ⟨SqL.of M.efo, fun t nt => ?_⟩⟩
        have M' := M.made.trans (.new (.tup (rows.map fun r => V.ref r.1)) M.made.sub M.made.live nt)
        have s' : Same F1 (upd F1 t _) := same_upd (o := .tup (rows.map fun r => V.ref r.1)) (M.made.sub.free nt)
        have len := M.len
        rw [Int.toNat_natCast] at len
        refine q _ _ t rows zs M' ((M.hand.new nt).mono (by omega)) ⟨upd_same, fun r m => s' _ _ (M.row r m), fun r m => s' _ _ (M.doc r m), fun r m => ⟨(docs_flat (M.sub r m).1).1, ?_⟩, fun r m => (docs_flat (M.sub r m).1).2⟩ len M.nms (List.nodup_append.mp M.nd).1 (fun z m => pool_sub N40 (M.inn z (List.mem_append_left _ m))) M.sub
        have : r.2.1 ∈ zs.map V.str := by
          rw [← M.nms]
          exact List.mem_map_of_mem m
        obtain ⟨z, _, e⟩ := List.mem_map.mp this
        rw [← e]
        rfl
end
end Cu

namespace Cu
open PySem PySem.Spec PyProof.Rows L2
/-! ### slices and sums of tuples -/
theorem cut_whole {xs : List V} {lo hi : Option Int} (h : HT.sIx xs.length 0 lo = 0 ∧ HT.sIx xs.length xs.length hi = xs.length) : cutV xs lo hi = xs := by
  unfold cutV
  rw [h.1, h.2, List.drop_zero, Nat.sub_zero, List.take_length]
theorem cut_mem {xs : List V} {lo hi : Option Int} {y : V} (m : y ∈ cutV xs lo hi) : y ∈ xs := List.mem_of_mem_drop (List.mem_of_mem_take m)
theorem cut_len {xs : List V} {lo hi : Option Int} : (cutV xs lo hi).length ≤ xs.length := by
  unfold cutV
  rw [List.length_take, List.length_drop]
  omega
theorem slice2 {K : PySem.W.Frag} {a t : Addr} {F H : Hp} {xs : List V} {lo hi : Option Int} {Q : VK} (s : Same F H) (l : ∃ o, H a = some o) (e : F t = some (.tup xs))
    (q : ∀ F' H' v, Mq a F H F' H' → F' v = some (.tup (cutV xs lo hi)) → Q (.ref v) H') : rSlA K (.ref t) lo hi H Q := by
  refine ⟨t, xs, rfl, SqT.of (s _ _ e), fun hw => ?_, fun _ p n => ?_⟩
  · exact q F H t (.refl s l) (by rw [cut_whole hw]; exact e)
  · exact q _ _ p (.new _ s l n) upd_same
theorem cat2 {K : PySem.W.Frag} {a t u : Addr} {F H : Hp} {xs ys : List V} {Q : VK} (s : Same F H) (l : ∃ o, H a = some o) (e1 : F t = some (.tup xs)) (e2 : F u = some (.tup ys)) (len : xs.length + ys.length ≤ 200)
    (q : ∀ F' H' v, Mq a F H F' H' → F' v = some (.tup (xs ++ ys)) → Q (.ref v) H') : rCatA K (.ref t) (.ref u) H Q := by
  refine ⟨t, u, xs, ys, rfl, rfl, SqT.of (s _ _ e1), SqT.of (s _ _ e2), Nat.le_trans len (by decide), fun h => ?_, fun _ h => ?_, fun _ _ p n => ?_⟩
  · subst h
    exact q F H u (.refl s l) e2
  · subst h
    exact q F H t (.refl s l) (by rw [List.append_nil]; exact e1)
  · exact q _ _ p (.new _ s l n) upd_same
theorem slice3 {K : PySem.W.Frag} {a t : Addr} {σ : List (Option V)} {F H : Hp} {xs : List V} {lo : Int} {Q : VK} (s : Same F H) (l : ∃ o, H a = some o) (e : F t = some (.tup xs))
    (q : ∀ F' H' v, Mq a F H F' H' → F' v = some (.tup (cutV xs (some lo) none)) → Q (.ref v) H') : tNoPart σ H fun u H3 => rSlA K (.ref t) (some lo) u H3 Q := slice2 s l e q
theorem one_mem {n k : Nat} {F : Hp} {x : V} (h : Wl n k F x) : ∀ y ∈ [x], Wl n k F y := fun y m => by
  rw [List.mem_singleton.mp m]
  exact h
theorem wl_app {n k : Nat} {F : Hp} {xs ys : List V} (h : ∀ x ∈ xs, Wl n k F x) (g : ∀ x ∈ ys, Wl n k F x) : ∀ x ∈ xs ++ ys, Wl n k F x := fun x m => by
  rcases List.mem_append.mp m with m | m
  · exact h x m
  · exact g x m
def ascB (z : Str) : Bool := z.cps.toList.all (fun c => decide (c < 128))
theorem asc_b {z : Str} (h : ascB z = true) : Asc z := fun c m => of_decide_eq_true (List.all_eq_true.mp h c m)
/-! ### an action as it is drawn -/
def Nm (y : V) : Prop := ∃ w, y = .str w ∧ Asc w ∧ w.length ≤ 8
theorem Nm.wl {y : V} (h : Nm y) {F : Hp} {n k : Nat} (hn : 82 ≤ n := by decide) : Wl n k F y := by
  obtain ⟨w, rfl, a, l⟩ := h
  exact wl_str (m := 8) a l (by omega)
structure Acn (F : Hp) (p t : Addr) (z : V) (ds : List V) : Prop where
  at_ : F p = some (.tup [z, .ref t])
  doc : F t = some (.tup ds)
  nm : Nm z
  dn : ∀ y ∈ ds, Nm y
  len : ds.length ≤ 8
  pos : 0 < ds.length
def Acts (F : Hp) (x : V) : Prop := ∃ p t z ds, x = .ref p ∧ Acn F p t z ds
theorem Acn.more {F F' : Hp} {p t : Addr} {z : V} {ds : List V} (s : Same F F') (h : Acn F p t z ds) : Acn F' p t z ds := ⟨s _ _ h.at_, s _ _ h.doc, h.nm, h.dn, h.len, h.pos⟩
theorem Acts.more {F F' : Hp} {x : V} (s : Same F F') (h : Acts F x) : Acts F' x := by
  obtain ⟨p, t, z, ds, rfl, h⟩ := h
  exact ⟨p, t, z, ds, rfl, h.more s⟩
theorem wl_docs {F : Hp} {t : Addr} {ds : List V} (e : F t = some (.tup ds)) (h : ∀ y ∈ ds, Nm y) (l : ds.length ≤ 20) : Wl 2000 1 F (.ref t) := wl_tup (n := 82) (k := 0) (m := 2000) e (fun y m => (h y m).wl) 20 l (by decide)
theorem Acts.wl {F : Hp} {x : V} (h : Acts F x) : Wl 70000 3 F x := by
  obtain ⟨p, t, z, ds, rfl, h⟩ := h
  refine (wl_tup (n := 2000) (k := 1) (m := 5000) h.at_ (fun y m => ?_) 2 (Nat.le_refl _) (by decide)).mono
  simp only [List.mem_cons, List.not_mem_nil, or_false] at m
  rcases m with rfl | rfl
  · exact h.nm.wl
  · exact wl_docs h.doc h.dn (by have := h.len; omega)
theorem Nm.cp {y : V} (h : Nm y) {F : Hp} {k : Nat} : Cp k F y := by
  obtain ⟨w, rfl, a, l⟩ := h
  exact cp_str a
theorem Acts.cp {F : Hp} {x : V} (h : Acts F x) : Cp 2 F x := by
  obtain ⟨p, t, z, ds, rfl, h⟩ := h
  refine cp_tup h.at_ fun y m => ?_
  simp only [List.mem_cons, List.not_mem_nil, or_false] at m
  rcases m with rfl | rfl
  · exact h.nm.cp
  · exact cp_tup h.doc fun y m => (h.dn y m).cp
/-- a list to draw from -/
structure Ls (a l : Addr) (xs : List V) (F H : Hp) : Prop where
  at_ : H l = some (.lst xs)
  la : l ≠ a
  ok : ∀ x ∈ xs, Wl 30000 2 F x
  pos : 0 < xs.length
  len : xs.length ≤ 30
theorem Ls.go {a l : Addr} {xs : List V} {F H F' H' : Hp} (h : Ls a l xs F H) (m : Mk a F H F' H') : Ls a l xs F' H' := ⟨m.upto _ _ h.la h.at_, h.la, fun x mx => (h.ok x mx).more m.mono, h.pos, h.len⟩
theorem Mq.skip {a p : Addr} {F H : Hp} (o : HO) (s : Same F H) (l : ∃ o, H a = some o) (n : H p = none) : Mq a F H F (upd H p o) := ⟨.skip o s l n, same_upd n⟩
theorem ls_of {a l : Addr} {F H : Hp} (c : ∃ o, H a = some o) (nl : H l = none) {xs : List V} (ok : ∀ x ∈ xs, Wl 30000 2 F x) (h0 : 0 < xs.length) (h1 : xs.length ≤ 30) : Ls a l xs F (upd H l (.lst xs)) := ⟨upd_same, Hand.ne c nl, ok, h0, h1⟩
theorem Kn.ls {a l : Addr} {ks : List V} {F0 H0 F H : Hp} (c : Kn 30000 2 a F0 H0 ks F H) (nl : H l = none) {xs : List V} (ok : ∀ x ∈ xs, Wl 30000 2 F x) (h0 : 0 < xs.length) (h1 : xs.length ≤ 30) : Ls a l xs F (upd H l (.lst xs)) := ⟨upd_same, Hand.ne c.mq.md.live nl, ok, h0, h1⟩
abbrev sCA : Stmt := topS 20
abbrev nCA : List Str := ["_law_hand_here", "_law_heap_here", "_law_at", "_law_name", "_law_documents", "_law_other", "_law_names", "_law_lists", "_law_whole", "_law_way"]
theorem scCA : FnScope nCA ["_law_hand_here", "_law_heap_here", "_law_at"] (defScope sCA) := ⟨rfl, rfl, rfl, by decide +kernel, rfl, by decide +kernel, by decide +kernel⟩
section
variable {P : Program} {w : World} {K : PySem.W.Frag} {mg : Str → Option Value} {base : Heap}
def spCA : Sp := fun vs H Q _ => ∃ (a t : Addr) (d : Int) (hs : List V) (n : Nat) (F : Hp), vs = [.ref a, .ref t, .int d] ∧ Hand H a n ∧ n + 5000 < 2 ^ 40 ∧ Same F H ∧ F a = none ∧ F t = some (.tup hs) ∧ hs.length ≤ 40 ∧ 0 ≤ d ∧ d < hs.length ∧ (∀ x ∈ hs, Acts F x) ∧
  ∀ F' H' v, Mk a F H F' H' → Hand H' a (n + 3) → Wl 70000 3 F' v → Q v H'
theorem ok_cA {f fT fO : Addr} {fd fdT fdO : FuncData} {k : Nat} (F : Fun K "_law_changed_action" "_law_changed_action" sCA f fd) (DT : Df K mg "_law_take" sTake ["_law_hand_here", "_law_many"] fT fdT) (DO : Df K mg "_law_of" sOf ["_law_hand_here", "_law_some"] fO fdO)
    (T : Bl mg) : FnOk P w K mg base CX0 (k + 3) f fd ["_law_hand_here", "_law_heap_here", "_law_at"] spCA := by
  have GT : FnOk P w K mg base CX0 1 fT fdT _ spTake := ok_take DT.F T
  have GL : FnOk P w K mg base CX0 2 fO fdO _ spOfL := ok_ofL DO.F DT T
  refine F.ok scCA (fun vs H Q E h => ?_) (fun cdv A outer s H vs Q E hr h => ?_)
  · obtain ⟨a, t, d, hs, n, G, rfl, _⟩ := h
    rfl
  · obtain ⟨a, t, d, hs, n, G, rfl, hH, hn, sG, ga, et, hl, d0, d1, acts, q⟩ := h
    obtain ⟨x, ex1, ex2⟩ := at_of (xs := hs) d0 d1
    obtain ⟨p, dt, z, ds, rfl, ac⟩ := acts x (List.mem_of_getElem? ex1)
    -- the end: one of them is taken
    obtain ⟨t6, h6, r6⟩ : ∃ tR, PSs (cxOf CX0 P w K mg base nCA "_law_changed_action" (defScope sCA) f cdv A outer s H E).nox ((defBody sCA).drop 6) tR ∧ ∀ (l1 l2 l3 : Addr) (x1 x2 x3 : List V) (F1 H1 : Hp) (y5 y9 : Option V), Mk a G H F1 H1 → Hand H1 a (n + 1) → Ls a l1 x1 F1 H1 → Ls a l2 x2 F1 H1 → Ls a l3 x3 F1 H1 →
        tR { nx := fun _ H' => Q .non H', rt := Q } [some (.ref a), some (.ref t), some (.int d), some z, some (.ref dt), y5, some (.ref l1), some (.ref l2), some (.ref l3), y9] H1 := by
      refine ⟨_, (pss_cons (ps_set (i := 9) scCA.nd rfl (.inl rfl) (pe_call GT (hr.mono (by omega)) (by rfl) DT.g DT.F.kp DT.b .nil pass0 (pa_cons (pv 0) (pa_cons pe_int pa_nil))))
  (pss_cons (ps_if (pt_cmpR op_eq (pv 9) pe_int (nomark _))
  (pss_one (ps_ret (pe_tup (pa_cons (pe_call GL (hr.mono (by omega)) (by rfl) DO.g DO.F.kp DO.b .nil pass0 (pa_cons (pv 0) (pa_cons (pv 6) pa_nil))) (pa_cons (pv 4) pa_nil)))))
  pss_nil)
  (pss_one (ps_ret (pe_ifExp (pt_cmpR op_eq (pv 9) pe_int (nomark _)) (pe_tup (pa_cons (pv 3) (pa_cons (pe_call GL (hr.mono (by omega)) (by rfl) DO.g DO.F.kp DO.b .nil pass0 (pa_cons (pv 0) (pa_cons (pv 7) pa_nil))) pa_nil))) (pe_call GL (hr.mono (by omega)) (by rfl) DO.g DO.F.kp DO.b .nil pass0 (pa_cons (pv 0) (pa_cons (pv 8) pa_nil)))))))), fun l1 l2 l3 x1 x2 x3 F1 H1 y5 y9 m1 hh1 L1 L2' L3 => ?_⟩
      have e30 : ∀ (X : List V) (h : X.length ≤ 30), X.length ≤ 1000 := fun X h => Nat.le_trans h (by decide)
      refine ⟨.ref a, rfl, a, 3, n + 1, rfl, hh1, by omega, by omega, by omega, fun H2 y u2 h2 y0 y1 => ?_⟩
      have mk2 : Mk a F1 H1 F1 H2 := .draw m1.sub u2 h2.some (m1.fa hH.some ga)
      have L1 := L1.go mk2
      have L2' := L2'.go mk2
      have L3 := L3.go mk2
      have m2 := m1.trans mk2
      have acd : Wl 30000 2 F1 (.ref dt) := (wl_docs (m1.mono _ _ ac.doc) ac.dn (by have := ac.len; omega)).mono
      refine ⟨.int y, rfl, rfl, _, rfl, ite2 (fun _ => ?_) (fun _ => ?_)⟩
      · refine ⟨.ref a, rfl, .ref l1, rfl, a, l1, x1, n + 2, rfl, h2, by omega, L1.la, L1.at_, L1.pos, e30 _ L1.len, fun H3 v u3 h3 mv => ?_⟩
        have mk3 : Mk a F1 H2 F1 H3 := .draw m2.sub u3 h3.some (m2.fa hH.some ga)
        have m3 := m2.trans mk3
        refine ⟨.ref dt, rfl, by show 2 ≤ sizeLine; decide, fun r nr => ?_⟩
        have mk4 : Mk a F1 H3 _ _ := .new (.tup [v, .ref dt]) m3.sub m3.live nr
        refine q _ _ _ (m3.trans mk4) (h3.new nr) ?_
        refine wl_tup (n := 30000) (k := 2) (m := 70000) upd_same (fun y m => ?_) 2 (Nat.le_refl _) (by decide)
        simp only [List.mem_cons, List.not_mem_nil, or_false] at m
        rcases m with rfl | rfl
        · exact (L1.ok _ mv).more mk4.mono
        · exact acd.more mk4.mono
      · refine ⟨.int y, rfl, rfl, _, rfl, ite2 (fun _ => ?_) (fun _ => ?_)⟩
        · refine ⟨z, rfl, .ref a, rfl, .ref l2, rfl, a, l2, x2, n + 2, rfl, h2, by omega, L2'.la, L2'.at_, L2'.pos, e30 _ L2'.len, fun H3 v u3 h3 mv => ?_⟩
          have mk3 : Mk a F1 H2 F1 H3 := .draw m2.sub u3 h3.some (m2.fa hH.some ga)
          have m3 := m2.trans mk3
          refine ⟨by show 2 ≤ sizeLine; decide, fun r nr => ?_⟩
          have mk4 : Mk a F1 H3 _ _ := .new (.tup [z, v]) m3.sub m3.live nr
          refine q _ _ _ (m3.trans mk4) (h3.new nr) ?_
          refine wl_tup (n := 30000) (k := 2) (m := 70000) upd_same (fun y m => ?_) 2 (Nat.le_refl _) (by decide)
          simp only [List.mem_cons, List.not_mem_nil, or_false] at m
          rcases m with rfl | rfl
          · exact ac.nm.wl
          · exact (L2'.ok _ mv).more mk4.mono
        · refine ⟨.ref a, rfl, .ref l3, rfl, a, l3, x3, n + 2, rfl, h2, by omega, L3.la, L3.at_, L3.pos, e30 _ L3.len, fun H3 v u3 h3 mv => ?_⟩
          have mk3 : Mk a F1 H2 F1 H3 := .draw m2.sub u3 h3.some (m2.fa hH.some ga)
          exact q _ _ _ (m2.trans mk3) h3 (L3.ok _ mv).mono
    obtain ⟨zw, rfl, za, zl⟩ := ac.nm
    have nz : Nm (.str zw) := ⟨zw, rfl, za, zl⟩
    have wd : ∀ (F' : Hp), ∀ y ∈ ds, Wl 2500 0 F' y := fun F' y m => (ac.dn y m).wl
    have lit : ∀ {n k : Nat} {F' : Hp} {z : Str}, ascB z = true ∧ z.length ≤ 20 → 202 ≤ n → Wl n k F' (.str z) := fun h hn => wl_str (m := 20) (asc_b h.1) h.2 (by omega)
    refine ⟨_, (pss_cons (ps_asg (pe_ix ix_tup (pv 1) (pv 2) (fun _ _ => rfl)) (pg_tup rfl (pgs_cons (pg_name (i := 3) scCA.nd rfl (.inl rfl)) (pgs_cons (pg_name (i := 4) scCA.nd rfl (.inl rfl)) pgs_nil))))
  (pss_cons (ps_set (i := 5) scCA.nd rfl (.inl rfl) (pe_ix ix_tup (pe_ix ix_tup (pv 1) (pe_call GT (hr.mono (by omega)) (by rfl) DT.g DT.F.kp DT.b .nil pass0 (pa_cons (pv 0) (pa_cons (pe_callB call_len_seq (by rfl) T.len PySem.boot_len (pa_cons (pv 1) pa_nil)) pa_nil))) (fun _ _ => rfl)) pe_int (fun _ _ => rfl)))
  (pss_cons (ps_set (i := 6) scCA.nd rfl (.inl rfl) (pe_lst (pa_cons (pv 5) (pa_cons (pv 3) (pa_cons pe_str (pa_cons pe_str (pa_cons pe_str (pa_cons pe_str (pa_cons pe_non (pa_cons pe_int (pa_cons (pe_op op_add_str (pv 3) pe_str) (pa_cons (pe_tup (pa_cons (pv 3) pa_nil)) (pa_cons pe_bl pa_nil)))))))))))))
  (pss_cons (ps_set (i := 7) scCA.nd rfl (.inl rfl) (pe_lst (pa_cons (pe_revT (pv 4)) (pa_cons (pe_op op_catA (pv 4) (pe_slice sl_tupA (pv 4) (po_some (pe_un un_neg pe_int)) po_none)) (pa_cons (pe_op op_catA (pv 4) (pe_tup (pa_cons pe_str pa_nil))) (pa_cons (pe_tup pa_nil) (pa_cons (pe_callTy call_list_of (by rfl) T.list (by decide +kernel) (pa_cons (pv 4) pa_nil)) (pa_cons (pe_ix ix_tup (pv 4) pe_int (fun _ _ => rfl)) (pa_cons pe_non pa_nil)))))))))
  (pss_cons (ps_set (i := 7) scCA.nd rfl (.inl rfl) (pe_op op_cat (pv 7) (pe_lst (pa_cons (pe_tup (pa_cons pe_str (pa_cons pe_str (pa_cons pe_str (pa_cons pe_str pa_nil))))) (pa_cons (pe_tup (pa_cons pe_str (pa_cons pe_str (pa_cons pe_str (pa_cons pe_str (pa_cons pe_str pa_nil)))))) (pa_cons (pe_tup (pa_cons pe_str (pa_cons pe_str pa_nil))) (pa_cons (pe_tup (pa_cons pe_str pa_nil)) (pa_cons (pe_tup (pa_cons pe_non pa_nil)) (pa_cons (pe_tup (pa_cons pe_str (pa_cons pe_int pa_nil))) (pa_cons (pe_disp (pps_cons pe_str pe_int pps_nil) rfl rfl (by simp) (by decide)) pa_nil))))))))))
  (pss_cons (ps_set (i := 8) scCA.nd rfl (.inl rfl) (pe_lst (pa_cons (pe_callTy call_list_of (by rfl) T.list (by decide +kernel) (pa_cons (pe_ix ix_tup (pv 1) (pv 2) (fun _ _ => rfl)) pa_nil)) (pa_cons (pe_tup (pa_cons (pv 3) pa_nil)) (pa_cons (pe_tup (pa_cons (pv 3) (pa_cons (pv 4) (pa_cons (pe_tup pa_nil) pa_nil)))) (pa_cons (pe_tup (pa_cons (pv 4) (pa_cons (pv 3) pa_nil))) (pa_cons (pv 3) (pa_cons (pv 4) (pa_cons pe_non (pa_cons (pe_tup pa_nil) pa_nil))))))))))
  h6)))))), ?_⟩
    refine ⟨.ref t, rfl, .int d, rfl, t, hs, d, _, rfl, rfl, SqT.of (sG _ _ et), ex2, p, _, rfl, SqT.of (sG _ _ ac.at_), rfl, _, _, rfl, _, _, rfl, rfl, ?_⟩
    refine ⟨.ref t, rfl, .ref a, rfl, .ref t, rfl, t, hs, rfl, .inr (SqT.of (sG _ _ et)), a, _, n, rfl, hH, by omega, by omega, by omega, fun H1 g u1 h1 g0 g1 => ?_⟩
    have m1 : Mk a G H G H1 := .draw sG u1 h1.some ga
    obtain ⟨y, ey1, ey2⟩ := at_of (xs := hs) g0 g1
    obtain ⟨p2, dt2, z2, ds2, rfl, ac2⟩ := acts y (List.mem_of_getElem? ey1)
    refine ⟨t, hs, g, _, rfl, rfl, SqT.of (m1.sub _ _ et), ey2, p2, _, 0, z2, rfl, rfl, SqT.of (m1.sub _ _ ac2.at_), rfl, ?_⟩
    -- names
    have zn1 : (Str.ofString "\n").length = 1 := by decide +kernel
    have zn : zw.length + (Str.ofString "\n").length ≤ sizeLine := Nat.le_trans (show _ ≤ 1000 by omega) (by decide)
    refine ⟨z2, rfl, .str zw, rfl, .str zw, rfl, zw, "\n", rfl, rfl, zn, .str zw, rfl, by show 1 ≤ sizeLine; decide, fun r1 n1 => ?_⟩
    have c1 := (Kn.zero (n := 30000) (k := 2) m1.sub m1.live).new (.tup [.str zw]) n1 fun F' s' e => (wl_tup (n := 2000) (k := 0) (m := 3000) e (one_mem nz.wl) 1 (Nat.le_refl _) (by decide)).mono
    refine ⟨by show 11 ≤ sizeLine; decide, fun l1 nl1 => ?_⟩
    have wn : Wl 30000 2 (upd G r1 (.tup [.str zw])) (.str (zw ++ Str.ofString "\n")) := by
      refine wl_str (m := 20) (fun y my => ?_) ?_ (by decide)
      · rw [tl_app] at my
        rcases List.mem_append.mp my with my | my
        · exact za y my
        · exact asc_b (z := "\n") (by decide +kernel) y my
      · have : (Str.ofString "\n").length = 1 := by decide +kernel
        rw [strLen_append]
        omega
    have L1 := c1.ls nl1 (xs := [z2, .str zw, .str "", .str "A", .str "abcdefghi", .str "abcdefgh", .non, .int 0, .str (zw ++ Str.ofString "\n"), .ref r1, .bl true]) (by
      intro x m
      simp only [List.mem_cons, List.not_mem_nil, or_false] at m
      rcases m with rfl | rfl | rfl | rfl | rfl | rfl | rfl | rfl | rfl | rfl | rfl
      · exact ac2.nm.wl
      · exact nz.wl
      · exact lit (by decide +kernel) (by decide)
      · exact lit (by decide +kernel) (by decide)
      · exact lit (by decide +kernel) (by decide)
      · exact lit (by decide +kernel) (by decide)
      · exact wl_non
      · exact wl_int (by decide)
      · exact wn
      · exact c1.at_ 0 rfl
      · exact wl_bl _) (Nat.zero_lt_succ _) (by show 11 ≤ 30; decide)
    have k1 := c1.mq.trans (Mq.skip (.lst [z2, .str zw, .str "", .str "A", .str "abcdefghi", .str "abcdefgh", .non, .int 0, .str (zw ++ Str.ofString "\n"), .ref r1, .bl true]) c1.mq.md.sub c1.mq.md.live nl1)
    have h1b := h1.same k1.same
    have m2 := m1.trans k1.md
    clear c1 wn k1 n1 nl1
    revert L1 h1b m2
    generalize upd (upd H1 r1 (.tup [.str zw])) l1 (.lst [z2, .str zw, .str "", .str "A", .str "abcdefghi", .str "abcdefgh", .non, .int 0, .str (zw ++ Str.ofString "\n"), .ref r1, .bl true]) = H2
    generalize upd G r1 (.tup [.str zw]) = F2
    generalize [z2, .str zw, .str "", .str "A", .str "abcdefghi", .str "abcdefgh", .non, .int 0, .str (zw ++ Str.ofString "\n"), .ref r1, .bl true] = x1
    intro L1 h2 m2
    -- lists
    have dl := ac.len
    have ed2 := m2.mono _ _ ac.doc
    refine ⟨.ref dt, rfl, dt, ds, rfl, SqT.of (m2.sub _ _ ed2), fun r2 n2 => ?_⟩
    have c2 := (Kn.zero (n := 30000) (k := 2) m2.sub m2.live).new (.tup ds.reverse) n2 fun F' s' e => (wl_docs e (fun y m => ac.dn y (List.mem_reverse.mp m)) (by rw [List.length_reverse]; omega)).mono
    have ed3 := c2.mq.md.mono _ _ ed2
    have cl : (cutV ds (some (-1)) none).length ≤ 8 := Nat.le_trans cut_len dl
    refine ⟨.ref dt, rfl, .ref dt, rfl, 1, rfl, _, rfl, slice3 (a := a) c2.mq.md.sub c2.mq.md.live ed3 fun F3 H3 v3 mk3 ev3 => ?_⟩
    have c3 := c2.go mk3
    refine cat2 (a := a) c3.mq.md.sub c3.mq.md.live (c3.mq.md.mono _ _ ed2) ev3 (by omega) fun F4 H4 v4 mk4 ev4 => ?_
    have c4 := (c3.go mk4).add (x := .ref v4) (wl_docs ev4 (fun y m => by
      rcases List.mem_append.mp m with m | m
      · exact ac.dn y m
      · exact ac.dn y (cut_mem m)) (by rw [List.length_append]; omega)).mono
    refine ⟨.ref dt, rfl, by show 1 ≤ sizeLine; decide, fun r5 n5 => ?_⟩
    have c5 := c4.go (Mq.new (a := a) (.tup [.str "zzz"]) c4.mq.md.sub c4.mq.md.live n5)
    refine cat2 (a := a) c5.mq.md.sub c5.mq.md.live (c5.mq.md.mono _ _ ed2) upd_same (by show ds.length + 1 ≤ 200; omega) fun F6 H6 v6 mk6 ev6 => ?_
    have c6 := (c5.go mk6).add (x := .ref v6) (wl_docs ev6 (fun y m => by
      rcases List.mem_append.mp m with m | m
      · exact ac.dn y m
      · rw [List.mem_singleton.mp m]
        exact ⟨_, rfl, asc_b (by decide +kernel), by decide +kernel⟩) (by rw [List.length_append]; show ds.length + 1 ≤ 20; omega)).mono
    refine ⟨by show 0 ≤ sizeLine; decide, fun r7 n7 => ?_⟩
    have c7 := c6.new (.tup []) n7 fun F' s' e => wl_good (d := .tuple []) (.tup e .nil) (by decide +kernel)
    refine ⟨.ref dt, rfl, dt, ds, rfl, .inr (SqT.of (c7.mq.md.sub _ _ (c7.mq.md.mono _ _ ed2))), fun r8 n8 => ?_⟩
    have c8 := c7.new (.lst ds) n8 fun F' s' e => (wl_lst (n := 2500) (k := 0) (m := 25000) e (wd F') 8 dl (by decide)).mono
    obtain ⟨d0v, ed1, ed2'⟩ := at_of (xs := ds) (i := 0) (by decide) (by have := ac.pos; omega)
    refine ⟨.ref dt, rfl, dt, ds, 0, d0v, rfl, rfl, SqT.of (c8.mq.md.sub _ _ (c8.mq.md.mono _ _ ed2)), ed2', ?_⟩
    refine ⟨by show 7 ≤ sizeLine; decide, fun l2 nl2 => ?_⟩
    have L2a := c8.ls nl2 (xs := [.ref r2, .ref v4, .ref v6, .ref r7, .ref r8, d0v, .non]) (by
      intro x m
      simp only [List.mem_cons, List.not_mem_nil, or_false] at m
      rcases m with rfl | rfl | rfl | rfl | rfl | rfl | rfl
      · exact c8.at_ 4 rfl
      · exact c8.at_ 3 rfl
      · exact c8.at_ 2 rfl
      · exact c8.at_ 1 rfl
      · exact c8.at_ 0 rfl
      · exact (ac.dn _ (List.mem_of_getElem? ed1)).wl
      · exact wl_non) (Nat.zero_lt_succ _) (by show 7 ≤ 30; decide)
    have k2 := c8.mq.trans (Mq.skip (.lst [.ref r2, .ref v4, .ref v6, .ref r7, .ref r8, d0v, .non]) c8.mq.md.sub c8.mq.md.live nl2)
    have h3b := h2.same k2.same
    have m3 := m2.trans k2.md
    have L1 := L1.go k2.md
    clear c2 c3 c4 c5 c6 c7 c8 k2
    revert L1 L2a h3b m3
    generalize upd (upd (upd H6 r7 (.tup [])) r8 (.lst ds)) l2 (.lst [.ref r2, .ref v4, .ref v6, .ref r7, .ref r8, d0v, .non]) = H7
    generalize upd (upd F6 r7 (.tup [])) r8 (.lst ds) = F7
    intro L2a h3 m3 L1
    -- more lists
    refine ⟨.ref l2, rfl, by show 4 ≤ sizeLine; decide, fun q1 o1 => ?_⟩
    have e1 := (Kn.zero (n := 30000) (k := 2) m3.sub m3.live).new (.tup [.str "a", .str "b", .str "c", .str "d"]) o1 fun F' s' e => wl_good (d := .tuple [.str "a", .str "b", .str "c", .str "d"]) (.tup e (.cons (.str _) (.cons (.str _) (.cons (.str _) (.cons (.str _) .nil))))) (by decide +kernel)
    refine ⟨by show 5 ≤ sizeLine; decide, fun q2 o2 => ?_⟩
    have e2 := e1.new (.tup [.str "a", .str "b", .str "c", .str "d", .str "e"]) o2 fun F' s' e => wl_good (d := .tuple [.str "a", .str "b", .str "c", .str "d", .str "e"]) (.tup e (.cons (.str _) (.cons (.str _) (.cons (.str _) (.cons (.str _) (.cons (.str _) .nil)))))) (by decide +kernel)
    refine ⟨by show 2 ≤ sizeLine; decide, fun q3 o3 => ?_⟩
    have e3 := e2.new (.tup [.str "b", .str "a"]) o3 fun F' s' e => wl_good (d := .tuple [.str "b", .str "a"]) (.tup e (.cons (.str _) (.cons (.str _) .nil))) (by decide +kernel)
    refine ⟨by show 1 ≤ sizeLine; decide, fun q4 o4 => ?_⟩
    have e4 := e3.new (.tup [.str "A"]) o4 fun F' s' e => wl_good (d := .tuple [.str "A"]) (.tup e (.cons (.str _) .nil)) (by decide +kernel)
    refine ⟨by show 1 ≤ sizeLine; decide, fun q5 o5 => ?_⟩
    have e5 := e4.new (.tup [.non]) o5 fun F' s' e => wl_good (d := .tuple [.none]) (.tup e (.cons .non .nil)) (by decide +kernel)
    refine ⟨by show 2 ≤ sizeLine; decide, fun q6 o6 => ?_⟩
    have e6 := e5.new (.tup [.str "a", .int 0]) o6 fun F' s' e => wl_good (d := .tuple [.str "a", .int 0]) (.tup e (.cons (.str _) (.cons (.int _) .nil))) (by decide +kernel)
    intro q7 o7
    refine ⟨upd_same, [(.inr "a", .int 1)], rfl, by decide, ?_⟩
    rw [upd_upd]
    have e7 := e6.new (.dK [(.inr "a", .int 1)]) o7 fun F' s' e => wl_good (d := .dict [(.str "a", .int 1)]) (.dct e (.cons (k := .inr "a") (.int 1) .nil)) (by decide +kernel)
    have eM : mergeK [] [((.inr "a" : Key), V.int 1)] = [(.inr "a", .int 1)] := rfl
    rw [eM]
    refine ⟨by show 7 ≤ sizeLine; decide, fun lb nlb => ?_⟩
    have k3 := e7.mq.trans (Mq.skip (.lst [.ref q1, .ref q2, .ref q3, .ref q4, .ref q5, .ref q6, .ref q7]) e7.mq.md.sub e7.mq.md.live nlb)
    have L2b := L2a.go k3.md
    have okb : ∀ x ∈ [V.ref q1, .ref q2, .ref q3, .ref q4, .ref q5, .ref q6, .ref q7], Wl 30000 2 _ x := fun x m => e7.ok x (by
      simp only [List.mem_cons, List.not_mem_nil, or_false] at m ⊢
      rcases m with rfl | rfl | rfl | rfl | rfl | rfl | rfl <;> simp)
    refine ⟨l2, lb, _, _, rfl, rfl, L2b.at_, upd_same, by show 7 + 7 ≤ sizeLine; decide, fun l3 nl3 => ?_⟩
    have L3 := ls_of k3.md.live nl3 (wl_app L2b.ok okb) (Nat.zero_lt_succ _) (by show 14 ≤ 30; decide)
    have k4 := k3.trans (Mq.skip (.lst ([.ref r2, .ref v4, .ref v6, .ref r7, .ref r8, d0v, .non] ++ [V.ref q1, .ref q2, .ref q3, .ref q4, .ref q5, .ref q6, .ref q7])) k3.md.sub k3.md.live nl3)
    have h4 := h3.same k4.same
    have m4 := m3.trans k4.md
    have L1 := L1.go k4.md
    clear e1 e2 e3 e4 e5 e6 e7 k3 k4 L2a L2b okb
    revert L1 L3 h4 m4
    generalize upd (upd (upd (upd (upd (upd (upd (upd (upd H7 q1 _) q2 _) q3 _) q4 _) q5 _) q6 _) q7 _) lb _) l3 _ = H8
    generalize upd (upd (upd (upd (upd (upd (upd F7 q1 _) q2 _) q3 _) q4 _) q5 _) q6 _) q7 _ = F8
    intro L3 h4 m4 L1
    -- the whole
    have et8 := m4.mono _ _ et
    have ap8 := m4.mono _ _ ac.at_
    have ad8 := m4.mono _ _ ac.doc
    have wdt : ∀ F', Same F8 F' → Wl 2000 1 F' (.ref dt) := fun F' s' => wl_docs (s' _ _ ad8) ac.dn (by omega)
    refine ⟨.ref t, rfl, .int d, rfl, t, hs, d, _, rfl, rfl, SqT.of (m4.sub _ _ et8), ex2, p, _, rfl, .inr (SqT.of (m4.sub _ _ ap8)), fun w1 o1 => ?_⟩
    have two : ∀ F' (x y : V), Wl 2000 1 F' x → Wl 2000 1 F' y → ∀ v ∈ [x, y], Wl 2000 1 F' v := fun F' x y hx hy v m => by
      simp only [List.mem_cons, List.not_mem_nil, or_false] at m
      rcases m with rfl | rfl
      · exact hx
      · exact hy
    have e1 := (Kn.zero (n := 30000) (k := 2) m4.sub m4.live).new (.lst [.str zw, .ref dt]) o1 fun F' s' e => (wl_lst (n := 2000) (k := 1) (m := 5000) e (two F' _ _ nz.wl (wdt F' s')) 2 (Nat.le_refl _) (by decide)).mono
    refine ⟨.str zw, rfl, by show 1 ≤ sizeLine; decide, fun w2 o2 => ?_⟩
    have e2 := e1.new (.tup [.str zw]) o2 fun F' s' e => (wl_tup (n := 2000) (k := 0) (m := 3000) e (one_mem nz.wl) 1 (Nat.le_refl _) (by decide)).mono
    refine ⟨.str zw, rfl, .ref dt, rfl, by show 0 ≤ sizeLine; decide, fun w3 o3 => ?_⟩
    have e3 := e2.go (Mq.new (a := a) (.tup []) e2.mq.md.sub e2.mq.md.live o3)
    have w3w : Wl 2000 1 _ (.ref w3) := wl_good (d := .tuple []) (.tup (upd_same (H := upd (upd F8 w1 (.lst [.str zw, .ref dt])) w2 (.tup [.str zw]))) .nil) (by decide +kernel)
    refine ⟨by show 3 ≤ sizeLine; decide, fun w4 o4 => ?_⟩
    have e4 := e3.new (.tup [.str zw, .ref dt, .ref w3]) o4 fun F' s' e => (wl_tup (n := 2000) (k := 1) (m := 7000) e (fun v m => by
      simp only [List.mem_cons, List.not_mem_nil, or_false] at m
      rcases m with rfl | rfl | rfl
      · exact nz.wl
      · exact wdt F' (e3.mq.md.mono.trans s')
      · exact w3w.more s') 3 (Nat.le_refl _) (by decide)).mono
    refine ⟨.ref dt, rfl, .str zw, rfl, by show 2 ≤ sizeLine; decide, fun w5 o5 => ?_⟩
    have e5 := e4.new (.tup [.ref dt, .str zw]) o5 fun F' s' e => (wl_tup (n := 2000) (k := 1) (m := 5000) e (two F' _ _ (wdt F' (e4.mq.md.mono.trans s')) nz.wl) 2 (Nat.le_refl _) (by decide)).mono
    refine ⟨.str zw, rfl, .ref dt, rfl, by show 0 ≤ sizeLine; decide, fun w6 o6 => ?_⟩
    have e6 := e5.new (.tup []) o6 fun F' s' e => wl_good (d := .tuple []) (.tup e .nil) (by decide +kernel)
    refine ⟨by show 8 ≤ sizeLine; decide, fun l4 nl4 => ?_⟩
    have L4 := e6.ls nl4 (xs := [.ref w1, .ref w2, .ref w4, .ref w5, .str zw, .ref dt, .non, .ref w6]) (by
      intro x m
      simp only [List.mem_cons, List.not_mem_nil, or_false] at m
      rcases m with rfl | rfl | rfl | rfl | rfl | rfl | rfl | rfl
      · exact e6.at_ 4 rfl
      · exact e6.at_ 3 rfl
      · exact e6.at_ 2 rfl
      · exact e6.at_ 1 rfl
      · exact nz.wl
      · exact (wdt _ e6.mq.md.mono).mono
      · exact wl_non
      · exact e6.at_ 0 rfl) (Nat.zero_lt_succ _) (by show 8 ≤ 30; decide)
    have k5 := e6.mq.trans (Mq.skip (.lst [.ref w1, .ref w2, .ref w4, .ref w5, .str zw, .ref dt, .non, .ref w6]) e6.mq.md.sub e6.mq.md.live nl4)
    exact r6 l1 l3 l4 _ _ _ _ _ _ _ (m4.trans k5.md) (h4.same k5.same) (L1.go k5.md) (L3.go k5.md) L4
end
end Cu

namespace Cu
open PySem PySem.Spec PyProof.Rows L2
/-! ### _law_changed_heap -/
theorem eq_nil {K : PySem.W.Frag} {F H : Hp} {t p : Addr} {xs : List V} {k : Nat} (s : Same F H) (e : F t = some (.tup xs)) (h : ∀ x ∈ xs, Cp k F x) (hk : k ≤ 50) (ep : H p = some (.tup [])) {Q : VK} (q : Q (.bl (decide (xs = []))) H) : rEqD K (.ref t) (.ref p) H Q := by
  obtain ⟨ds, h1, h2, h3⟩ := cp_all xs h
  have dx : Dx H (.ref t) (.tuple ds) := Dx.stays (stays_of s) _ _ (.tup e h1)
  refine ⟨.tuple ds, .tuple [], dp_dx _ _ dx (by simpa only [PyData.canLay0] using h2), .tup (SqT.of ep) .nil, ?_, by decide +kernel, ?_⟩
  · unfold SeqAt.shaped
    rw [Bool.and_eq_true]
    refine ⟨by simpa only [PyData.canLay0] using h2, decide_eq_true ?_⟩
    simp only [PyData.depth]
    omega
  · have : PyData.eqv (.tuple ds) (.tuple []) = decide (xs = []) := by
      cases h1 with
      | nil => simp [PyData.eqv, PyData.eqvAll]
      | cons _ _ => simp [PyData.eqv, PyData.eqvAll]
    rw [this]
    exact q
/-- literals beside what stood -/
structure Lf (F0 H0 : Hp) (kn : List (V × PyData)) (F H : Hp) : Prop where
  lt : Lit F0 H0 [] kn F H
  fr : ∀ b o, H0 b = some o → F0 b = none → F b = none
theorem Lf.zero {F H : Hp} (s : Same F H) : Lf F H [] F H := ⟨⟨Same.refl _, Same.refl _, s, fun _ m => (nomatch m), fun _ m => (nomatch m), fun _ m => (nomatch m)⟩, fun _ _ _ n => n⟩
theorem Lf.frs {F0 H0 : Hp} {kn : List (V × PyData)} {F H : Hp} {p : Addr} (c : Lf F0 H0 kn F H) (n : H p = none) (o : HO) : ∀ b x, H0 b = some x → F0 b = none → upd F p o b = none := fun b x e nb => by
  rw [upd_ne (ne_of_none (c.lt.bs _ _ e) n)]
  exact c.fr b x e nb
theorem Lf.tup {F0 H0 : Hp} {kn : List (V × PyData)} {F H : Hp} {p : Addr} (c : Lf F0 H0 kn F H) (n : H p = none) {ys : List (V × PyData)} (h : Oks kn ys) : Lf F0 H0 ((.ref p, .tuple (ys.map Prod.snd)) :: kn) (upd F p (.tup (ys.map Prod.fst))) (upd H p (.tup (ys.map Prod.fst))) := ⟨c.lt.tup n h, c.frs n _⟩
theorem Lf.lst {F0 H0 : Hp} {kn : List (V × PyData)} {F H : Hp} {p : Addr} (c : Lf F0 H0 kn F H) (n : H p = none) {ys : List (V × PyData)} (h : Oks kn ys) : Lf F0 H0 ((.ref p, .list (ys.map Prod.snd)) :: kn) (upd F p (.lst (ys.map Prod.fst))) (upd H p (.lst (ys.map Prod.fst))) := ⟨c.lt.lst n h, c.frs n _⟩
theorem Lf.dct {F0 H0 : Hp} {kn : List (V × PyData)} {F H : Hp} {p : Addr} (c : Lf F0 H0 kn F H) (n : H p = none) : Lf F0 H0 ((.ref p, .dict []) :: kn) (upd F p (.dK [])) (upd H p (.dK [])) := ⟨c.lt.dct n, c.frs n _⟩
theorem Lf.mk_ {F0 H0 : Hp} {kn : List (V × PyData)} {F H : Hp} {a : Addr} (c : Lf F0 H0 kn F H) (l : ∃ o, H0 a = some o) : Mq a F0 H0 F H := by
  obtain ⟨o, e⟩ := l
  exact ⟨⟨.of c.lt.bs, ⟨o, c.lt.bs _ _ e⟩, c.lt.sub, c.lt.mo, c.fr⟩, c.lt.bs⟩
abbrev sCH : Stmt := topS 21
abbrev nCH : List Str := ["_law_hand_here", "_law_heap_here", "_law_at", "_law_way"]
theorem scCH : FnScope nCH ["_law_hand_here", "_law_heap_here"] (defScope sCH) := ⟨rfl, rfl, rfl, by decide +kernel, rfl, by decide +kernel, by decide +kernel⟩
theorem itw_tup {F : Hp} {p : Addr} {xs : List V} (e : F p = some (.tup xs)) (h : ∀ x ∈ xs, Wl 70000 3 F x) (l : xs.length ≤ 100) : Itw F (.ref p) := (wl_tup (n := 70000) (k := 3) (m := 7100000) e h 100 l (by decide)).mono
theorem itw_lst {F : Hp} {p : Addr} {xs : List V} (e : F p = some (.lst xs)) (h : ∀ x ∈ xs, Wl 70000 3 F x) (l : xs.length ≤ 100) : Itw F (.ref p) := (wl_lst (n := 70000) (k := 3) (m := 7100000) e h 100 l (by decide)).mono
section
variable {P : Program} {w : World} {K : PySem.W.Frag} {mg : Str → Option Value} {base : Heap}
def spCH : Sp := fun vs H Q _ => ∃ (a t : Addr) (hs : List V) (n : Nat) (F : Hp), vs = [.ref a, .ref t] ∧ Hand H a n ∧ n + 6000 < 2 ^ 40 ∧ Same F H ∧ F a = none ∧ F t = some (.tup hs) ∧ hs.length ≤ 40 ∧ (∀ x ∈ hs, Acts F x) ∧
  ∀ F' H' v, Mk a F H F' H' → Hand H' a (n + 6) → Itw F' v → Q v H'
theorem ok_cH {f fT fO fA : Addr} {fd fdT fdO fdA : FuncData} {k : Nat} (F : Fun K "_law_changed_heap" "_law_changed_heap" sCH f fd) (DT : Df K mg "_law_take" sTake ["_law_hand_here", "_law_many"] fT fdT) (DO : Df K mg "_law_of" sOf ["_law_hand_here", "_law_some"] fO fdO) (DCA : Df K mg "_law_changed_action" sCA ["_law_hand_here", "_law_heap_here", "_law_at"] fA fdA)
    (T : Bl mg) : FnOk P w K mg base CX0 (k + 4) f fd ["_law_hand_here", "_law_heap_here"] spCH := by
  have GT : FnOk P w K mg base CX0 1 fT fdT _ spTake := ok_take DT.F T
  have GL : FnOk P w K mg base CX0 2 fO fdO _ spOfL := ok_ofL DO.F DT T
  have GCA : FnOk P w K mg base CX0 3 fA fdA _ spCA := ok_cA DCA.F DT DO T
  refine F.ok scCH (fun vs H Q E h => ?_) (fun cdv A outer s H vs Q E hr h => ?_)
  · obtain ⟨a, t, hs, n, G, rfl, _⟩ := h
    rfl
  · obtain ⟨a, t, hs, n, G, rfl, hH, hn, sG, ga, et, hl, acts, q⟩ := h
    have wA : ∀ F', Same G F' → ∀ x ∈ hs, Wl 70000 3 F' x := fun F' s x m => ((acts x m).more s).wl
    have wC : ∀ F', Same G F' → ∀ lo hi, ∀ x ∈ cutV hs lo hi, Wl 70000 3 F' x := fun F' s lo hi x m => wA F' s x (cut_mem m)
    have cl : ∀ lo hi, (cutV hs lo hi).length ≤ 40 := fun lo hi => Nat.le_trans cut_len hl
    refine ⟨_, (pss_cons (ps_if (pt_cmpR (op_eqD hr.units) (pv 1) (pe_tup pa_nil) (nomark _))
  (pss_one (ps_ret (pe_call GL (hr.mono (by omega)) (by rfl) DO.g DO.F.kp DO.b .nil pass0 (pa_cons (pv 0) (pa_cons (pe_lst (pa_cons (pe_lst pa_nil) (pa_cons pe_dnewK (pa_cons pe_non (pa_cons (pe_tup (pa_cons (pe_tup pa_nil) pa_nil)) (pa_cons (pe_tup (pa_cons pe_str pa_nil)) (pa_cons (pe_tup (pa_cons (pe_tup (pa_cons pe_str (pa_cons (pe_tup pa_nil) pa_nil))) pa_nil)) (pa_cons (pe_tup (pa_cons (pe_tup (pa_cons pe_str (pa_cons (pe_tup (pa_cons pe_str pa_nil)) pa_nil))) pa_nil)) (pa_cons (pe_tup (pa_cons (pe_tup (pa_cons pe_str (pa_cons (pe_tup (pa_cons pe_str pa_nil)) pa_nil))) pa_nil)) pa_nil))))))))) pa_nil)))))
  pss_nil)
  (pss_cons (ps_par (i := 2) (j := 3) (by rfl) scCH.nd rfl rfl (by decide) rfl rfl (pa_cons (pe_call GT (hr.mono (by omega)) (by rfl) DT.g DT.F.kp DT.b .nil pass0 (pa_cons (pv 0) (pa_cons (pe_callB call_len_seq (by rfl) T.len PySem.boot_len (pa_cons (pv 1) pa_nil)) pa_nil))) (pa_cons (pe_call GT (hr.mono (by omega)) (by rfl) DT.g DT.F.kp DT.b .nil pass0 (pa_cons (pv 0) (pa_cons pe_int pa_nil))) pa_nil)) (by rfl))
  (pss_cons (ps_if (pt_cmpR op_lt (pv 3) pe_int (nomark _))
  (pss_one (ps_ret (pe_op op_catA (pe_op op_catA (pe_slice sl_tupA (pv 1) po_none (po_some (pv 2))) (pe_tup (pa_cons (pe_call GCA (hr.mono (by omega)) (by rfl) DCA.g DCA.F.kp DCA.b .nil pass0 (pa_cons (pv 0) (pa_cons (pv 1) (pa_cons (pv 2) pa_nil)))) pa_nil))) (pe_slice sl_tupA (pv 1) (po_some (pe_op op_add (pv 2) pe_int)) po_none))))
  pss_nil)
  (pss_one (ps_ret (pe_ix ix_list (pe_lst (pa_cons (pe_op op_catA (pe_slice sl_tupA (pv 1) po_none (po_some (pv 2))) (pe_slice sl_tupA (pv 1) (po_some (pe_op op_add (pv 2) pe_int)) po_none)) (pa_cons (pe_op op_catA (pe_slice sl_tupA (pv 1) po_none (po_some (pe_op op_add (pv 2) pe_int))) (pe_slice sl_tupA (pv 1) (po_some (pv 2)) po_none)) (pa_cons (pe_revT (pv 1)) (pa_cons (pe_callTy call_list_of (by rfl) T.list (by decide +kernel) (pa_cons (pv 1) pa_nil)) pa_nil))))) (pe_op op_sub (pv 3) pe_int) (fun _ _ => rfl))))))), ?_⟩
    refine ⟨.ref t, rfl, by show 0 ≤ sizeLine; decide, fun p0 n0 => ?_⟩
    have k0 : Mq a G H G _ := .skip (.tup []) sG hH.some n0
    refine eq_nil (F := G) k0.md.sub et (fun x m => (acts x m).cp) (by decide) upd_same ?_
    have h0 := hH.same k0.same
    have m0 := k0.md
    clear k0
    generalize upd H p0 (.tup []) = H0 at h0 m0 ⊢
    refine ⟨_, rfl, ?_⟩
    by_cases e0 : hs = []
    · refine iffT (decide_eq_true e0) ?_
      refine ⟨.ref a, rfl, by show 0 ≤ sizeLine; decide, fun p1 e1 => fun p2 e2 => ⟨by show 0 ≤ sizeLine; decide, fun p3 e3 => ⟨by show 1 ≤ sizeLine; decide, fun p4 e4 => ⟨by show 1 ≤ sizeLine; decide, fun p5 e5 => ⟨by show 0 ≤ sizeLine; decide, fun p6 e6 => ⟨by show 2 ≤ sizeLine; decide, fun p7 e7 => ⟨by show 1 ≤ sizeLine; decide, fun p8 e8 => ⟨by show 1 ≤ sizeLine; decide, fun p9 e9 => ⟨by show 2 ≤ sizeLine; decide, fun p10 e10 => ⟨by show 1 ≤ sizeLine; decide, fun p11 e11 => ⟨by show 1 ≤ sizeLine; decide, fun p12 e12 => ⟨by show 2 ≤ sizeLine; decide, fun p13 e13 => ⟨by show 1 ≤ sizeLine; decide, fun p14 e14 => ⟨by show 8 ≤ sizeLine; decide, fun l nl => ?_⟩⟩⟩⟩⟩⟩⟩⟩⟩⟩⟩⟩⟩⟩
      have c := ((((((Lf.zero m0.sub).lst (ys := []) e1 .nil).dct e2).tup (ys := []) e3 .nil).tup (ys := [(.ref p3, .tuple [])]) e4 (.k 0 rfl .nil)).tup (ys := [(.str "a", .str "a")]) e5 (.s _ .nil)).tup (ys := []) e6 .nil
      have c := ((((c.tup (ys := [(.str "a", .str "a"), (.ref p6, .tuple [])]) e7 (.s _ (.k 0 rfl .nil))).tup (ys := [(.ref p7, .tuple [.str "a", .tuple []])]) e8 (.k 0 rfl .nil)).tup (ys := [(.str "a", .str "a")]) e9 (.s _ .nil)).tup (ys := [(.str "a", .str "a"), (.ref p9, .tuple [.str "a"])]) e10 (.s _ (.k 0 rfl .nil))).tup (ys := [(.ref p10, .tuple [.str "a", .tuple [.str "a"]])]) e11 (.k 0 rfl .nil)
      have c := ((c.tup (ys := [(.str "a", .str "a")]) e12 (.s _ .nil)).tup (ys := [(.str "", .str ""), (.ref p12, .tuple [.str "a"])]) e13 (.s _ (.k 0 rfl .nil))).tup (ys := [(.ref p13, .tuple [.str "", .tuple [.str "a"]])]) e14 (.k 0 rfl .nil)
      have W := c.lt.wls (n := 15000000) (k := 50) (zs := [(.ref p1, .list []), (.ref p2, .dict []), (.non, .none), (.ref p4, .tuple [.tuple []]), (.ref p5, .tuple [.str "a"]), (.ref p8, .tuple [.tuple [.str "a", .tuple []]]), (.ref p11, .tuple [.tuple [.str "a", .tuple [.str "a"]]]), (.ref p14, .tuple [.tuple [.str "", .tuple [.str "a"]]])])
        (.k 13 rfl (.k 12 rfl (.n (.k 10 rfl (.k 9 rfl (.k 6 rfl (.k 3 rfl (.k 0 rfl .nil)))))))) (ds := [.list [], .dict [], .none, .tuple [.tuple []], .tuple [.str "a"], .tuple [.tuple [.str "a", .tuple []]], .tuple [.tuple [.str "a", .tuple [.str "a"]]], .tuple [.tuple [.str "", .tuple [.str "a"]]]]) rfl (by decide +kernel)
      have k1 := (c.mk_ (a := a) m0.live).trans (Mq.skip (.lst [.ref p1, .ref p2, .non, .ref p4, .ref p5, .ref p8, .ref p11, .ref p14]) c.lt.sub (c.mk_ (a := a) m0.live).md.live nl)
      have m1 := m0.trans k1.md
      refine ⟨a, l, _, n, rfl, h0.same k1.same, by omega, Hand.ne (c.mk_ (a := a) m0.live).md.live nl, upd_same, (by show 0 < 8; decide), (by show 8 ≤ 1000; decide), fun H2 v u2 h2 mv => ?_⟩
      have mk2 := Mk.draw m1.sub u2 h2.some (m1.fa hH.some ga)
      exact q _ H2 v (m1.trans mk2) (h2.mono (by omega)) (W v mv)
    refine iffF (decide_eq_false e0) ?_
    have hp : 0 < hs.length := List.length_pos_iff.mpr e0
    refine ⟨.ref a, rfl, .ref t, rfl, t, hs, rfl, .inr (SqT.of (m0.sub _ _ et)), a, _, n, rfl, h0, by omega, by omega, by omega, fun H1 d u1 h1 d0 d1 => ?_⟩
    refine ⟨.ref a, rfl, a, 8, n + 1, rfl, h1, by omega, by omega, by omega, fun H2 y u2 h2 y0 y1 => ?_⟩
    have m2 := m0.trans (.draw m0.sub (u1.trans u2) h2.some ga)
    refine ⟨_, _, rfl, ?_⟩
    have c1 := cl none (some d)
    have c2 := cl (some (d + 1)) none
    have c3 := cl none (some (d + 1))
    have c4 := cl (some d) none
    refine ⟨.int y, rfl, y, 4, rfl, rfl, _, rfl, ?_⟩
    by_cases y4 : y < 4
    · refine iffT (decide_eq_true y4) ?_
      refine ⟨.ref t, rfl, .int d, rfl, d, rfl, slice2 (a := a) m2.sub m2.live et fun F3 H3 v3 mk3 ev3 => ?_⟩
      have m3 := m2.trans mk3.md
      refine ⟨.ref a, rfl, .ref t, rfl, .int d, rfl, a, t, d, hs, n + 2, F3, rfl, h2.same mk3.same, by omega, m3.sub, m3.fa hH.some ga, m3.mono _ _ et, hl, d0, d1, fun x m => (acts x m).more m3.mono, fun F4 H4 v mk4 h4 wv => ?_⟩
      have m4 := m3.trans mk4
      refine ⟨by show 1 ≤ sizeLine; decide, fun p np => ?_⟩
      have k5 := Mq.new (a := a) (.tup [v]) m4.sub m4.live np
      have m5 := m4.trans k5.md
      refine cat2 (a := a) m5.sub m5.live (k5.md.mono _ _ (mk4.mono _ _ ev3)) upd_same (by show _ + 1 ≤ 200; omega) fun F6 H6 v6 mk6 ev6 => ?_
      have m6 := m5.trans mk6.md
      refine ⟨.ref t, rfl, .int d, rfl, d, 1, rfl, rfl, _, rfl, slice3 (a := a) m6.sub m6.live (m6.mono _ _ et) fun F7 H7 v7 mk7 ev7 => ?_⟩
      have m7 := m6.trans mk7.md
      refine cat2 (a := a) m7.sub m7.live (mk7.md.mono _ _ ev6) ev7 (by rw [List.length_append]; show _ + 1 + _ ≤ 200; omega) fun F8 H8 v8 mk8 ev8 => ?_
      have m8 := m7.trans mk8.md
      have kk := (((k5.trans mk6).trans mk7).trans mk8)
      refine q _ _ _ m8 ((h4.same kk.same).mono (by omega)) (itw_tup ev8 (wl_app (wl_app (wC _ m8.mono _ _) (one_mem (wv.more kk.md.mono))) (wC _ m8.mono _ _)) ?_)
      rw [List.length_append, List.length_append]
      show _ + 1 + _ ≤ 100
      omega
    · refine iffF (decide_eq_false y4) ?_
      refine ⟨.ref t, rfl, .int d, rfl, d, rfl, slice2 (a := a) m2.sub m2.live et fun F3 H3 v3 mk3 ev3 => ?_⟩
      have m3 := m2.trans mk3.md
      refine ⟨.ref t, rfl, .int d, rfl, d, 1, rfl, rfl, _, rfl, slice3 (a := a) m3.sub m3.live (m3.mono _ _ et) fun F4 H4 v4 mk4 ev4 => ?_⟩
      have m4 := m3.trans mk4.md
      refine cat2 (a := a) m4.sub m4.live (mk4.md.mono _ _ ev3) ev4 (by omega) fun F5 H5 v5 mk5 ev5 => ?_
      have m5 := m4.trans mk5.md
      refine ⟨.ref t, rfl, .int d, rfl, d, 1, rfl, rfl, _, rfl, slice2 (a := a) m5.sub m5.live (m5.mono _ _ et) fun F6 H6 v6 mk6 ev6 => ?_⟩
      have m6 := m5.trans mk6.md
      refine ⟨.ref t, rfl, .int d, rfl, d, rfl, slice3 (a := a) m6.sub m6.live (m6.mono _ _ et) fun F7 H7 v7 mk7 ev7 => ?_⟩
      have m7 := m6.trans mk7.md
      refine cat2 (a := a) m7.sub m7.live (mk7.md.mono _ _ ev6) ev7 (by omega) fun F8 H8 v8 mk8 ev8 => ?_
      have m8 := m7.trans mk8.md
      refine ⟨.ref t, rfl, t, hs, rfl, SqT.of (m8.sub _ _ (m8.mono _ _ et)), fun p9 n9 => ?_⟩
      have k9 := Mq.new (a := a) (.tup hs.reverse) m8.sub m8.live n9
      have m9 := m8.trans k9.md
      refine ⟨.ref t, rfl, t, hs, rfl, .inr (SqT.of (m9.sub _ _ (m9.mono _ _ et))), fun p10 n10 => ?_⟩
      have k10 := Mq.new (a := a) (.lst hs) m9.sub m9.live n10
      have m10 := m9.trans k10.md
      have kk := (((((mk3.trans mk4).trans mk5).trans mk6).trans mk7).trans mk8).trans (k9.trans k10)
      refine ⟨by show 4 ≤ sizeLine; decide, fun l nl => ?_⟩
      have i1 : Itw _ (.ref v5) := itw_tup (k10.md.mono _ _ (k9.md.mono _ _ (mk8.md.mono _ _ (mk7.md.mono _ _ (mk6.md.mono _ _ ev5))))) (wl_app (wC _ m10.mono _ _) (wC _ m10.mono _ _)) (by rw [List.length_append]; omega)
      have i2 : Itw _ (.ref v8) := itw_tup (k10.md.mono _ _ (k9.md.mono _ _ ev8)) (wl_app (wC _ m10.mono _ _) (wC _ m10.mono _ _)) (by rw [List.length_append]; omega)
      have i3 : Itw _ (.ref p9) := itw_tup (k10.md.mono _ _ upd_same) (fun x m => wA _ m10.mono x (List.mem_reverse.mp m)) (by rw [List.length_reverse]; omega)
      have i4 : Itw _ (.ref p10) := itw_lst (F := upd (upd F8 p9 (.tup hs.reverse)) p10 (.lst hs)) upd_same (wA _ m10.mono) (by omega)
      have m11 := m10.trans (.skip (.lst [.ref v5, .ref v8, .ref p9, .ref p10]) m10.sub m10.live nl)
      obtain ⟨v, f1, f2⟩ := at_of (xs := [V.ref v5, .ref v8, .ref p9, .ref p10]) (i := y - 4) (by omega) (by show y - 4 < 4; omega)
      refine ⟨.int y, rfl, y, 4, rfl, rfl, l, _, y - 4, v, rfl, rfl, SqL.of upd_same, f2, ?_⟩
      refine q _ _ _ m11 (((h2.same kk.same).new nl).mono (by omega)) ?_
      have mv := List.mem_of_getElem? f1
      simp only [List.mem_cons, List.not_mem_nil, or_false] at mv
      rcases mv with rfl | rfl | rfl | rfl
      · exact i1
      · exact i2
      · exact i3
      · exact i4
end
end Cu

namespace Cu
open PySem PySem.Spec PyProof.Rows L2
/-! ### the law -/
theorem fit1_small {H : Hp} {x : V} {d : PyData} (dx : Dx H x d) (s : small d = true) : Fit1 H x d := by
  refine ⟨dx, fun a xs ex e y m z ez => ?_⟩
  subst ex
  cases dx with
  | tup e1 k =>
    cases e.symm.trans e1
    obtain ⟨d', md, k3⟩ := dx_mem k m
    exact Sd.txt ⟨k3, (small_tup s).2 _ md⟩ z ez
  | lst e1 _ => cases e.symm.trans e1
  | dct e1 _ => cases e.symm.trans e1
theorem fitA_small {H : Hp} {x : V} {d : PyData} (dx : Dx H x d) (s : small d = true) : FitA H x d := by
  refine ⟨dx, fun a xs ex e y m => ?_⟩
  subst ex
  cases dx with
  | tup e1 k =>
    cases e.symm.trans e1
    obtain ⟨d', md, k3⟩ := dx_mem k m
    have sm := (small_tup s).2 _ md
    refine ⟨Sd.txt ⟨k3, sm⟩, fun e2 k2 => ?_⟩
    have e3 := Dx.one _ _ _ k2 k3
    subst e3
    exact fit1_small k2 sm
  | lst e1 _ => cases e.symm.trans e1
  | dct e1 _ => cases e.symm.trans e1
theorem fitH_small {H : Hp} {x : V} {d : PyData} (dx : Dx H x d) (s : small d = true) : FitH H x d := by
  refine ⟨dx, fun a xs ex e => ?_⟩
  subst ex
  cases dx with
  | tup e1 k =>
    cases e.symm.trans e1
    refine ⟨by rw [dx_len k]; exact (small_tup s).1, fun y m e2 k2 => ?_⟩
    obtain ⟨d', md, k3⟩ := dx_mem k m
    have sm := (small_tup s).2 _ md
    have e3 := Dx.one _ _ _ k2 k3
    subst e3
    exact fitA_small k2 sm
  | lst e1 _ => cases e.symm.trans e1
  | dct e1 _ => cases e.symm.trans e1
theorem shx_bool (b : Bool) : Shx (.bool b) := (good_bool b (n := 5) (k := 0) (by decide)).gx.shx
theorem pool_nm {z : Str} (h : z ∈ pool 40) : Nm (.str z) := by
  have e : ∀ z ∈ pool 40, ascB z = true ∧ z.length ≤ 8 := by decide +kernel
  exact ⟨z, rfl, asc_b (e z h).1, (e z h).2⟩
theorem docs_nm {y : V} (h : y ∈ docs8) : Nm y := by
  unfold docs8 at h
  simp only [List.mem_cons, List.not_mem_nil, or_false] at h
  rcases h with rfl | rfl | rfl | rfl | rfl | rfl | rfl | rfl <;> exact ⟨_, rfl, asc_b (by decide +kernel), by decide +kernel⟩
theorem acts_of {F : Hp} {t : Addr} {rows : List Row} {zs : List Str} (h : HeapIn F t rows) (nm : rows.map (fun r => r.2.1) = zs.map V.str) (inn : ∀ z ∈ zs, z ∈ pool 40) (sub : ∀ r ∈ rows, r.2.2.2.Sublist docs8 ∧ 0 < r.2.2.2.length) : ∀ x ∈ rows.map (fun r => V.ref r.1), Acts F x := by
  intro x m
  obtain ⟨r, mr, rfl⟩ := List.mem_map.mp m
  have m2 : r.2.1 ∈ zs.map V.str := by
    rw [← nm]
    exact List.mem_map_of_mem mr
  obtain ⟨z, mz, ez⟩ := List.mem_map.mp m2
  refine ⟨r.1, r.2.2.1, r.2.1, r.2.2.2, rfl, h.row r mr, h.doc r mr, ez ▸ pool_nm (inn z mz), fun y my => docs_nm ((sub r mr).1.subset my), ?_, (sub r mr).2⟩
  exact Nat.le_trans (sub r mr).1.length_le (by decide)
abbrev sLaw : Stmt := topS 22
abbrev nLaw : List Str := ["_law_script", "_law_items", "_law_k", "_law_hand_here", "_law_turn", "_law_heap_here", "_law_item", "_law_before", "_law_due", "_law_again"]
theorem scL : FnScope nLaw ["_law_script"] (defScope sLaw) := ⟨rfl, rfl, rfl, by decide +kernel, rfl, by decide +kernel, by decide +kernel⟩
section
variable {P : Program} {w : World} {K : PySem.W.Frag} {mg : Str → Option Value} {base : Heap}
def spLaw (K : PySem.W.Frag) (ps : List Addr) : Sp := fun vs H Q _ => ∃ (a : Addr) (ns : List Int), vs = [.ref a] ∧ SqL K H a (ns.map V.int) ∧ ns.length ≤ 63 ∧ (∀ p ∈ ps, GxR.TabG H p) ∧ ∀ H', Q (.bl true) H'
theorem ok_law {f fH fT fO fHp fCH fLH fI : Addr} {ps : List Addr} {fd fdH fdT fdO fdHp fdCH fdLH fdI : FuncData} (F : Fun K "law" "law" sLaw f fd) (sy : ∃ o, base.get? sysModules = some o) (DH : Df K mg "_law_hand" sHand ["_law_script", "_law_k"] fH fdH)
    (DT : Df K mg "_law_take" sTake ["_law_hand_here", "_law_many"] fT fdT) (DO : Df K mg "_law_of" sOf ["_law_hand_here", "_law_some"] fO fdO) (DHp : Df K mg "_law_heap" sHeap ["_law_hand_here", "_law_count", "_law_width"] fHp fdHp) (DCH : Df K mg "_law_changed_heap" sCH ["_law_hand_here", "_law_heap_here"] fCH fdCH)
    (DLH : Df K mg "_law_is_heap" sLawHp ["_law_thing"] fLH fdLH) (DI : Df K mg "is_heap" sHp ["thing"] fI fdI)
    (GHp : FnOk P w K mg base CX0 3 fHp fdHp ["_law_hand_here", "_law_count", "_law_width"] spHeap) (GCH : FnOk P w K mg base CX0 4 fCH fdCH ["_law_hand_here", "_law_heap_here"] spCH)
    (GLH : FnOk P w K mg base CX0 3 fLH fdLH ["_law_thing"] spLawHp) (GI : FnOk P w K mg base CX0 7 fI fdI ["thing"] (spHeapIs ps)) (T : Bl mg) : FnG P w K mg base CX0 8 f fd ["_law_script"] (spLaw K ps) := by
  have GH : FnOk P w K mg base CX0 1 fH fdH _ (spHand K) := ok_hand DH.F T
  have GT : FnOk P w K mg base CX0 1 fT fdT _ spTake := ok_take DT.F T
  have GL : FnOk P w K mg base CX0 2 fO fdO _ spOfL := ok_ofL DO.F DT T
  refine okG F scL (fun vs H Q E h => ?_) (fun cdv A outer s H vs Q E gd hr h => ?_)
  · obtain ⟨a, ns, rfl, _⟩ := h
    rfl
  · obtain ⟨a, ns, rfl, hS, hl, tabs, q⟩ := h
    -- the check of all items
    obtain ⟨tC, hC, rc⟩ : ∃ tR, PSs (cxOf CX0 P w K mg base nLaw "law" (defScope sLaw) f cdv A outer s H E).nox ((defBody sLaw).drop 2) tR ∧ ∀ (it : Addr) (xs : List V) (F1 H1 : Hp) (y2 y3 y4 y5 y6 y7 y8 y9 : Option V), Itl ps it xs F1 H1 →
        tR { nx := fun _ H' => Q .non H', rt := Q } [some (.ref a), some (.ref it), y2, y3, y4, y5, y6, y7, y8, y9] H1 := by
      refine ⟨_, (pss_cons (ps_for PassesOwn.never rfl (pi_list (pv 1)) (pg_name (i := 6) scL.nd rfl (.inl rfl))
  (pss_cons (ps_par (i := 7) (j := 8) (by rfl) scL.nd rfl rfl (by decide) rfl rfl (pa_cons (pe_callB (call_reprX sy gd hr.units) (by rfl) T.repr (by decide +kernel) (pa_cons (pv 6) pa_nil)) (pa_cons (pe_callB (call_reprX sy gd hr.units) (by rfl) T.repr (by decide +kernel) (pa_cons (pe_call GLH (hr.mono (by decide)) (by rfl) DLH.g DLH.F.kp DLH.b .nil pass0 (pa_cons (pv 6) pa_nil)) pa_nil)) pa_nil)) (by rfl))
  (pss_one (ps_if (PW.pt (pw_or (pt_cmpR op_ne (pe_callB (call_reprX sy gd hr.units) (by rfl) T.repr (by decide +kernel) (pa_cons (pe_call GI (hr.mono (by decide)) (by rfl) DI.g DI.F.kp DI.b .nil pass0 (pa_cons (pv 6) pa_nil)) pa_nil)) (pv 8) (nomark _)) (pw_or1 (pt_cmpR op_ne (pe_callB (call_reprX sy gd hr.units) (by rfl) T.repr (by decide +kernel) (pa_cons (pv 6) pa_nil)) (pv 7) (nomark _)))))
  (pss_one (ps_ret pe_bl))
  pss_nil))))
  (pss_one (ps_ret pe_bl))), fun it xs F1 H1 y2 y3 y4 y5 y6 y7 y8 y9 its => ?_⟩
      refine ⟨.ref it, rfl, it, rfl, ⟨_, SqL.of its.at_⟩, ?_⟩
      refine for_list (K := K) (a := it) (xs := xs) (fun i σ H2 => ∃ y6 y7 y8, σ = [some (.ref a), some (.ref it), y2, y3, y4, y5, y6, y7, y8, y9] ∧ Itl ps it xs F1 H2) ?_ ?_ ?_ ?_
      · exact ⟨_, _, _, rfl, its⟩
      · rintro i σ H2 _ ⟨_, _, _, _, its2⟩
        exact SqL.of its2.at_
      · rintro i x σ H2 hx ⟨z7, z8, z9, rfl, its2⟩
        obtain ⟨d, dx, g, sm⟩ := its2.ok x (List.mem_of_getElem? hx)
        have sh : Shx d := g.shx
        have f2 := fitH_small (Dx.stays (stays_of its2.sub) _ _ dx) sm
        refine ⟨x, rfl, x, d, rfl, f2.dx, sh, x, rfl, x, d, rfl, f2, fun H3 s3 => ?_⟩
        have its3 := its2.same s3
        refine ⟨.bl (heapD d), .bool (heapD d), rfl, .bl _, shx_bool _, _, _, rfl, ?_⟩
        refine ⟨x, rfl, x, d, rfl, ⟨Dx.stays (stays_of its3.sub) _ _ dx, sm⟩, its3.tb, fun H4 t4 => ?_⟩
        have its4 := its3.tabs t4
        have d4 := Dx.stays (stays_of its4.sub) _ _ dx
        refine ⟨.bl (heapD d), .bool (heapD d), rfl, .bl _, shx_bool _, _, rfl, rfl, _, rfl, iffF (ne_self _) ?_⟩
        refine ⟨x, rfl, x, d, rfl, d4, sh, _, rfl, rfl, _, rfl, iffF (ne_self _) ?_⟩
        exact ⟨_, _, _, rfl, its4⟩
      · rintro σ H2 _
        exact q _
    -- the drawn items
    obtain ⟨t1, h1, r1⟩ : ∃ tR, PSs (cxOf CX0 P w K mg base nLaw "law" (defScope sLaw) f cdv A outer s H E).nox ((defBody sLaw).drop 1) tR ∧ ∀ (it : Addr) (xs : List V) (F1 H1 : Hp), Itl ps it xs F1 H1 → xs.length = 12 → Same H H1 → H it = none →
        tR { nx := fun _ H' => Q .non H', rt := Q } [some (.ref a), some (.ref it), none, none, none, none, none, none, none, none] H1 := by
      refine ⟨_, (pss_cons (ps_for PassesOwn.never rfl (pi_range1 (by rfl) T.range (pa_cons (pe_callB (call_max2 rfl) (by rfl) T.max (by decide +kernel) (pa_cons pe_int (pa_cons (pe_callB (call_min2 rfl) (by rfl) T.min (by decide +kernel) (pa_cons pe_int (pa_cons (pe_callB call_len_seq (by rfl) T.len PySem.boot_len (pa_cons (pv 0) pa_nil)) pa_nil))) pa_nil))) pa_nil)) (pg_name (i := 2) scL.nd rfl (.inl rfl))
  (pss_cons (ps_set (i := 3) scL.nd rfl (.inr rfl) (pe_call GH (hr.mono (by decide)) (by rfl) DH.g DH.F.kp DH.b .nil pass0 (pa_cons (pv 0) (pa_cons (pv 2) pa_nil))))
  (pss_one (ps_for PassesOwn.never rfl (pi_range1 (by rfl) T.range (pa_cons pe_int pa_nil)) (pg_name (i := 4) scL.nd rfl (.inl rfl))
  (pss_cons (ps_set (i := 5) scL.nd rfl (.inr rfl) (pe_call GHp (hr.mono (by decide)) (by rfl) DHp.g DHp.F.kp DHp.b .nil pass0 (pa_cons (pv 3) (pa_cons (pe_call GL (hr.mono (by decide)) (by rfl) DO.g DO.F.kp DO.b .nil pass0 (pa_cons (pv 3) (pa_cons (pe_lst (pa_cons pe_int (pa_cons pe_int (pa_cons pe_int (pa_cons pe_int (pa_cons pe_int (pa_cons pe_int pa_nil))))))) pa_nil))) (pa_cons (pe_op op_add pe_int (pe_call GT (hr.mono (by decide)) (by rfl) DT.g DT.F.kp DT.b .nil pass0 (pa_cons (pv 3) (pa_cons pe_int pa_nil)))) pa_nil)))))
  (pss_cons (ps_expr (pe_bm PySem.F.plainAttrs_list PySem.F.slot_list_append PySem.F.type_list_append mt_append (pv 1) (pa_cons (pv 5) pa_nil)))
  (pss_one (ps_expr (pe_bm PySem.F.plainAttrs_list PySem.F.slot_list_extend PySem.F.type_list_extend mt_extend (pv 1) (pa_cons (pe_lc (own := [("_law_again", 9)]) (g := gName 9) (tt := tYes) rfl scL.nd (pi_range1 (by rfl) T.range (pa_cons pe_int pa_nil)) (blkOk_by (own := [("_law_again", 9)]) (N := nLaw) (sc := defScope sLaw) (by decide +kernel)) (fun _ _ _ _ _ => (pg_name (i := 9) scL.nd rfl (.inl rfl))) (fun _ _ _ _ _ => pts_nil) (fun _ _ _ _ _ => (pe_call GCH (hr.mono (by decide)) (by rfl) DCH.g DCH.F.kp DCH.b .nil pass0 (pa_cons (pv 3) (pa_cons (pv 5) pa_nil))))) pa_nil))))))))))
  hC), fun it xs0 F0 H0 its0 xl0 sH0 hit => ?_⟩
      refine ⟨.ref a, rfl, a, _, rfl, .inl (sH0.seq hS), 3, _, rfl, 1, _, rfl, ?_⟩
      rw [List.length_map]
      have hN : (if (if (ns.length : Int) < 3 then (ns.length : Int) else 3) > 1 then (if (ns.length : Int) < 3 then (ns.length : Int) else 3) else 1) ≤ 3 ∧ 0 ≤ (if (if (ns.length : Int) < 3 then (ns.length : Int) else 3) > 1 then (if (ns.length : Int) < 3 then (ns.length : Int) else 3) else 1) := by
        constructor <;> (split <;> (try split) <;> omega)
      generalize (if (if (ns.length : Int) < 3 then (ns.length : Int) else 3) > 1 then (if (ns.length : Int) < 3 then (ns.length : Int) else 3) else 1) = N at hN
      refine ⟨N, rfl, by omega, by omega, ?_⟩
      refine for_range (lo := 0) (n := N.toNat) (fun i σ H1 => ∃ (y2 y3 y4 y5 y6 y7 y8 y9 : Option V) (xs : List V) (F1 : Hp), σ = [some (.ref a), some (.ref it), y2, y3, y4, y5, y6, y7, y8, y9] ∧ Itl ps it xs F1 H1 ∧ xs.length ≤ 12 + 44 * i ∧ Same H H1) ?_ ?_ ?_
      · exact ⟨_, _, _, _, _, _, _, _, xs0, F0, rfl, its0, by omega, sH0⟩
      · rintro i σ H1 hi ⟨y2, y3, y4, y5, y6, y7, y8, y9, xs, F1, rfl, its, xl, s1⟩
        refine ⟨.ref a, rfl, .int (0 + (i : Nat)), rfl, a, _, ns, rfl, s1.seq hS, by omega, by omega, fun H2 p s2 np h2 => ?_⟩
        have itp : it ≠ p := ne_of_none its.at_ np
        have psp : ∀ r ∈ ps, r ≠ p := fun r hr' => tb_free (its.tb r hr') np
        have F1p : F1 p = none := its.sub.free np
        have Hp0 : H p = none := s1.free np
        have its2 := its.same s2
        refine ⟨4, rfl, by decide, by decide, ?_⟩
        refine for_range (lo := 0) (n := 4) (fun j σ H4 => ∃ (y4 y5 y6 y7 y8 y9 : Option V) (xs : List V) (F4 : Hp), σ = [some (.ref a), some (.ref it), some (.int (0 + (i : Nat))), some (.ref p), y4, y5, y6, y7, y8, y9] ∧ Itl ps it xs F4 H4 ∧ F4 p = none ∧ Hand H4 p (5000 * j) ∧ xs.length ≤ 12 + 44 * i + 11 * j ∧ Same H H4) ?_ ?_ ?_
        · exact ⟨_, _, _, _, _, _, xs, F1, rfl, its2, F1p, h2, by omega, s1.trans s2⟩
        · rintro j σ H4 hj ⟨z4, z5, z6, z7, z8, z9, xs4, F4, rfl, its4, F4p, h4, xl4, s4⟩
          -- the heap
          refine ⟨.ref p, rfl, .ref p, rfl, by show 6 ≤ sizeLine; decide, fun l nl => ?_⟩
          have lp := Hand.ne h4.some nl
          refine ⟨p, l, _, 5000 * j, rfl, h4.new nl, by omega, lp, upd_same, (by show 0 < 6; decide), (by show 6 ≤ 1000; decide), fun H5 v u5 h5 mv => ?_⟩
          obtain ⟨c, rfl, c39⟩ : ∃ c : Nat, v = .int (c : Int) ∧ c ≤ 39 := by
            simp only [List.mem_cons, List.not_mem_nil, or_false] at mv
            rcases mv with rfl | rfl | rfl | rfl | rfl | rfl
            · exact ⟨0, rfl, by decide⟩
            · exact ⟨1, rfl, by decide⟩
            · exact ⟨2, rfl, by decide⟩
            · exact ⟨5, rfl, by decide⟩
            · exact ⟨12, rfl, by decide⟩
            · exact ⟨39, rfl, by decide⟩
          refine ⟨.ref p, rfl, p, 8, 5000 * j + 1, rfl, h5, by omega, by omega, by omega, fun H6 wd u6 h6 w0 w1 => ?_⟩
          have mk6 : Mk p F4 H4 F4 H6 := .draw its4.sub (((Upto.new nl).trans u5).trans u6) h6.some F4p
          obtain ⟨wn, rfl⟩ : ∃ wn : Nat, wd = (wn : Int) := ⟨wd.toNat, by omega⟩
          refine ⟨1, _, rfl, rfl, p, c, wn + 1, 5000 * j + 2, F4, ?_, h6, by omega, by omega, by omega, by omega, mk6.sub, F4p, fun F7 H7 t rows zs mk7 h7 hin len nm nd inn sub => ?_⟩
          · have : (1 : Int) + (wn : Int) = ((wn + 1 : Nat) : Int) := by omega
            show [V.ref p, V.int (c : Int), V.int (1 + (wn : Int))] = _
            rw [this]
          have mk := mk6.trans mk7
          have its7 := its4.mk_ mk itp psp
          have F7p := mk.fa h4.some F4p
          have s7 : Same H H7 := same_upto s4 mk.upto Hp0
          have acts := acts_of hin nm inn sub
          have ht := hin.at_
          have hlen : (rows.map fun r => V.ref r.1).length ≤ 40 := by rw [List.length_map]; omega
          generalize (rows.map fun r => V.ref r.1) = hs at acts ht hlen
          have h7 : Hand H7 p (5000 * j + 4000) := h7.mono (by omega)
          have xb : xs4.length ≤ 300 := by omega
          refine ⟨.ref it, rfl, .inl ⟨rfl, _, SqL.of its7.at_⟩, .ref t, rfl, it, xs4, .ref t, rfl, rfl, its7.at_, Nat.lt_of_le_of_lt (show xs4.length ≤ 1000 by omega) (by decide), ?_⟩
          have its8 := its7.grow (ys := [.ref t]) (fun y m => by rw [List.mem_singleton.mp m]; exact itw_tup ht (fun x m => (acts x m).wl) (by omega))
          have h8 : Hand _ p (5000 * j + 4000) := h7.at (upd_ne itp.symm) (H' := upd H7 it (.lst (xs4 ++ [.ref t])))
          have s8 : Same H _ := same_put (o := .lst (xs4 ++ [.ref t])) s7 hit
          generalize upd H7 it (.lst (xs4 ++ [.ref t])) = H8 at its8 h8 s8 ⊢
          -- the changed ones
          refine ⟨.ref it, rfl, .inl ⟨rfl, _, SqL.of its8.at_⟩, 10, rfl, by decide, by decide, fun D2 nD2 => ?_⟩
          have itD2 : it ≠ D2 := ne_of_none its8.at_ nD2
          have psD2 : ∀ r ∈ ps, r ≠ D2 := fun r hr' => tb_free (its8.tb r hr') nD2
          have Dp2 := Hand.ne h8.some nD2
          have hD2 : H D2 = none := s8.free nD2
          have F7D2 : F7 D2 = none := its8.sub.free nD2
          refine lc_range (lo := 0) (n := 10) (fun m H9 => ∃ (zs : List V) (F9 : Hp), H9 D2 = some (.lst zs) ∧ zs.length = m ∧ Itl ps it (xs4 ++ [.ref t]) F9 H9 ∧ Same F7 F9 ∧ F9 D2 = none ∧ F9 p = none ∧ (∀ y ∈ zs, Itw F9 y) ∧ Hand H9 p (5000 * j + 4000 + 6 * m) ∧ Same H H9) ?_ ?_ ?_
          · exact ⟨[], F7, upd_same, rfl, its8.put F7D2 itD2 psD2, Same.refl _, F7D2, F7p, fun y m => (nomatch m), h8.new nD2, same_put s8 hD2⟩
          · rintro m H9 hm ⟨zs, F9, eD9, el9, its9, s79, F9D, F9p, okz, h9, s9⟩
            refine ⟨rfl, lc_yes ?_⟩
            refine ⟨.ref p, rfl, .ref t, rfl, p, t, hs, _, F9, rfl, h9, by omega, its9.sub, F9p, s79 _ _ ht, hlen, fun x m => (acts x m).more s79, fun F10 H10 v mk10 h10 iv => ?_⟩
            have its10 := its9.mk_ mk10 itp psp
            have F10D := mk10.fresh D2 _ eD9 F9D
            refine ⟨_, mk10.upto D2 _ Dp2 eD9, ?_, zs ++ [v], F10, upd_same, ?_, its10.put F10D itD2 psD2, s79.trans mk10.mono, F10D, mk10.fa h9.some F9p, ?_, ?_, ?_⟩
            · rw [el9]
              exact small1000 (by omega)
            · rw [List.length_append, el9]
              rfl
            · intro y my
              rcases List.mem_append.mp my with my | my
              · exact (okz y my).more mk10.mono
              · rw [List.mem_singleton.mp my]
                exact iv
            · exact (h10.at (upd_ne Dp2.symm)).mono (by omega)
            · exact same_put (same_upto s9 mk10.upto Hp0) hD2
          · rintro H9 ⟨zs, F9, eD9, el9, its9, s79, F9D, F9p, okz, h9, s9⟩
            refine ⟨it, D2, _, zs, rfl, rfl, its9.at_, eD9, ?_, ?_⟩
            · rw [List.length_append, el9]
              exact Nat.le_trans (show xs4.length + 1 + 10 ≤ 1000 by omega) (by decide)
            · refine ⟨_, _, _, _, _, _, _, F9, rfl, its9.grow okz, F9p, ?_, ?_, same_put s9 hit⟩
              · exact (h9.at (upd_ne itp.symm)).mono (by omega)
              · rw [List.length_append, List.length_append, el9]
                show xs4.length + 1 + 10 ≤ _
                omega
        · rintro σ H4 ⟨z4, z5, z6, z7, z8, z9, xs4, F4, rfl, its4, F4p, h4, xl4, s4⟩
          exact ⟨_, _, _, _, _, _, _, _, xs4, F4, rfl, its4, by omega, s4⟩
      · rintro σ H1 ⟨y2, y3, y4, y5, y6, y7, y8, y9, xs, F1, rfl, its, xl, s1⟩
        exact rc it xs F1 H1 _ _ _ _ _ _ _ _ its
    refine ⟨_, (pss_cons (ps_set (i := 1) scL.nd rfl (.inl rfl) (pe_lst (pa_cons pe_non (pa_cons pe_bl (pa_cons pe_int (pa_cons pe_str (pa_cons (pe_tup pa_nil) (pa_cons (pe_lst pa_nil) (pa_cons pe_dnewK (pa_cons (pe_tup (pa_cons (pe_tup pa_nil) pa_nil)) (pa_cons (pe_tup (pa_cons pe_non pa_nil)) (pa_cons pe_str (pa_cons (pe_tup (pa_cons pe_str (pa_cons (pe_tup (pa_cons pe_str pa_nil)) pa_nil))) (pa_cons (pe_tup (pa_cons (pe_tup (pa_cons pe_str (pa_cons (pe_tup (pa_cons pe_str pa_nil)) pa_nil))) (pa_cons (pe_tup (pa_cons pe_str (pa_cons (pe_tup (pa_cons pe_str pa_nil)) pa_nil))) pa_nil))) pa_nil))))))))))))))
  h1), ?_⟩
    refine ⟨by show 0 ≤ sizeLine; decide, fun p1 e1 => ⟨by show 0 ≤ sizeLine; decide, fun p2 e2 => fun p3 e3 => ⟨by show 0 ≤ sizeLine; decide, fun p4 e4 => ⟨by show 1 ≤ sizeLine; decide, fun p5 e5 => ⟨by show 1 ≤ sizeLine; decide, fun p6 e6 => ⟨by show 1 ≤ sizeLine; decide, fun p7 e7 => ⟨by show 2 ≤ sizeLine; decide, fun p8 e8 => ⟨by show 1 ≤ sizeLine; decide, fun p9 e9 => ⟨by show 2 ≤ sizeLine; decide, fun p10 e10 => ⟨by show 1 ≤ sizeLine; decide, fun p11 e11 => ⟨by show 2 ≤ sizeLine; decide, fun p12 e12 => ⟨by show 2 ≤ sizeLine; decide, fun p13 e13 => ⟨by show 12 ≤ sizeLine; decide, fun l nl => ?_⟩⟩⟩⟩⟩⟩⟩⟩⟩⟩⟩⟩⟩
    have c := ((((((lit0 tabs).tup (ys := []) e1 .nil).lst (ys := []) e2 .nil).dct e3).tup (ys := []) e4 .nil).tup (ys := [(.ref p4, .tuple [])]) e5 (.k 0 rfl .nil)).tup (ys := [(.non, .none)]) e6 (.n .nil)
    have c := (((c.tup (ys := [(.str "a", .str "a")]) e7 (.s _ .nil)).tup (ys := [(.str "a", .str "a"), (.ref p7, .tuple [.str "a"])]) e8 (.s _ (.k 0 rfl .nil))).tup (ys := [(.str "a", .str "a")]) e9 (.s _ .nil)).tup (ys := [(.str "a", .str "a"), (.ref p9, .tuple [.str "a"])]) e10 (.s _ (.k 0 rfl .nil))
    have c := ((c.tup (ys := [(.str "b", .str "b")]) e11 (.s _ .nil)).tup (ys := [(.str "a", .str "a"), (.ref p11, .tuple [.str "b"])]) e12 (.s _ (.k 0 rfl .nil))).tup (ys := [(.ref p10, .tuple [.str "a", .tuple [.str "a"]]), (.ref p12, .tuple [.str "a", .tuple [.str "b"]])]) e13 (.k 2 rfl (.k 0 rfl .nil))
    exact r1 l _ _ _ (c.fin nl (zs := [(.non, .none), (.bl true, .bool true), (.int 0, .int 0), (.str "", .str ""), (.ref p1, .tuple []), (.ref p2, .list []), (.ref p3, .dict []), (.ref p5, .tuple [.tuple []]), (.ref p6, .tuple [.none]), (.str "heap", .str "heap"), (.ref p8, .tuple [.str "a", .tuple [.str "a"]]), (.ref p13, .tuple [.tuple [.str "a", .tuple [.str "a"]], .tuple [.str "a", .tuple [.str "b"]]])]) (.n (.b _ (.i _ (.s _ (.k 12 rfl (.k 11 rfl (.k 10 rfl (.k 8 rfl (.k 7 rfl (.s _ (.k 5 rfl (.k 0 rfl .nil))))))))))))
      (ds := [.none, .bool true, .int 0, .str "", .tuple [], .list [], .dict [], .tuple [.tuple []], .tuple [.none], .str "heap", .tuple [.str "a", .tuple [.str "a"]], .tuple [.tuple [.str "a", .tuple [.str "a"]], .tuple [.str "a", .tuple [.str "b"]]]]) rfl (by decide +kernel)) rfl (c.bs.trans (same_upd nl)) (c.bs.free nl)
end
end Cu

namespace Cu
open PySem PySem.Spec PyProof.Rows L2
theorem all_nil {α : Type} {P : α → Prop} : ∀ p ∈ ([] : List α), P p := fun _ m => (nomatch m)
theorem all_cons {α : Type} {P : α → Prop} {x : α} {l : List α} (h : P x) (t : ∀ p ∈ l, P p) : ∀ p ∈ x :: l, P p := fun p m => by
  rcases List.mem_cons.mp m with e | e
  · rw [e]
    exact h
  · exact t p e
end Cu

namespace Cu
open PySem PySem.Spec PyProof.Rows L2
theorem all_mk {w : World} {K : PySem.W.Frag} {h : Heap} {mg : Str → Option Value} {fa fN fP fM fA fI fC fE fH fT fO fU fY fX fD fW fQ fV fL : Addr} {q : Program} {loose : List Str} {mean : ExcName → Option Value} {mb : Str → Option Value} {cN0 pN cM0 pM cA0 pA cI0 pI : Addr} {dN0 dM0 dA0 dI0 : DefRec} {oxN oxM oxA oxI : Value} {oyN oyM oyA oyI : Option Addr} {szN szM szA szI : Array (Option Value)} {vsN vsM vsA vsI : Array Value} (TT : Top q loose mean mg mb h) {t_MOST_LETTERS t_MOST_DOCUMENTS : Tok} (X : K.In h) (G : h.Ns mainGlobals mg) (hfa : mg "law" = some (.ref fa))
    {odN anN odP anP odM anM odA anA odI anI odC anC odE anE odH anH odT anT odO anO odU anU odY anY odX anX odD anD odW anW odQ anQ odV anV odL anL : Option Addr} {slN slP slM slA slI slC slE slH slT slO slU slY slX slD slW slQ slV slL : Array (Option Value)} {ocN kVN dcN pmN ctN ocP kVP dcP pmP ctP cdP ocM kVM dcM pmM ctM ocA kVA dcA pmA ctA ocI kVI dcI pmI ctI ocC kVC dcC pmC ctC cdC ocE kVE dcE pmE ctE cdE ocH kVH dcH pmH ctH cdH ocT kVT dcT pmT ctT cdT ocO kVO dcO pmO ctO cdO ocU kVU dcU pmU ctU cdU ocY kVY dcY pmY ctY cdY ocX kVX dcX pmX ctX cdX ocD kVD dcD pmD ctD cdD ocW kVW dcW pmW ctW cdW ocQ kVQ dcQ pmQ ctQ cdQ ocV kVV dcV pmV ctV cdV ocL kVL dcL pmL ctL cdL : Value}
    (aN : PySem.W.nsIn K mainGlobals "is_name" = some (some (.ref fN))) (lN : K.lookup fN = some ⟨ocN, odN, .func (PySem.W.fnOf "is_name" "is_name" (defArgs sIsName) (defBody sIsName) (defScope sIsName) .none kVN dcN pmN anN (.ref cN0) ctN), slN⟩)
    (cN : PySem.W.codeIn K (.ref cN0) "is_name" = true) (kN : PySem.W.keepIn K (.ref fN) = true)
    (aP : PySem.W.nsIn K mainGlobals "is_pair" = some (some (.ref fP))) (lP : K.lookup fP = some ⟨ocP, odP, .func (PySem.W.fnOf "is_pair" "is_pair" (defArgs sPair) (defBody sPair) (defScope sPair) .none kVP dcP pmP anP cdP ctP), slP⟩)
    (cP : PySem.W.codeIn K cdP "is_pair" = true) (kP : PySem.W.keepIn K (.ref fP) = true)
    (aM : PySem.W.nsIn K mainGlobals "is_names" = some (some (.ref fM))) (lM : K.lookup fM = some ⟨ocM, odM, .func (PySem.W.fnOf "is_names" "is_names" (defArgs sNms) (defBody sNms) (defScope sNms) .none kVM dcM pmM anM (.ref cM0) ctM), slM⟩)
    (cM : PySem.W.codeIn K (.ref cM0) "is_names" = true) (kM : PySem.W.keepIn K (.ref fM) = true)
    (aA : PySem.W.nsIn K mainGlobals "is_ascending" = some (some (.ref fA))) (lA : K.lookup fA = some ⟨ocA, odA, .func (PySem.W.fnOf "is_ascending" "is_ascending" (defArgs sAsc) (defBody sAsc) (defScope sAsc) .none kVA dcA pmA anA (.ref cA0) ctA), slA⟩)
    (cA : PySem.W.codeIn K (.ref cA0) "is_ascending" = true) (kA : PySem.W.keepIn K (.ref fA) = true)
    (aI : PySem.W.nsIn K mainGlobals "is_heap" = some (some (.ref fI))) (lI : K.lookup fI = some ⟨ocI, odI, .func (PySem.W.fnOf "is_heap" "is_heap" (defArgs sHp) (defBody sHp) (defScope sHp) .none kVI dcI pmI anI (.ref cI0) ctI), slI⟩)
    (cI : PySem.W.codeIn K (.ref cI0) "is_heap" = true) (kI : PySem.W.keepIn K (.ref fI) = true)
    (aC : PySem.W.nsIn K mainGlobals "is_action" = some (some (.ref fC))) (lC : K.lookup fC = some ⟨ocC, odC, .func (PySem.W.fnOf "is_action" "is_action" (defArgs sAct) (defBody sAct) (defScope sAct) .none kVC dcC pmC anC cdC ctC), slC⟩)
    (cC : PySem.W.codeIn K cdC "is_action" = true) (kC : PySem.W.keepIn K (.ref fC) = true)
    (aE : PySem.W.nsIn K mainGlobals "is_touched" = some (some (.ref fE))) (lE : K.lookup fE = some ⟨ocE, odE, .func (PySem.W.fnOf "is_touched" "is_touched" (defArgs sTch) (defBody sTch) (defScope sTch) .none kVE dcE pmE anE cdE ctE), slE⟩)
    (cE : PySem.W.codeIn K cdE "is_touched" = true) (kE : PySem.W.keepIn K (.ref fE) = true)
    (aH : PySem.W.nsIn K mainGlobals "_law_hand" = some (some (.ref fH))) (lH : K.lookup fH = some ⟨ocH, odH, .func (PySem.W.fnOf "_law_hand" "_law_hand" (defArgs sHand) (defBody sHand) (defScope sHand) .none kVH dcH pmH anH cdH ctH), slH⟩)
    (cH : PySem.W.codeIn K cdH "_law_hand" = true) (kH : PySem.W.keepIn K (.ref fH) = true)
    (aT : PySem.W.nsIn K mainGlobals "_law_take" = some (some (.ref fT))) (lT : K.lookup fT = some ⟨ocT, odT, .func (PySem.W.fnOf "_law_take" "_law_take" (defArgs sTake) (defBody sTake) (defScope sTake) .none kVT dcT pmT anT cdT ctT), slT⟩)
    (cT : PySem.W.codeIn K cdT "_law_take" = true) (kT : PySem.W.keepIn K (.ref fT) = true)
    (aO : PySem.W.nsIn K mainGlobals "_law_of" = some (some (.ref fO))) (lO : K.lookup fO = some ⟨ocO, odO, .func (PySem.W.fnOf "_law_of" "_law_of" (defArgs sOf) (defBody sOf) (defScope sOf) .none kVO dcO pmO anO cdO ctO), slO⟩)
    (cO : PySem.W.codeIn K cdO "_law_of" = true) (kO : PySem.W.keepIn K (.ref fO) = true)
    (aU : PySem.W.nsIn K mainGlobals "_law_subset" = some (some (.ref fU))) (lU : K.lookup fU = some ⟨ocU, odU, .func (PySem.W.fnOf "_law_subset" "_law_subset" (defArgs sSub) (defBody sSub) (defScope sSub) .none kVU dcU pmU anU cdU ctU), slU⟩)
    (cU : PySem.W.codeIn K cdU "_law_subset" = true) (kU : PySem.W.keepIn K (.ref fU) = true)
    (aY : PySem.W.nsIn K mainGlobals "_law_heap" = some (some (.ref fY))) (lY : K.lookup fY = some ⟨ocY, odY, .func (PySem.W.fnOf "_law_heap" "_law_heap" (defArgs sHeap) (defBody sHeap) (defScope sHeap) .none kVY dcY pmY anY cdY ctY), slY⟩)
    (cY : PySem.W.codeIn K cdY "_law_heap" = true) (kY : PySem.W.keepIn K (.ref fY) = true)
    (aX : PySem.W.nsIn K mainGlobals "_law_is_name" = some (some (.ref fX))) (lX : K.lookup fX = some ⟨ocX, odX, .func (PySem.W.fnOf "_law_is_name" "_law_is_name" (defArgs sLawName) (defBody sLawName) (defScope sLawName) .none kVX dcX pmX anX cdX ctX), slX⟩)
    (cX : PySem.W.codeIn K cdX "_law_is_name" = true) (kX : PySem.W.keepIn K (.ref fX) = true)
    (aD : PySem.W.nsIn K mainGlobals "_law_is_documents" = some (some (.ref fD))) (lD : K.lookup fD = some ⟨ocD, odD, .func (PySem.W.fnOf "_law_is_documents" "_law_is_documents" (defArgs sLawDoc) (defBody sLawDoc) (defScope sLawDoc) .none kVD dcD pmD anD cdD ctD), slD⟩)
    (cD : PySem.W.codeIn K cdD "_law_is_documents" = true) (kD : PySem.W.keepIn K (.ref fD) = true)
    (aW : PySem.W.nsIn K mainGlobals "_law_is_heap" = some (some (.ref fW))) (lW : K.lookup fW = some ⟨ocW, odW, .func (PySem.W.fnOf "_law_is_heap" "_law_is_heap" (defArgs sLawHp) (defBody sLawHp) (defScope sLawHp) .none kVW dcW pmW anW cdW ctW), slW⟩)
    (cW : PySem.W.codeIn K cdW "_law_is_heap" = true) (kW : PySem.W.keepIn K (.ref fW) = true)
    (aQ : PySem.W.nsIn K mainGlobals "_law_changed_action" = some (some (.ref fQ))) (lQ : K.lookup fQ = some ⟨ocQ, odQ, .func (PySem.W.fnOf "_law_changed_action" "_law_changed_action" (defArgs sCA) (defBody sCA) (defScope sCA) .none kVQ dcQ pmQ anQ cdQ ctQ), slQ⟩)
    (cQ : PySem.W.codeIn K cdQ "_law_changed_action" = true) (kQ : PySem.W.keepIn K (.ref fQ) = true)
    (aV : PySem.W.nsIn K mainGlobals "_law_changed_heap" = some (some (.ref fV))) (lV : K.lookup fV = some ⟨ocV, odV, .func (PySem.W.fnOf "_law_changed_heap" "_law_changed_heap" (defArgs sCH) (defBody sCH) (defScope sCH) .none kVV dcV pmV anV cdV ctV), slV⟩)
    (cV : PySem.W.codeIn K cdV "_law_changed_heap" = true) (kV : PySem.W.keepIn K (.ref fV) = true)
    (aL : PySem.W.nsIn K mainGlobals "law" = some (some (.ref fL))) (lL : K.lookup fL = some ⟨ocL, odL, .func (PySem.W.fnOf "law" "law" (defArgs sLaw) (defBody sLaw) (defScope sLaw) .none kVL dcL pmL anL cdL ctL), slL⟩)
    (cL : PySem.W.codeIn K cdL "law" = true) (kL : PySem.W.keepIn K (.ref fL) = true)
    (z_len : PySem.W.nsIn K mainGlobals "len" = some none)
    (z_abs : PySem.W.nsIn K mainGlobals "abs" = some none)
    (z_int : PySem.W.nsIn K mainGlobals "int" = some none)
    (z_range : PySem.W.nsIn K mainGlobals "range" = some none)
    (z_repr : PySem.W.nsIn K mainGlobals "repr" = some none)
    (z_max : PySem.W.nsIn K mainGlobals "max" = some none)
    (z_min : PySem.W.nsIn K mainGlobals "min" = some none)
    (z_all : PySem.W.nsIn K mainGlobals "all" = some none)
    (z_ord : PySem.W.nsIn K mainGlobals "ord" = some none)
    (z_isinstance : PySem.W.nsIn K mainGlobals "isinstance" = some none)
    (z_str : PySem.W.nsIn K mainGlobals "str" = some none)
    (z_bool : PySem.W.nsIn K mainGlobals "bool" = some none)
    (z_tuple : PySem.W.nsIn K mainGlobals "tuple" = some none)
    (z_list : PySem.W.nsIn K mainGlobals "list" = some none)
    (z_sorted : PySem.W.nsIn K mainGlobals "sorted" = some none)
    (z_set : PySem.W.nsIn K mainGlobals "set" = some none)
    (z_dict : PySem.W.nsIn K mainGlobals "dict" = some none)
    (v_MOST_LETTERS : PySem.W.nsIn K mainGlobals "MOST_LETTERS" = some (some (.int 8 t_MOST_LETTERS)))
    (v_MOST_DOCUMENTS : PySem.W.nsIn K mainGlobals "MOST_DOCUMENTS" = some (some (.int 4 t_MOST_DOCUMENTS)))
    (rN : (recsOf q).find? (fun e => e.name == ("is_name" : Str)) = some dN0) (tlN : K.lookup cN0 = some ⟨oxN, oyN, .fields vsN, szN⟩) (pvN : vsN[11]? = some (.ref pN))
    (rM : (recsOf q).find? (fun e => e.name == ("is_names" : Str)) = some dM0) (tlM : K.lookup cM0 = some ⟨oxM, oyM, .fields vsM, szM⟩) (pvM : vsM[11]? = some (.ref pM))
    (rA : (recsOf q).find? (fun e => e.name == ("is_ascending" : Str)) = some dA0) (tlA : K.lookup cA0 = some ⟨oxA, oyA, .fields vsA, szA⟩) (pvA : vsA[11]? = some (.ref pA))
    (rI : (recsOf q).find? (fun e => e.name == ("is_heap" : Str)) = some dI0) (tlI : K.lookup cI0 = some ⟨oxI, oyI, .fields vsI, szI⟩) (pvI : vsI[11]? = some (.ref pI))
    (nt : PySem.W.noTabs K = true) : LawG PySem.Challenge.rw_crossundo_k06_heaps_of_anything w K 8 63 "_law_script" mg fa h := by
  have e := hfa.symm.trans (PySem.W.mg_of X G aL)
  cases e
  have T : Bl mg := { len := PySem.W.mg_none_of X G z_len, abs := PySem.W.mg_none_of X G z_abs, int := PySem.W.mg_none_of X G z_int, range := PySem.W.mg_none_of X G z_range, repr := PySem.W.mg_none_of X G z_repr, max := PySem.W.mg_none_of X G z_max, min := PySem.W.mg_none_of X G z_min, all := PySem.W.mg_none_of X G z_all, ord := PySem.W.mg_none_of X G z_ord, isinstance := PySem.W.mg_none_of X G z_isinstance, str := PySem.W.mg_none_of X G z_str, bool := PySem.W.mg_none_of X G z_bool, tuple := PySem.W.mg_none_of X G z_tuple, list := PySem.W.mg_none_of X G z_list, sorted := PySem.W.mg_none_of X G z_sorted, set := PySem.W.mg_none_of X G z_set, dict := PySem.W.mg_none_of X G z_dict }
  have tabN := tabIn_of aN lN rfl tlN pvN
  have hd_N := PySem.W.tab_of TT X rN tabN
  have tabM := tabIn_of aM lM rfl tlM pvM
  have hd_M := PySem.W.tab_of TT X rM tabM
  have tabA := tabIn_of aA lA rfl tlA pvA
  have hd_A := PySem.W.tab_of TT X rA tabA
  have tabI := tabIn_of aI lI rfl tlI pvI
  have hd_I := PySem.W.tab_of TT X rI tabI
  have FN := fun_mk (st := sIsName) lN cN kN
  have DN : Df K mg "is_name" sIsName ["thing"] fN _ := ⟨FN, PySem.W.mg_of X G aN, FN.binds (ps := ["thing"]) fun _ _ _ _ _ _ us hl => match us, hl with | [_], _ => rfl⟩
  have FP := fun_mk (st := sPair) lP cP kP
  have DP : Df K mg "is_pair" sPair ["thing"] fP _ := ⟨FP, PySem.W.mg_of X G aP, FP.binds (ps := ["thing"]) fun _ _ _ _ _ _ us hl => match us, hl with | [_], _ => rfl⟩
  have FM := fun_mk (st := sNms) lM cM kM
  have DM : Df K mg "is_names" sNms ["thing"] fM _ := ⟨FM, PySem.W.mg_of X G aM, FM.binds (ps := ["thing"]) fun _ _ _ _ _ _ us hl => match us, hl with | [_], _ => rfl⟩
  have FA := fun_mk (st := sAsc) lA cA kA
  have DA : Df K mg "is_ascending" sAsc ["names"] fA _ := ⟨FA, PySem.W.mg_of X G aA, FA.binds (ps := ["names"]) fun _ _ _ _ _ _ us hl => match us, hl with | [_], _ => rfl⟩
  have FI := fun_mk (st := sHp) lI cI kI
  have DI : Df K mg "is_heap" sHp ["thing"] fI _ := ⟨FI, PySem.W.mg_of X G aI, FI.binds (ps := ["thing"]) fun _ _ _ _ _ _ us hl => match us, hl with | [_], _ => rfl⟩
  have FC := fun_mk (st := sAct) lC cC kC
  have DC : Df K mg "is_action" sAct ["thing"] fC _ := ⟨FC, PySem.W.mg_of X G aC, FC.binds (ps := ["thing"]) fun _ _ _ _ _ _ us hl => match us, hl with | [_], _ => rfl⟩
  have FE := fun_mk (st := sTch) lE cE kE
  have DE : Df K mg "is_touched" sTch ["thing"] fE _ := ⟨FE, PySem.W.mg_of X G aE, FE.binds (ps := ["thing"]) fun _ _ _ _ _ _ us hl => match us, hl with | [_], _ => rfl⟩
  have FH := fun_mk (st := sHand) lH cH kH
  have DH : Df K mg "_law_hand" sHand ["_law_script", "_law_k"] fH _ := ⟨FH, PySem.W.mg_of X G aH, FH.binds (ps := ["_law_script", "_law_k"]) fun _ _ _ _ _ _ us hl => match us, hl with | [_, _], _ => rfl⟩
  have FT := fun_mk (st := sTake) lT cT kT
  have DT : Df K mg "_law_take" sTake ["_law_hand_here", "_law_many"] fT _ := ⟨FT, PySem.W.mg_of X G aT, FT.binds (ps := ["_law_hand_here", "_law_many"]) fun _ _ _ _ _ _ us hl => match us, hl with | [_, _], _ => rfl⟩
  have FO := fun_mk (st := sOf) lO cO kO
  have DO : Df K mg "_law_of" sOf ["_law_hand_here", "_law_some"] fO _ := ⟨FO, PySem.W.mg_of X G aO, FO.binds (ps := ["_law_hand_here", "_law_some"]) fun _ _ _ _ _ _ us hl => match us, hl with | [_, _], _ => rfl⟩
  have FU := fun_mk (st := sSub) lU cU kU
  have DU : Df K mg "_law_subset" sSub ["_law_hand_here", "_law_some", "_law_count"] fU _ := ⟨FU, PySem.W.mg_of X G aU, FU.binds (ps := ["_law_hand_here", "_law_some", "_law_count"]) fun _ _ _ _ _ _ us hl => match us, hl with | [_, _, _], _ => rfl⟩
  have FY := fun_mk (st := sHeap) lY cY kY
  have DY : Df K mg "_law_heap" sHeap ["_law_hand_here", "_law_count", "_law_width"] fY _ := ⟨FY, PySem.W.mg_of X G aY, FY.binds (ps := ["_law_hand_here", "_law_count", "_law_width"]) fun _ _ _ _ _ _ us hl => match us, hl with | [_, _, _], _ => rfl⟩
  have FX := fun_mk (st := sLawName) lX cX kX
  have DX : Df K mg "_law_is_name" sLawName ["_law_thing"] fX _ := ⟨FX, PySem.W.mg_of X G aX, FX.binds (ps := ["_law_thing"]) fun _ _ _ _ _ _ us hl => match us, hl with | [_], _ => rfl⟩
  have FD := fun_mk (st := sLawDoc) lD cD kD
  have DD : Df K mg "_law_is_documents" sLawDoc ["_law_thing"] fD _ := ⟨FD, PySem.W.mg_of X G aD, FD.binds (ps := ["_law_thing"]) fun _ _ _ _ _ _ us hl => match us, hl with | [_], _ => rfl⟩
  have FW := fun_mk (st := sLawHp) lW cW kW
  have DW : Df K mg "_law_is_heap" sLawHp ["_law_thing"] fW _ := ⟨FW, PySem.W.mg_of X G aW, FW.binds (ps := ["_law_thing"]) fun _ _ _ _ _ _ us hl => match us, hl with | [_], _ => rfl⟩
  have FQ := fun_mk (st := sCA) lQ cQ kQ
  have DQ : Df K mg "_law_changed_action" sCA ["_law_hand_here", "_law_heap_here", "_law_at"] fQ _ := ⟨FQ, PySem.W.mg_of X G aQ, FQ.binds (ps := ["_law_hand_here", "_law_heap_here", "_law_at"]) fun _ _ _ _ _ _ us hl => match us, hl with | [_, _, _], _ => rfl⟩
  have FV := fun_mk (st := sCH) lV cV kV
  have DV : Df K mg "_law_changed_heap" sCH ["_law_hand_here", "_law_heap_here"] fV _ := ⟨FV, PySem.W.mg_of X G aV, FV.binds (ps := ["_law_hand_here", "_law_heap_here"]) fun _ _ _ _ _ _ us hl => match us, hl with | [_, _], _ => rfl⟩
  have FL := fun_mk (st := sLaw) lL cL kL
  refine ⟨PySem.W.fnOf "law" "law" (defArgs sLaw) (defBody sLaw) (defScope sLaw) .none kVL dcL pmL anL cdL ctL, [(cN0, pN), (cM0, pM), (cA0, pA), (cI0, pI)], spLaw K [pN, pM, pA, pI], all_cons hd_N.2 (all_cons hd_M.2 (all_cons hd_A.2 (all_cons hd_I.2 all_nil))), all_cons (out_of_K X nt hd_N.2) (all_cons (out_of_K X nt hd_M.2) (all_cons (out_of_K X nt hd_A.2) (all_cons (out_of_K X nt hd_I.2) all_nil))), all_cons hd_N.1 (all_cons hd_M.1 (all_cons hd_A.1 (all_cons hd_I.1 all_nil))), fun s v => .of_eq rfl, fun H a ns hl hT hS => ⟨a, ns, rfl, hS, hl, (all_cons ⟨#[], hT _ List.mem_cons_self, tri0⟩ (all_cons ⟨#[], hT _ (List.mem_cons_of_mem _ List.mem_cons_self), tri0⟩ (all_cons ⟨#[], hT _ (List.mem_cons_of_mem _ (List.mem_cons_of_mem _ List.mem_cons_self)), tri0⟩ (all_cons ⟨#[], hT _ (List.mem_cons_of_mem _ (List.mem_cons_of_mem _ (List.mem_cons_of_mem _ List.mem_cons_self))), tri0⟩ all_nil)))), fun _ => rfl⟩, fun base _ _ TB sy => ?_⟩
  have tbN := TB _ List.mem_cons_self
  have tbM := TB _ (List.mem_cons_of_mem _ List.mem_cons_self)
  have tbA := TB _ (List.mem_cons_of_mem _ (List.mem_cons_of_mem _ List.mem_cons_self))
  have tbI := TB _ (List.mem_cons_of_mem _ (List.mem_cons_of_mem _ (List.mem_cons_of_mem _ List.mem_cons_self)))
  have GN : FnOk PySem.Challenge.rw_crossundo_k06_heaps_of_anything.prog w K mg base CX0 1 _ _ _ (spIs K pN nameB) := ok_isName FN (code_of aN lN tabN) tbN T (PySem.W.mg_of X G v_MOST_LETTERS)
  have GA : FnOk PySem.Challenge.rw_crossundo_k06_heaps_of_anything.prog w K mg base CX0 2 _ _ _ (spAsc K pA) := ok_asc FA (code_of aA lA tabA) tbA T
  have GM : FnOk PySem.Challenge.rw_crossundo_k06_heaps_of_anything.prog w K mg base CX0 3 _ _ _ (spNames [pN, pM, pA, pI]) := ok_names FM (code_of aM lM tabM) tbM (by simp) (by simp) (by simp) DN DA GN GA T
  have GE : FnOk PySem.Challenge.rw_crossundo_k06_heaps_of_anything.prog w K mg base CX0 4 _ _ _ (spTouch [pN, pM, pA, pI]) := ok_touched FE DM GM (PySem.W.mg_of X G v_MOST_DOCUMENTS) T
  have GC : FnOk PySem.Challenge.rw_crossundo_k06_heaps_of_anything.prog w K mg base CX0 5 _ _ _ (spAct [pN, pM, pA, pI]) := ok_action FC (by simp) DP DN DE GN GE T
  have GI : FnOk PySem.Challenge.rw_crossundo_k06_heaps_of_anything.prog w K mg base CX0 7 _ _ _ (spHeapIs [pN, pM, pA, pI]) := ok_isHeap FI (code_of aI lI tabI) tbI (by simp) DC GC T
  exact ok_law FL sy DH DT DO DY DV DW DI (ok_heap FY DT DO DU T) (ok_cH FV DT DO DQ T) (ok_lawHp FW DX DD T) GI T
end Cu
open PySem PySem.W PyProof.Rows
set_option maxRecDepth 100000 in
set_option maxHeartbeats 0 in
theorem PySem.Challenge.cw_crossundo_k06_heaps_of_anything_holds : PySem.Challenge.rw_crossundo_k06_heaps_of_anything.Holds := by
  w_on; o_law; k_head; (case hw => w_witness2)
  k_fill
  refine Cu.walkG (l := PySem.Challenge.rw_crossundo_k06_heaps_of_anything) (n := 63) (k := 8) (x := "_law_script") rfl (by decide) rfl ⟨rfl, by decide, by decide⟩ (fun w h Y => PySem.W.kIn_of Y) (by rfl) ?F
  case F =>
    intro w mg mb mean fa h TT Y KX G hmg
    refine' Cu.all_mk TT KX G hmg ?aN ?lN ?cN ?kN ?aP ?lP ?cP ?kP ?aM ?lM ?cM ?kM ?aA ?lA ?cA ?kA ?aI ?lI ?cI ?kI ?aC ?lC ?cC ?kC ?aE ?lE ?cE ?kE ?aH ?lH ?cH ?kH ?aT ?lT ?cT ?kT ?aO ?lO ?cO ?kO ?aU ?lU ?cU ?kU ?aY ?lY ?cY ?kY ?aX ?lX ?cX ?kX ?aD ?lD ?cD ?kD ?aW ?lW ?cW ?kW ?aQ ?lQ ?cQ ?kQ ?aV ?lV ?cV ?kV ?aL ?lL ?cL ?kL ?z_len ?z_abs ?z_int ?z_range ?z_repr ?z_max ?z_min ?z_all ?z_ord ?z_isinstance ?z_str ?z_bool ?z_tuple ?z_list ?z_sorted ?z_set ?z_dict ?v_MOST_LETTERS ?v_MOST_DOCUMENTS ?rN ?tlN ?pvN ?rM ?tlM ?pvM ?rA ?tlA ?pvA ?rI ?tlI ?pvI ?nt
    (case aN => k_is)
    (case lN => k_is)
    (case cN => k_is)
    (case kN => k_is)
    (case aP => k_is)
    (case lP => k_is)
    (case cP => k_is)
    (case kP => k_is)
    (case aM => k_is)
    (case lM => k_is)
    (case cM => k_is)
    (case kM => k_is)
    (case aA => k_is)
    (case lA => k_is)
    (case cA => k_is)
    (case kA => k_is)
    (case aI => k_is)
    (case lI => k_is)
    (case cI => k_is)
    (case kI => k_is)
    (case aC => k_is)
    (case lC => k_is)
    (case cC => k_is)
    (case kC => k_is)
    (case aE => k_is)
    (case lE => k_is)
    (case cE => k_is)
    (case kE => k_is)
    (case aH => k_is)
    (case lH => k_is)
    (case cH => k_is)
    (case kH => k_is)
    (case aT => k_is)
    (case lT => k_is)
    (case cT => k_is)
    (case kT => k_is)
    (case aO => k_is)
    (case lO => k_is)
    (case cO => k_is)
    (case kO => k_is)
    (case aU => k_is)
    (case lU => k_is)
    (case cU => k_is)
    (case kU => k_is)
    (case aY => k_is)
    (case lY => k_is)
    (case cY => k_is)
    (case kY => k_is)
    (case aX => k_is)
    (case lX => k_is)
    (case cX => k_is)
    (case kX => k_is)
    (case aD => k_is)
    (case lD => k_is)
    (case cD => k_is)
    (case kD => k_is)
    (case aW => k_is)
    (case lW => k_is)
    (case cW => k_is)
    (case kW => k_is)
    (case aQ => k_is)
    (case lQ => k_is)
    (case cQ => k_is)
    (case kQ => k_is)
    (case aV => k_is)
    (case lV => k_is)
    (case cV => k_is)
    (case kV => k_is)
    (case aL => k_is)
    (case lL => k_is)
    (case cL => k_is)
    (case kL => k_is)
    (case z_len => k_is)
    (case z_abs => k_is)
    (case z_int => k_is)
    (case z_range => k_is)
    (case z_repr => k_is)
    (case z_max => k_is)
    (case z_min => k_is)
    (case z_all => k_is)
    (case z_ord => k_is)
    (case z_isinstance => k_is)
    (case z_str => k_is)
    (case z_bool => k_is)
    (case z_tuple => k_is)
    (case z_list => k_is)
    (case z_sorted => k_is)
    (case z_set => k_is)
    (case z_dict => k_is)
    (case v_MOST_LETTERS => k_is)
    (case v_MOST_DOCUMENTS => k_is)
    (case rN => rfl)
    (case tlN => k_is)
    (case pvN => rfl)
    (case rM => rfl)
    (case tlM => k_is)
    (case pvM => rfl)
    (case rA => rfl)
    (case tlA => k_is)
    (case pvA => rfl)
    (case rI => rfl)
    (case tlI => k_is)
    (case pvI => rfl)
    (case nt => kernel_rfl)
