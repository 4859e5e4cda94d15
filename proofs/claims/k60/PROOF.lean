import PyProof.Rows.All
import Wide.All
import OpenK.AllK
import Wide.FinOn
import HandS.ForMost
import HandS.Style
import HandS.IsInst
import HandS.RaiseMore
import HandS.Wide
import HandS.WideBits
import HandS.TupLe
import HandS.TupAny
import HandS.Flow
import HandS.Replace
import KE.LtData
import KE.SortData
import HandS.Dict
import HandS.ExcInit
import HandS.HotCalls
import KE.KExcInit
import KE.KExcIs
import KE.KIsAll
import HandS.ForSpec
import HandS.Small
import HandS.DictComp
import PyProof.Rows.MatchSeqLen
import PyProof.NeKinds
import PyProof.P3Eq
import PyProof.NeData
import KE.KUnpack
import KE.KDictPairs
import HandS.StrMore
import HandS.TupSets
import PyProof.StrLawsRepr
import HandS.Codes
import PyProof.Rows.StrCase
import PyProof.Rows.ReprOcc
import HandS.SortRule
import HandS.Keys
import HandS.Deep
import HandS.TupLen
import KE.GoesMore
import HandS.Call
import HandS.Comp
import HandS.Defaults
import PySem.Challenge.RW_heldparts_k60_expressions_evaluated
set_option Elab.async false
set_option linter.all false
set_option maxRecDepth 100000
set_option maxHeartbeats 16000000
/-! Promises of defs that are kept where no repr is under way, and what repr says of data. -/
namespace Lay
open PySem PySem.Spec PyProof.Rows L2

/-- no repr is under way -/
abbrev Quiet (A : Around) : Prop := A.guards = some []

structure FnG (P : Program) (w : World) (K : PySem.W.Frag)
    (mg : Str → Option Value) (base : Heap) (CX : CXT) (k : Nat)
    (f : Addr) (fd : FuncData) (ps : List Str) (sp : Sp) : Prop where
  len : ∀ zs G R Z, sp zs G R Z → zs.length = ps.length
  run : ∀ (A : Around) (out : List Env) (t : Shared) (G : Hp) (ar : Args) (ws : List Value) (zs : List V)
    (R : VK) (Z : XK), Room k A → Quiet A → Env0 P w K mg base A out t G →
    BindsTo t fd ar (ps.zip ws) → Vals zs ws → sp zs G R Z →
    codeAny (model P w) A (.call (.ref f) ar) (CR CX out P w G t R Z) t

section
variable {P : Program} {w : World} {K : PySem.W.Frag} {mg : Str → Option Value} {base : Heap}
variable {CX : CXT} {k : Nat} {f : Addr} {fd : FuncData} {ps : List Str} {sp : Sp}
theorem ofOk (F : FnOk P w K mg base CX k f fd ps sp) : FnG P w K mg base CX k f fd ps sp where
  len := F.len
  run := by
    intro A out t G ar ws zs R Z hr _ he hb hv hs
    exact F.run A out t G ar ws zs R Z hr he hb hv hs

theorem FnG.mono {j : Nat} (F : FnG P w K mg base CX j f fd ps sp) (h : j ≤ k) : FnG P w K mg base CX k f fd ps sp where
  len := F.len
  run := by
    intro A out t G ar ws zs R Z hr hq he hb hv hs
    exact F.run A out t G ar ws zs R Z (hr.mono h) hq he hb hv hs
end

section
variable {X : Cx} {CX : CXT} {k : Nat} {f : Addr} {fd : FuncData} {ps ks : List Str} {sp : Sp}
variable {dvs : List V} {ds : List Value} {E : XK} {x : Str} {p pos : Pos} {e : Expr} {es : List Expr} {t tk : TA} {kws : List Keyword}
variable {g : List Value → List Value → List Value} {gV : List V → List V → List V}

/-- what a call's result means for the body that called -/
theorem back {pins : List (Addr × Obj)} {σ : L2.St} {H : Hp} {s : Shared} {Q : VK}
    (hx : Passes CX X E) (I : Inv X pins σ H s) : ∀ (r : Result) (s' : Shared), CR CX X.stack X.prog X.w H s Q E r s' →
    (match r with
      | .ok (.ret u) => EP X pins σ Q u s'
      | .ok _ => False
      | .error b => X.xe b s')
  | .error b, s', hq => hx pins σ H s b s' I hq
  | .ok (.ret u), s', hq => I.after hq
  | .ok .next, _, hq => False.elim hq
  | .ok .brk, _, hq => False.elim hq
  | .ok .cont, _, hq => False.elim hq

theorem runG {pins : List (Addr × Obj)} {σ : L2.St} {H : Hp} {s : Shared} {Q : VK} {us : List Value} {vs : List V}
    (F : FnG X.prog X.w X.K X.mg X.base CX k f fd ps sp) (hr : Room k X.A) (hq : Quiet X.A)
    (hb : Binds X.K fd ps ds) (hd : Vals dvs ds) (hx : Passes CX X E)
    (I : Inv X pins σ H s) (r : Vals vs us) (h : sp (vs ++ dvs) H Q E) :
    wpAny (model X.prog X.w) X.A (call (.ref f) us) (EP X pins σ Q) X.xe s := by
  have r2 := Vals.append r hd
  have hl : (us ++ ds).length = ps.length := r2.length.symm.trans (F.len _ _ _ _ h)
  have main := F.run X.A X.stack s H ⟨us, []⟩ (us ++ ds) (vs ++ dvs) Q E hr hq (Inv.env0 I) (hb s us I.kIn hl) r2 h
  refine wpAny_call (codeAny_mono main ?_)
  intro r s' hh
  have z := back hx I r s' hh
  rcases r with b | fl
  · exact z
  · cases fl <;> exact z

theorem pe_callG (F : FnG X.prog X.w X.K X.mg X.base CX k f fd ps sp) (hr : Room k X.A) (hq : Quiet X.A)
    (hg : Gl X x) (hm : X.mg x = some (.ref f)) (hk : PySem.W.keepIn X.K (.ref f) = true)
    (hb : Binds X.K fd ps ds) (hd : Vals dvs ds) (hx : Passes CX X E) (ha : PA X (e :: es) t)
    (hdb : (x == ("__debug__" : Str)) = false := by decide)
    (he : starEach (e :: es) X.env = (false, eval e X.env) :: starEach es X.env := by rfl)
    (hpl : (backTo pos (starEach es X.env)).any (·.1) = false := by rfl) :
    PE X (.Call (.Name x p) (e :: es) [] pos) (tCall sp dvs E t) where
  run := by
    intro pins s σ H Q I h
    apply wpAny_Call_Name_kw
    refine ld_glob I hg hm ?_ hdb
    have args := ha.run pos pins s σ H _ I h
    refine PySem.W.callWith_K (h₀ := X.base) I.ok.mod.kin hk (thn args ?_) he hpl
    rintro us s1 ⟨vs, H1, I1, r, q⟩
    exact ⟨I1.kIn, runG F hr hq hb hd hx I1 r q⟩

theorem pe_callG0 (F : FnG X.prog X.w X.K X.mg X.base CX k f fd ps sp) (hr : Room k X.A) (hq : Quiet X.A)
    (hg : Gl X x) (hm : X.mg x = some (.ref f)) (hk : PySem.W.keepIn X.K (.ref f) = true)
    (hb : Binds X.K fd ps ds) (hd : Vals dvs ds) (hx : Passes CX X E)
    (hdb : (x == ("__debug__" : Str)) = false := by decide) : PE X (.Call (.Name x p) [] [] pos) (tCall sp dvs E tNil) where
  run := by
    intro pins s σ H Q I h
    apply wpAny_Call_Name_kw
    refine ld_glob I hg hm ?_ hdb
    exact PySem.W.callWith_K0 I.kIn hk (runG (us := []) F hr hq hb hd hx I .nil h)
end

section
variable {P : Program} {w : World} {K : PySem.W.Frag} {mg : Str → Option Value} {base : Heap}
/-- a def by its body, where no repr is under way -/
theorem okG {x qual : Str} {st : Stmt} {f : Addr} {fd : FuncData} {N ps : List Str} {k : Nat} {sp : Sp}
    (F : Fun K x qual st f fd) (S : FnScope N ps (defScope st))
    (len : ∀ zs G R Z, sp zs G R Z → zs.length = ps.length)
    (body : ∀ (cv : Value) (A : Around) (out : List Env) (t : Shared) (G : Hp) (zs : List V) (R : VK) (Z : XK),
      Room k (A.deeper (envOfC qual (defScope st) t.heap.objs.size f cv)) → Quiet A → sp zs G R Z →
      ∃ b, PSs (cxOf CX0 P w K mg base N qual (defScope st) f cv A out t G Z).nox (defBody st) b ∧
        b { nx := fun _ G' => R .non G', rt := R } (start N zs) G) :
    FnG P w K mg base CX0 (k + 1) f fd ps sp where
  len := len
  run := by
    obtain ⟨oc, od, kV, dc, pm, an, cv, ct, sl, rfl, lk, hcd⟩ := F.ex
    intro A out t G ar ws zs R Z hr hq e0 hb r hsp
    have old : ∀ b o, base.get? b = some o → t.heap.get? b = some o := fun b o q => (e0.bs b o q).1
    have KX : K.In t.heap := e0.mod.kin.keeps old
    have lim : t.heap.NoLimit := e0.mod.nolimit.keeps old
    obtain ⟨b, hP, hB⟩ := body cv A out t G zs R Z (hr.deeper _) hq hsp
    have kinds : ∀ y ∈ ps.zip ws, (defScope st).names.lookup y.1 = some .local ∨
        ((defScope st).names.lookup y.1 = some .cell ∧ ((cellsFrom (t.heap.objs.size + 1) (defScope st).names []).lookup y.1).isSome = true) := by
      rintro ⟨n, v⟩ hy
      have hn : n ∈ ps := (List.of_mem_zip hy).1
      exact (S.par n hn).imp id fun q => ⟨q, PySem.W.cellsFrom_some _ _ _ (.inl q)⟩
    refine codeAny_call_function hr.depth (KX _ _ lk) rfl S.co S.gen rfl (PySem.W.codeRec_of KX hcd) (hb _ _ _ _ ?_)
    refine wpAny_newFunctionEnv_cells S.kind kinds ?_
    rintro env rfl s1 x
    refine ⟨lim.keeps x.toInCall.keep, codeAny_func ?_⟩
    have I0 := inv_start (CX := CX0) (E := Z) S hr.hd e0 (len _ _ _ _ hsp) r x
    refine wpAny_mono (hP.nox.run [] s1 (start N zs) G _ I0 hB) ?_ fun _ _ hz => hz
    intro fl s' hs
    cases fl with
    | ret u =>
      obtain ⟨v, _, G', J, rv, q⟩ := hs
      exact ⟨v, G', J.os, J.bare, J.base, J.hok, rv, q⟩
    | next =>
      obtain ⟨_, G', J, q⟩ := hs
      exact ⟨V.non, G', J.os, J.bare, J.base, J.hok, rfl, q⟩
    | brk => exact (hs.choose_spec.choose_spec.2 : False).elim
    | cont => exact (hs.choose_spec.choose_spec.2 : False).elim
end

/-! ### repr of data -/
section
variable {X : Cx}
/-- the text of data -/
def rRepr (K : PySem.W.Frag) : List V → Hp → VK → Prop := fun xs H Q =>
  ∃ v d, xs = [v] ∧ Dp K H v d ∧ d.showable = true ∧ d.depth ≤ 60 ∧ d.shown.length ≤ sizeLine ∧ Q (.str d.shown) H
theorem noDict : ∀ (d : PyData) {K : PySem.W.Frag} {H : Hp} {v : V}, Dp K H v d → d.hasDict = false := by
  have all : ∀ n, (∀ d : PyData, sizeOf d < n → ∀ {K : PySem.W.Frag} {H : Hp} {v : V}, Dp K H v d → d.hasDict = false) := by
    intro n
    induction n with
    | zero => intro d h; omega
    | succ n ih =>
      have lst : ∀ (ds : List PyData) {K : PySem.W.Frag} {H : Hp} {vs : List V}, (∀ d ∈ ds, sizeOf d < n) → DpAll K H vs ds → PyData.hasDictAll ds = false := by
        intro ds
        induction ds with
        | nil => intros; simp [PyData.hasDictAll]
        | cons d r ihr =>
          intro K H vs hs h
          cases h with
          | cons h1 h2 =>
            have a := ih d (hs d (List.mem_cons_self ..)) h1
            have b := ihr (fun d' hd' => hs d' (List.mem_cons_of_mem _ hd')) h2
            simp [PyData.hasDictAll, a, b]
      intro d hd K H v h
      cases h with
      | non => simp [PyData.hasDict]
      | bl b => simp [PyData.hasDict]
      | int i => simp [PyData.hasDict]
      | str x => simp [PyData.hasDict]
      | lst hs ha =>
        rename_i ds
        have := lst ds (fun d' hm => by have := List.sizeOf_lt_of_mem hm; simp at hd; omega) ha
        simp [PyData.hasDict, this]
      | tup hs ha =>
        rename_i ds
        have := lst ds (fun d' hm => by have := List.sizeOf_lt_of_mem hm; simp at hd; omega) ha
        simp [PyData.hasDict, this]
  intro d K H v h
  exact all (sizeOf d + 1) d (by omega) h

theorem call_repr_D (hu : X.A.units + 64 < cLine) (hq : Quiet X.A) : CallR X (.builtin "repr") (rRepr X.K) := by
  intro pins s σ H xs us Q I r h
  obtain ⟨v, d, rfl, hd, hs, hdep, hsz, q⟩ := h
  obtain ⟨u, rfl, ru⟩ := vals1 r
  obtain ⟨as, rd⟩ := Dp.reads I d v u hd ru
  have nd := noDict d hd
  cases hd with
  | non =>
    cases ru
    rw [PyData.shown_none] at q
    exact PySem.P.repr_of_none ⟨.str _, H, I.tok _, ⟨_, rfl⟩, q⟩
  | bl b =>
    cases ru
    rw [PyData.shown_bool] at q
    exact PySem.P.repr_of_bool ⟨.str _, H, I.tok _, ⟨_, rfl⟩, q⟩
  | int i =>
    obtain ⟨t, rfl⟩ := ru
    rw [PyData.shown_int] at q
    have hs : i.natAbs.log2 < 1920 := by simpa [PyData.showable] using hs
    exact PySem.P.repr_of_int hs ⟨.str _, H, I.tok _, ⟨_, rfl⟩, q⟩
  | str x =>
    obtain ⟨t, rfl⟩ := ru
    rw [PyData.shown_str] at q hsz
    exact PySem.P.repr_of_str ⟨.str _, H, I.tok _, ⟨_, rfl⟩, q⟩ hsz
  | lst hs' ha =>
    cases ru
    refine repr_of_reads' rd hs (fun z => by rw [nd] at z; cases z) hq (by omega) (fun _ _ z => z) ?_ hsz
    intro h' u tk keep
    exact ⟨.str _, H, I.kept keep, ⟨u, rfl⟩, q⟩
  | tup hs' ha =>
    cases ru
    refine repr_of_reads' rd hs (fun z => by rw [nd] at z; cases z) hq (by omega) (fun _ _ z => z) ?_ hsz
    intro h' u tk keep
    exact ⟨.str _, H, I.kept keep, ⟨u, rfl⟩, q⟩
end

/-! ### a < b of data -/
section
variable {X : Cx}
def rLtD (K : PySem.W.Frag) : R2 := fun x y H Q => ∃ d e, Dp K H x d ∧ Dp K H y e ∧
  PySem.W.alike d e = true ∧ d ≠ .none ∧ min d.depth e.depth ≤ 60 ∧ Q (.bl (PySem.W.dataLt d e)) H
theorem op_ltD (hu : X.A.units + 64 < cLine) : OpR X (compareOp .Lt) (rLtD X.K) := by
  intro pins s σ H x y v u Q I rx ry h
  obtain ⟨d, e, hd, he, al, nn, hm, q⟩ := h
  obtain ⟨as, r1⟩ := Dp.reads I d x v hd rx
  obtain ⟨bs, r2⟩ := Dp.reads I e y u he ry
  have hroom : X.A.units + min d.depth e.depth < cLine := by omega
  exact PySem.W.rcLt_alike d e X.A s v u as bs r1 r2 al nn hroom _ _ _ _ ⟨.bl _, H, I, rfl, q⟩
end

/-! ### the law's own call: nothing of repr stands around it -/
section
variable {P : Program} {w : World} {K : PySem.W.Frag} {mg : Str → Option Value} {k : Nat} {fa : Addr} {fd : FuncData} {x : Str} {sp : Sp}
/-- what the entry sees of the heap: at most the script at `a` is tracked -/
structure Ent (H : Hp) (a : Addr) (t : Shared) (vs : List Value) : Prop where
  ok : HOk P w H t.heap
  at' : ∀ b, H b ≠ none → b = a ∧ ∃ o u, H b = some (.frz o u)
  obj : t.heap.get? a = some { cls := .type "list", data := .seq vs.toArray }

theorem Ent.off {H : Hp} {a : Addr} {t : Shared} {vs : List Value} (E : Ent (P := P) (w := w) H a t vs) {b : Addr} {o : Obj}
    {es : Array DictEntry} {n : Nat} (h : t.heap.get? b = some o) (hd : o.data = .dict es n) : H b = none := by
  rcases Classical.em (H b = none) with z | z
  · exact z
  · have e := (E.at' b z).1
    subst e
    have same := h.symm.trans E.obj
    injection same with same
    rw [same] at hd
    exact nomatch hd

theorem Ent.run {H : Hp} {a : Addr} {t : Shared} {vs : List Value} {mb : Str → Option Value}
    (E : Ent (P := P) (w := w) H a t vs) (KX : K.In t.heap) (hns : t.heap.Ns mainGlobals mg) (hb : t.heap.Ns builtinsNs mb)
    (hbb : ∀ y : Str, y ≠ "__name__" → mb y = bootBuiltins y) (lim : t.heap.NoLimit) (hg : t.gens = #[])
    (hK : H a ≠ none → K.lookup a = none) (hr : Room k callerA)
    (F : ∀ base : Heap, K.In base → base.Ns mainGlobals mg → FnG P w K mg base CX0 k fa fd [x] sp)
    (hbind : ∀ (s : Shared) (u : Value), BindsTo s fd ⟨[u], []⟩ [(x, u)])
    (hsp : sp [.ref a] H (fun v _ => v = .bl true) fun _ _ _ => False) :
    codeAny (model P w) callerA (.call (.ref fa) ⟨[.ref a], []⟩)
      (fun r s' => r = .ok (.ret (.bool true)) ∧ OldK t.heap s'.heap ∧ s'.os = t.os ∧ AllBare s'.gens) t := by
  have take : ∀ {b : Addr} {m : Str → Option Value}, t.heap.Ns b m → (hidT t.heap H).Ns b m := by
    rintro b m ⟨o, es, n, h1, h2, h3⟩
    exact ⟨o, es, n, hidT_get h1 (E.off h1 h2), h2, h3⟩
  have Kb : K.In (hidT t.heap H) := by
    intro b o hbo
    refine hidT_get (KX b o hbo) ?_
    rcases Classical.em (H b = none) with z | z
    · exact z
    · have e := (E.at' b z).1
      subst e
      rw [hK z] at hbo
      cases hbo
  obtain ⟨mc, c1, c2⟩ := lim
  have M : Mod K mg (hidT t.heap H) := { kin := Kb, glob := take hns, blt := ⟨mb, take hb, hbb⟩, nolimit := ⟨mc, take c1, c2⟩ }
  have e0 : Env0 P w K mg (hidT t.heap H) callerA [] t H := by
    refine ⟨rfl, M, fun b o z => of_hidT z, Nat.le_of_eq (hidT_size _ _), trivial, ?_, E.ok, .of_eq hg⟩
    intro b hb
    cases hb
  have main := (F _ Kb (take hns)).run callerA [] t H ⟨[.ref a], []⟩ [.ref a] [.ref a] _ _ hr rfl e0 (hbind t _) (.cons rfl .nil) hsp
  refine codeAny_mono main ?_
  intro r s' h
  rcases r with b | fl
  · exact False.elim h
  · cases fl with
    | next => exact False.elim h
    | brk => exact False.elim h
    | cont => exact False.elim h
    | ret u =>
      obtain ⟨v, H', hos, hbare, hun, hok', rv, hv⟩ := h
      have hv' : v = .bl true := hv
      subst hv'
      have hu : u = Value.bool true := rv
      subst hu
      refine ⟨rfl, OldK.of_keep ?_, hos, hbare⟩
      intro b o hbo
      rcases Classical.em (H b = none) with z | z
      · exact hun.keep b o hbo z (fun y => nomatch y) (fun y => nomatch y)
      · obtain ⟨_, ob, xs, hz⟩ := E.at' b z
        have one := (E.ok b _ hz).1
        have two := (hok' b _ (hun.frzs b ob _ hz)).1
        rw [hbo] at one
        injection one with one
        rw [one]
        exact two

theorem callG {a : Addr} {t : Shared} {vs : List Value} {ns : List Int} {mb : Str → Option Value}
    (KX : K.In t.heap) (hns : t.heap.Ns mainGlobals mg) (hb : t.heap.Ns builtinsNs mb)
    (hbb : ∀ y : Str, y ≠ "__name__" → mb y = bootBuiltins y) (lim : t.heap.NoLimit) (hg : t.gens = #[])
    (ha : t.heap.get? a = some { cls := .type "list", data := .seq vs.toArray }) (hi : IntsAre vs ns) (hl : ns.length ≤ sizeLine)
    (hr : Room k callerA)
    (F : ∀ base : Heap, K.In base → base.Ns mainGlobals mg → FnG P w K mg base CX0 k fa fd [x] sp)
    (hbind : ∀ (s : Shared) (u : Value), BindsTo s fd ⟨[u], []⟩ [(x, u)])
    (hsp : ∀ H : Hp, Only H → SqL K H a (ns.map V.int) → sp [.ref a] H (fun v _ => v = .bl true) fun _ _ _ => False) :
    codeAny (model P w) callerA (.call (.ref fa) ⟨[.ref a], []⟩)
      (fun r s' => r = .ok (.ret (.bool true)) ∧ OldK t.heap s'.heap ∧ s'.os = t.os ∧ AllBare s'.gens) t := by
  have rv := vals_ints hi
  have hlv : vs.length = ns.length := by simpa using rv.length.symm
  rcases Classical.em (K.lookup a = none) with hk | hk
  · let H : Hp := fun b => if b = a then some (.frz { cls := .type "list", data := .seq vs.toArray } (.lst (ns.map V.int))) else none
    have ya : H a = some (.frz { cls := .type "list", data := .seq vs.toArray } (.lst (ns.map V.int))) := if_pos rfl
    have no : ∀ b, b ≠ a → H b = none := fun b z => if_neg z
    refine Ent.run (H := H) (vs := vs) ⟨?_, ?_, ha⟩ KX hns hb hbb lim hg (fun _ => hk) hr F hbind (hsp H ?_ (.inl (.inr ⟨_, ya⟩)))
    · intro b o z
      rcases Classical.em (b = a) with e | e
      · subst e
        rw [ya] at z
        injection z with z
        subst z
        exact ⟨ha, by rw [List.length_map]; exact hl, vs, 0, rv, ha⟩
      · rw [no b e] at z
        cases z
    · intro b z
      rcases Classical.em (b = a) with e | e
      · subst e
        exact ⟨rfl, _, _, ya⟩
      · exact absurd (no b e) z
    · intro b
      rcases Classical.em (b = a) with e | e
      · subst e
        exact .inr ⟨_, _, ya⟩
      · exact .inl (no b e)
  · obtain ⟨o, ho⟩ := Option.ne_none_iff_exists'.mp hk
    have same := (KX a o ho).symm.trans ha
    injection same with same
    subst same
    refine Ent.run (H := fun _ => none) (vs := vs) ⟨fun b o z => (nomatch z), fun b z => absurd rfl z, ha⟩ KX hns hb hbb lim hg (fun z => absurd rfl z) hr F hbind
      (hsp _ (fun _ => .inl rfl) (.inr ⟨_, vs.toArray, _, ho, rfl, rfl, rfl, ?_, by simpa using rv⟩))
    rw [List.size_toArray, hlv]
    exact hl

theorem walkG {l : PySem.W.OpenLaw} {n : Nat} {q : Program} {loose : List Str} {XP : (Str → Option Value) → Heap → Prop}
    {YP : World → Heap → Prop} {d : DefRec} {KK : Params → PySem.W.Frag} {spl : PySem.W.Frag → Sp}
    (hn : l.most = some n) (hn2 : n ≤ sizeLine) (hdf : d.params.defaults = []) (hr : Room k callerA)
    (hY : ∀ (w : World) (h : Heap), YP w h → (KK w.params).In h)
    (F : ∀ (w : World) (mg : Str → Option Value) (fa : Addr) (h : Heap), (KK w.params).In h → h.Ns mainGlobals mg → mg d.name = some (.ref fa) →
      ∃ fd : FuncData, (∀ (s : Shared) (u : Value), BindsTo s fd ⟨[u], []⟩ [(x, u)]) ∧
        ∀ base : Heap, (KK w.params).In base → base.Ns mainGlobals mg → FnG l.prog w (KK w.params) mg base CX0 k fa fd [x] (spl (KK w.params)))
    (hsp : ∀ (K : PySem.W.Frag) (H : Hp) (a : Addr) (ns : List Int), ns.length ≤ n → Only H → SqL K H a (ns.map V.int) →
      spl K [.ref a] H (fun v _ => v = .bl true) fun _ _ _ => False) :
    PySem.W.WalkO q loose XP YP l.row.toRowW d [] (fun f vs => PySem.call f vs) := by
  refine Att.attach_call hn hdf ?_
  intro w s₀ s₁ mg mb fa o pm cd doc a vs ns G Y ho hd hcd hmg hobj hints hlen hg
  have KX := hY w _ Y
  obtain ⟨fd, hbind, hF⟩ := F w mg fa _ KX G.T.g hmg
  exact callG KX G.T.g G.T.b G.T.builtins G.T.nolimit hg hobj hints (Nat.le_trans hlen hn2) hr hF hbind (fun H h1 h2 => hsp _ H a ns hlen h1 h2)
end
end Lay
namespace Lay
open PySem PySem.Spec PyProof.Rows L2
/-- a def of the text stands under its name and keeps a promise -/
def Has (P : Program) (w : World) (K : PySem.W.Frag) (mg : Str → Option Value) (base : Heap)
    (k : Nat) (x : Str) (ps : List Str) (sp : Sp) : Prop :=
  ∃ f fd, FnG P w K mg base CX0 k f fd ps sp ∧ mg x = some (.ref f) ∧
    PySem.W.keepIn K (.ref f) = true ∧ L2.Binds K fd ps [] ∧
    (∀ ks : List Str, ks.Perm ps → ∀ (s : Shared) (ws : List Value), ws.length = ks.length →
      ks = ps → BindsTo s fd ⟨[], ks.zip ws⟩ (ps.zip ws))
section
variable {X : Cx} {k : Nat} {ps : List Str} {sp : Sp} {x : Str} {p pos : Pos} {e : Expr} {es : List Expr} {t : TA}
theorem pe_c (D : Has X.prog X.w X.K X.mg X.base k x ps sp) (hr : Room k X.A) (hq : Quiet X.A) (ha : PA X (e :: es) t)
    (hg : Gl X x := by rfl)
    (hdb : (x == ("__debug__" : Str)) = false := by decide)
    (he : starEach (e :: es) X.env = (false, eval e X.env) :: starEach es X.env := by rfl)
    (hpl : (backTo pos (starEach es X.env)).any (·.1) = false := by rfl) :
    PE X (.Call (.Name x p) (e :: es) [] pos) (tCall sp [] E0 t) := by
  obtain ⟨f, fd, F, gm, kp, b, _⟩ := D
  exact pe_callG F hr hq hg gm kp b .nil pass0 ha hdb he hpl
theorem pe_c0 (D : Has X.prog X.w X.K X.mg X.base k x ps sp) (hr : Room k X.A) (hq : Quiet X.A)
    (hg : Gl X x := by rfl)
    (hdb : (x == ("__debug__" : Str)) = false := by decide) :
    PE X (.Call (.Name x p) [] [] pos) (tCall sp [] E0 tNil) := by
  obtain ⟨f, fd, F, gm, kp, b, _⟩ := D
  exact pe_callG0 F hr hq hg gm kp b .nil pass0 hdb
/-- f(a = .., b = ..): every parameter by its name, in the def's order -/
theorem pe_ck {kws : List Keyword} {tk : TA} (D : Has X.prog X.w X.K X.mg X.base k x ps sp) (hr : Room k X.A) (hq : Quiet X.A) (hkw : PK X kws tk)
    (hks : (backToKw pos (keywordEach kws X.env)).filterMap (·.1) = ps := by rfl)
    (hg : Gl X x := by rfl)
    (hall : (backToKw pos (keywordEach kws X.env)).all (·.1.isSome) = true := by rfl)
    (hdb : (x == ("__debug__" : Str)) = false := by decide)
    (hpl : ((backTo pos (starEach [] X.env)).any (·.1) || (backToKw pos (keywordEach kws X.env)).any (·.1.isNone)) = false := by rfl) :
    PE X (.Call (.Name x p) [] kws pos) (tCall sp [] E0 tk) where
  run := by
    obtain ⟨f, fd, F, gm, kp, _, b⟩ := D
    intro pins s σ H Q I h
    apply wpAny_Call_Name_kw
    refine ld_glob I hg gm ?_ hdb
    refine PySem.W.callWith_KW0 (h₀ := X.base) I.ok.mod.kin kp hall (thn (hkw.run pos pins s σ H _ I h) ?_) hpl
    rintro ws s2 ⟨vs, H2, I2, r, q⟩
    refine ⟨I2.kIn, ?_⟩
    rw [List.append_nil] at q
    have hl : ws.length = ps.length := r.length.symm.trans (F.len _ _ _ _ q)
    rw [hks]
    have main := F.run X.A X.stack s2 H2 ⟨[], ps.zip ws⟩ ws vs Q E0 hr hq (Inv.env0 I2) (b ps (List.Perm.refl _) s2 ws hl rfl) r q
    refine wpAny_call (codeAny_mono main ?_)
    intro r s' hh
    have z := back pass0 I2 r s' hh
    rcases r with b | fl
    · exact z
    · cases fl <;> exact z
end
section
variable {P : Program} {w : World} {K : PySem.W.Frag} {mg : Str → Option Value} {base : Heap}
theorem has {k : Nat} {x : Str} {qual : Str} {st : Stmt} {f : Addr} {fd : FuncData} {ps : List Str} {sp : Sp}
    (F : Fun K x qual st f fd) (gm : mg x = some (.ref f)) (O : FnG P w K mg base CX0 k f fd ps sp)
    (h : ∀ (kV doc pm : Value) (an : Option Addr) (cdv ct : Value) (us : List Value), us.length = ps.length →
      bindArgs (PySem.W.fnOf x qual (defArgs st) (defBody st) (defScope st) .none kV doc pm an cdv ct) ⟨us, []⟩ = pure (ps.zip us))
    (h2 : ∀ (kV doc pm : Value) (an : Option Addr) (cdv ct : Value) (us : List Value), us.length = ps.length →
      bindArgs (PySem.W.fnOf x qual (defArgs st) (defBody st) (defScope st) .none kV doc pm an cdv ct) ⟨[], ps.zip us⟩ = pure (ps.zip us)) :
    Has P w K mg base k x ps sp := by
  refine ⟨f, fd, O, gm, F.kp, F.binds h, ?_⟩
  obtain ⟨oc, od, kV, dc, pm, an, cv, ct, sl, rfl, lk, hcd⟩ := F.ex
  rintro ks _ s ws hl rfl
  exact .of_eq (h2 kV dc pm an cv ct ws hl)
end
section
variable {X : Cx} {x : Str} {pos : Pos}
/-- a constant of the module: a text, a number, an object -/
theorem pe_gS {z : Str} {t : Tok} (hm : X.mg x = some (.str z t)) (hg : Gl X x := by rfl) (hd : (x == ("__debug__" : Str)) = false := by decide) : PE X (.Name x pos) (tC (.str z)) := pe_glob hg hm ⟨t, rfl⟩ hd
theorem pe_gI {z : Int} {t : Tok} (hm : X.mg x = some (.int z t)) (hg : Gl X x := by rfl) (hd : (x == ("__debug__" : Str)) = false := by decide) : PE X (.Name x pos) (tC (.int z)) := pe_glob hg hm ⟨t, rfl⟩ hd
theorem pe_gR {a : Addr} (hm : X.mg x = some (.ref a)) (hg : Gl X x := by rfl) (hd : (x == ("__debug__" : Str)) = false := by decide) : PE X (.Name x pos) (tC (.ref a)) := pe_glob hg hm rfl hd
end
end Lay
namespace Lay
open PySem PySem.Spec PyProof.Rows L2
abbrev St := L2.St
/-! ### loops by invariants -/
section
variable {K : PySem.W.Frag} {J : It} {g : TG} {tb : TS} {tt : TT} {te : TE} {vs : List Nat} {D : Ends} {σ : L2.St} {H : Hp} {wi : TI} {c : TT} {Q : VK}
def Loop (J : It) (g : TG) (tb : TS) (D : Ends) (σ : L2.St) (H : Hp) : Prop := tFor (fun _ G R => R J G) g tb D σ H
theorem tFor_eq : tFor wi g tb D σ H = wi σ H fun J G => Loop J g tb D σ G := rfl
def WLoop (c : TT) (tb : TS) (D : Ends) (σ : L2.St) (H : Hp) : Prop := tWhile c tb D σ H
theorem tWhile_eq : tWhile c tb D σ H = WLoop c tb D σ H := rfl
/-- a comprehension's turns, its new list at L -/
def CLoop (J : It) (g : TG) (tt : TT) (te : TE) (vs : List Nat) (σ : L2.St) (L : Addr) (Q : VK) (H : Hp) : Prop :=
  ∃ W : Nat → Nat → Hp → Prop, (∃ m, W 0 m H) ∧ ∀ i m G, W i m G →
    (J.stop i G ∧ Q (.ref L) G) ∨ (J.go i G ∧ ∃ N : Hp → Prop, (∀ G', N G' → ∃ m', m' < m ∧ W (i + 1) m' G') ∧
      ∀ x G', J.yld i G x G' → g x (wipe σ vs) G' fun σ2 H2 => wipe σ2 vs = wipe σ vs ∧ tt σ2 H2 fun b H3 =>
        if b = true then te σ2 H3 fun y H4 => ∃ acc, H4 L = some (.lst acc) ∧ acc.length < sizeLine ∧ N (upd H4 L (.lst (acc ++ [y]))) else N H3)
theorem tLc_eq : tLc wi g tt te vs σ H Q = wi σ H fun J G => ∀ L, G L = none → CLoop J g tt te vs σ L Q (upd G L (.lst [])) := rfl

theorem Loop.by (n : Nat) (I : Nat → L2.St → Hp → Prop) (h0 : I 0 σ H)
    (hs : ∀ i τ G, i < n → I i τ G → J.go i G ∧ ∀ x G', J.yld i G x G' →
      g x τ G' fun τ2 G2 => tb { D with nx := I (i + 1), ct := I (i + 1), bk := D.nx } τ2 G2)
    (hd : ∀ τ G, I n τ G → J.stop n G ∧ D.nx τ G) : Loop J g tb D σ H := by
  refine ⟨fun i m τ G => m + i = n ∧ I i τ G, ⟨n, rfl, h0⟩, ?_⟩
  rintro i m τ G ⟨hm, hi⟩
  by_cases hlt : i < n
  · obtain ⟨a, b⟩ := hs i τ G hlt hi
    exact .inr ⟨a, I (i + 1), fun _ _ h => ⟨m - 1, by omega, by omega, h⟩, b⟩
  · have e : i = n := by omega
    subst e
    exact .inl (hd τ G hi)
theorem Loop.list {a : Addr} (xs : List V) (I : Nat → L2.St → Hp → Prop) (h0 : I 0 σ H) (hl : ∀ i τ G, I i τ G → SqL K G a xs)
    (hs : ∀ i x τ G, xs[i]? = some x → I i τ G → g x τ G fun τ2 G2 => tb { D with nx := I (i + 1), ct := I (i + 1), bk := D.nx } τ2 G2)
    (hd : ∀ τ G, I xs.length τ G → D.nx τ G) : Loop (Itl K a) g tb D σ H := by
  refine Loop.by xs.length I h0 ?_ fun τ G h => ⟨⟨xs, hl _ _ _ h, Nat.le_refl _⟩, hd τ G h⟩
  intro i τ G hi h
  have q := hl i τ G h
  have hx : xs[i]? = some xs[i] := List.getElem?_eq_getElem hi
  refine ⟨⟨xs, xs[i], q, hx⟩, ?_⟩
  rintro x G' ⟨rfl, hx'⟩
  exact hs i x τ _ (hx' xs q) h
theorem Loop.tup {a : Addr} (xs : List V) (I : Nat → L2.St → Hp → Prop) (h0 : I 0 σ H) (hl : ∀ i τ G, I i τ G → SqT K G a xs)
    (hs : ∀ i x τ G, xs[i]? = some x → I i τ G → g x τ G fun τ2 G2 => tb { D with nx := I (i + 1), ct := I (i + 1), bk := D.nx } τ2 G2)
    (hd : ∀ τ G, I xs.length τ G → D.nx τ G) : Loop (Itt K a) g tb D σ H := by
  refine Loop.by xs.length I h0 ?_ fun τ G h => ⟨⟨xs, hl _ _ _ h, Nat.le_refl _⟩, hd τ G h⟩
  intro i τ G hi h
  have q := hl i τ G h
  have hx : xs[i]? = some xs[i] := List.getElem?_eq_getElem hi
  refine ⟨⟨xs, xs[i], q, hx⟩, ?_⟩
  rintro x G' ⟨rfl, hx'⟩
  exact hs i x τ _ (hx' xs q) h
theorem Loop.range {lo : Int} {n : Nat} (I : Nat → L2.St → Hp → Prop) (h0 : I 0 σ H)
    (hs : ∀ i τ G, i < n → I i τ G → g (.int (lo + i)) τ G fun τ2 G2 => tb { D with nx := I (i + 1), ct := I (i + 1), bk := D.nx } τ2 G2)
    (hd : ∀ τ G, I n τ G → D.nx τ G) : Loop (Itr lo n) g tb D σ H := by
  refine Loop.by n I h0 ?_ fun τ G h => ⟨Nat.le_refl _, hd τ G h⟩
  intro i τ G hi h
  refine ⟨hi, ?_⟩
  rintro x G' ⟨rfl, rfl⟩
  exact hs i τ _ hi h
theorem Loop.str {x : Str} (I : Nat → L2.St → Hp → Prop) (h0 : I 0 σ H)
    (hs : ∀ i k τ G, x.cps.toList[i]? = some k → I i τ G → g (.str ⟨#[k]⟩) τ G fun τ2 G2 => tb { D with nx := I (i + 1), ct := I (i + 1), bk := D.nx } τ2 G2)
    (hd : ∀ τ G, I x.cps.toList.length τ G → D.nx τ G) : Loop (Its x) g tb D σ H := by
  have size : x.cps.size = x.cps.toList.length := by simp
  refine Loop.by x.cps.toList.length I h0 ?_ fun τ G h => ⟨by show x.cps.size ≤ _; omega, hd τ G h⟩
  intro i τ G hi h
  refine ⟨by show i < x.cps.size; omega, ?_⟩
  rintro v G' ⟨rfl, k, hk, rfl⟩
  exact hs i k τ _ (by rw [Array.getElem?_toList]; exact hk) h
/-- for x, y in zip(xs, ys): each pair is a new tuple -/
theorem Loop.zip {a b : Addr} (xs ys : List V) (n : Nat) (hn : n = min xs.length ys.length) (I : Nat → L2.St → Hp → Prop) (h0 : I 0 σ H)
    (hl : ∀ i τ G, I i τ G → SqL K G a xs ∧ SqL K G b ys)
    (hs : ∀ i x y T τ G, xs[i]? = some x → ys[i]? = some y → I i τ G → G T = none → g (.ref T) τ (upd G T (.tup [x, y])) fun τ2 G2 => tb { D with nx := I (i + 1), ct := I (i + 1), bk := D.nx } τ2 G2)
    (hd : ∀ τ G, I n τ G → D.nx τ G) : Loop (Itz K a b) g tb D σ H := by
  refine Loop.by n I h0 ?_ fun τ G h => ⟨⟨xs, ys, (hl _ _ _ h).1, (hl _ _ _ h).2, by omega⟩, hd τ G h⟩
  intro i τ G hi h
  obtain ⟨q1, q2⟩ := hl i τ G h
  have hx : xs[i]? = some (xs[i]'(by omega)) := List.getElem?_eq_getElem _
  have hy : ys[i]? = some (ys[i]'(by omega)) := List.getElem?_eq_getElem _
  refine ⟨⟨xs, ys, _, _, q1, q2, hx, hy⟩, ?_⟩
  rintro v G' ⟨T, x, y, rfl, hT, rfl, hx', hy'⟩
  exact hs i x y T τ G (hx' _ q1) (hy' _ q2) h hT
/-- a while: N is `fun τ' G' => ∃ m', m' < m ∧ I m' τ' G'` as a rule -/
theorem WLoop.by (I : Nat → L2.St → Hp → Prop) (m : Nat) (h0 : I m σ H)
    (hs : ∀ m τ G, I m τ G → c τ G fun b G1 => if b = true then ∃ N : L2.St → Hp → Prop, (∀ τ' G', N τ' G' → ∃ m', m' < m ∧ I m' τ' G') ∧
      tb { D with nx := N, ct := N, bk := D.nx } τ G1 else D.nx τ G1) : WLoop c tb D σ H := ⟨I, ⟨m, h0⟩, hs⟩
theorem CLoop.by {L : Addr} (n : Nat) (I : Nat → List V → Hp → Prop) (h0 : I 0 [] H) (hL : H L = some (.lst []))
    (hs : ∀ i acc G, i < n → I i acc G → G L = some (.lst acc) → J.go i G ∧ ∀ N : Hp → Prop, (∀ a G', I (i + 1) a G' → G' L = some (.lst a) → N G') →
      ∀ x G', J.yld i G x G' → g x (wipe σ vs) G' fun σ2 H2 => wipe σ2 vs = wipe σ vs ∧ tt σ2 H2 fun b H3 =>
        if b = true then te σ2 H3 fun y H4 => ∃ a, H4 L = some (.lst a) ∧ a.length < sizeLine ∧ N (upd H4 L (.lst (a ++ [y]))) else N H3)
    (hd : ∀ acc G, I n acc G → G L = some (.lst acc) → J.stop n G ∧ Q (.ref L) G) : CLoop J g tt te vs σ L Q H := by
  refine ⟨fun i m G => m + i = n ∧ ∃ acc, I i acc G ∧ G L = some (.lst acc), ⟨n, rfl, [], h0, hL⟩, ?_⟩
  rintro i m G ⟨hm, acc, hi, hG⟩
  by_cases hlt : i < n
  · obtain ⟨a, b⟩ := hs i acc G hlt hi hG
    exact .inr ⟨a, fun G' => ∃ acc, I (i + 1) acc G' ∧ G' L = some (.lst acc), fun _ h => ⟨m - 1, by omega, by omega, h⟩,
      b _ fun a G' h1 h2 => ⟨a, h1, h2⟩⟩
  · have e : i = n := by omega
    subst e
    exact .inl (hd acc G hi hG)
theorem CLoop.list {L a : Addr} (xs : List V) (I : Nat → List V → Hp → Prop) (h0 : I 0 [] H) (hL : H L = some (.lst []))
    (hl : ∀ i acc G, I i acc G → G L = some (.lst acc) → SqL K G a xs)
    (hs : ∀ i x acc G, xs[i]? = some x → I i acc G → G L = some (.lst acc) → ∀ N : Hp → Prop, (∀ a G', I (i + 1) a G' → G' L = some (.lst a) → N G') →
      g x (wipe σ vs) G fun σ2 H2 => wipe σ2 vs = wipe σ vs ∧ tt σ2 H2 fun b H3 =>
        if b = true then te σ2 H3 fun y H4 => ∃ a, H4 L = some (.lst a) ∧ a.length < sizeLine ∧ N (upd H4 L (.lst (a ++ [y]))) else N H3)
    (hd : ∀ acc G, I xs.length acc G → G L = some (.lst acc) → Q (.ref L) G) : CLoop (Itl K a) g tt te vs σ L Q H := by
  refine CLoop.by xs.length I h0 hL ?_ fun acc G h1 h2 => ⟨⟨xs, hl _ _ _ h1 h2, Nat.le_refl _⟩, hd acc G h1 h2⟩
  intro i acc G hi h1 h2
  have q := hl i acc G h1 h2
  have hx : xs[i]? = some xs[i] := List.getElem?_eq_getElem hi
  refine ⟨⟨xs, xs[i], q, hx⟩, ?_⟩
  rintro N hN x G' ⟨rfl, hx'⟩
  exact hs i x acc _ (hx' xs q) h1 h2 N hN
theorem CLoop.tup {L a : Addr} (xs : List V) (I : Nat → List V → Hp → Prop) (h0 : I 0 [] H) (hL : H L = some (.lst []))
    (hl : ∀ i acc G, I i acc G → G L = some (.lst acc) → SqT K G a xs)
    (hs : ∀ i x acc G, xs[i]? = some x → I i acc G → G L = some (.lst acc) → ∀ N : Hp → Prop, (∀ a G', I (i + 1) a G' → G' L = some (.lst a) → N G') →
      g x (wipe σ vs) G fun σ2 H2 => wipe σ2 vs = wipe σ vs ∧ tt σ2 H2 fun b H3 =>
        if b = true then te σ2 H3 fun y H4 => ∃ a, H4 L = some (.lst a) ∧ a.length < sizeLine ∧ N (upd H4 L (.lst (a ++ [y]))) else N H3)
    (hd : ∀ acc G, I xs.length acc G → G L = some (.lst acc) → Q (.ref L) G) : CLoop (Itt K a) g tt te vs σ L Q H := by
  refine CLoop.by xs.length I h0 hL ?_ fun acc G h1 h2 => ⟨⟨xs, hl _ _ _ h1 h2, Nat.le_refl _⟩, hd acc G h1 h2⟩
  intro i acc G hi h1 h2
  have q := hl i acc G h1 h2
  have hx : xs[i]? = some xs[i] := List.getElem?_eq_getElem hi
  refine ⟨⟨xs, xs[i], q, hx⟩, ?_⟩
  rintro N hN x G' ⟨rfl, hx'⟩
  exact hs i x acc _ (hx' xs q) h1 h2 N hN
theorem CLoop.range {L : Addr} {lo : Int} {n : Nat} (I : Nat → List V → Hp → Prop) (h0 : I 0 [] H) (hL : H L = some (.lst []))
    (hs : ∀ i acc G, i < n → I i acc G → G L = some (.lst acc) → ∀ N : Hp → Prop, (∀ a G', I (i + 1) a G' → G' L = some (.lst a) → N G') →
      g (.int (lo + i)) (wipe σ vs) G fun σ2 H2 => wipe σ2 vs = wipe σ vs ∧ tt σ2 H2 fun b H3 =>
        if b = true then te σ2 H3 fun y H4 => ∃ a, H4 L = some (.lst a) ∧ a.length < sizeLine ∧ N (upd H4 L (.lst (a ++ [y]))) else N H3)
    (hd : ∀ acc G, I n acc G → G L = some (.lst acc) → Q (.ref L) G) : CLoop (Itr lo n) g tt te vs σ L Q H := by
  refine CLoop.by n I h0 hL ?_ fun acc G h1 h2 => ⟨Nat.le_refl _, hd acc G h1 h2⟩
  intro i acc G hi h1 h2
  refine ⟨hi, ?_⟩
  rintro N hN x G' ⟨rfl, rfl⟩
  exact hs i acc _ hi h1 h2 N hN
theorem CLoop.str {L : Addr} {x : Str} (I : Nat → List V → Hp → Prop) (h0 : I 0 [] H) (hL : H L = some (.lst []))
    (hs : ∀ i k acc G, x.cps.toList[i]? = some k → I i acc G → G L = some (.lst acc) → ∀ N : Hp → Prop, (∀ a G', I (i + 1) a G' → G' L = some (.lst a) → N G') →
      g (.str ⟨#[k]⟩) (wipe σ vs) G fun σ2 H2 => wipe σ2 vs = wipe σ vs ∧ tt σ2 H2 fun b H3 =>
        if b = true then te σ2 H3 fun y H4 => ∃ a, H4 L = some (.lst a) ∧ a.length < sizeLine ∧ N (upd H4 L (.lst (a ++ [y]))) else N H3)
    (hd : ∀ acc G, I x.cps.toList.length acc G → G L = some (.lst acc) → Q (.ref L) G) : CLoop (Its x) g tt te vs σ L Q H := by
  have size : x.cps.size = x.cps.toList.length := by simp
  refine CLoop.by x.cps.toList.length I h0 hL ?_ fun acc G h1 h2 => ⟨by show x.cps.size ≤ _; omega, hd acc G h1 h2⟩
  intro i acc G hi h1 h2
  refine ⟨by show i < x.cps.size; omega, ?_⟩
  rintro N hN v G' ⟨rfl, k, hk, rfl⟩
  exact hs i k acc _ (by rw [Array.getElem?_toList]; exact hk) h1 h2 N hN
end
/-- texts by their signs -/
def tx (l : List Nat) : Str := ⟨l.toArray⟩
theorem tx_app (a b : List Nat) : tx a ++ tx b = tx (a ++ b) := by
  unfold tx
  show (⟨a.toArray ++ b.toArray⟩ : Str) = _
  rw [List.append_toArray]
theorem tx_one (c : Nat) : (⟨#[c]⟩ : Str) = tx [c] := rfl
theorem tx_len (l : List Nat) : (tx l).length = l.length := by simp [tx, Str.length]
theorem tx_list (l : List Nat) : (tx l).cps.toList = l := by simp [tx]
theorem tx_inj {a b : List Nat} (h : tx a = tx b) : a = b := by
  have := congrArg (fun z : Str => z.cps.toList) h
  simpa [tx] using this
theorem same_upd {H : Hp} {p : Addr} {o : HO} (h : H p = none) : Same H (upd H p o) := fun b x e => by
  rw [upd_ne (ne_of_none e h)]
  exact e
theorem sameU {H G : Hp} {p : Addr} {o : HO} (s : Same H G) (h : G p = none) : Same H (L2.upd G p o) := s.trans (same_upd h)
theorem small {n : Nat} (h : n ≤ 1000000) : n ≤ sizeLine := by rw [sizeLine_eq]; omega
theorem cx_K {CX : CXT} {P : Program} {w : World} {K : PySem.W.Frag} {mg : Str → Option Value} {base : Heap} {N : List Str} {qual : Str} {scope : Scope} {f : Addr} {cd : Value} {A : Around} {outer : List Env} {s : Shared} {H : Hp} {E : XK} :
    (cxOf CX P w K mg base N qual scope f cd A outer s H E).K = K := rfl
theorem line (n : Nat) (h : n ≤ 1000000 := by omega) : n ≤ sizeLine := small h
theorem ltline (n : Nat) (h : n ≤ 1000000 := by omega) : n < sizeLine := by rw [sizeLine_eq]; omega
/-! ### data of ints -/
theorem dpInts {K : PySem.W.Frag} {H : Hp} : ∀ ns : List Int, DpAll K H (ns.map V.int) (ns.map PyData.int)
  | [] => .nil
  | n :: r => .cons (.int n) (dpInts r)
theorem canLayInts : ∀ ns : List Int, PyData.canLayAll0 (ns.map PyData.int) = true
  | [] => by simp [PyData.canLayAll0]
  | n :: r => by simp [PyData.canLayAll0, PyData.canLay0, canLayInts r]
theorem depthInts : ∀ ns : List Int, PyData.depthAll (ns.map PyData.int) = 0
  | [] => by simp [PyData.depthAll]
  | n :: r => by simp [PyData.depthAll, PyData.depth, depthInts r]
theorem shapedInts (ns : List Int) : SeqAt.shaped (.list (ns.map PyData.int)) = true := by
  simp [SeqAt.shaped, PyData.canLay0, canLayInts, PyData.depth, depthInts]
theorem eqvNil (ns : List Int) : PyData.eqv (.list (ns.map PyData.int)) (.list []) = ns.isEmpty := by
  cases ns <;> simp [PyData.eqv, PyData.eqvAll]
/-! ### the draws of a law: p the feed, l its cells, n the draws so far -/
def Feed (H : Hp) (p l : Addr) (n : Nat) : Prop := ∃ (ns : List Int) (m : Int),
  H p = some (.lst [.ref l, .int m, .int (n : Nat)]) ∧ H l = some (.lst (ns.map V.int)) ∧ ns.length ≤ 63 ∧ n ≤ 10 ^ 9
/-- all else stays -/
def Keep (p l : Addr) (H H' : Hp) : Prop := ∀ b o, H b = some o → b ≠ p → b ≠ l → H' b = some o
theorem Keep.refl (p l : Addr) (H : Hp) : Keep p l H H := fun _ _ h _ _ => h
theorem Keep.trans {p l : Addr} {H G F : Hp} (a : Keep p l H G) (b : Keep p l G F) : Keep p l H F := fun c o h x y => b c o (a c o h x y) x y
theorem Keep.of {p l : Addr} {H G : Hp} (s : Same H G) : Keep p l H G := fun b o h _ _ => s b o h
theorem Feed.ne {H : Hp} {p l : Addr} {n : Nat} (h : Feed H p l n) : p ≠ l := by
  obtain ⟨ns, m, h1, h2, _⟩ := h
  refine ne_of h1 h2 ?_
  intro e
  injection e with e
  cases ns with
  | nil => cases e
  | cons a r =>
    injection e with e _
    cases e
theorem Feed.same {H G : Hp} {p l : Addr} {n : Nat} (h : Feed H p l n) (s : Same H G) : Feed G p l n := by
  obtain ⟨ns, m, h1, h2, h3⟩ := h
  exact ⟨ns, m, s _ _ h1, s _ _ h2, h3⟩
/-- a new object, or one that is none of both, does not touch a feed -/
theorem Feed.upd {H : Hp} {p l q : Addr} {o : HO} {n : Nat} (h : Feed H p l n) (hp : q ≠ p) (hl : q ≠ l) : Feed (L2.upd H q o) p l n := by
  obtain ⟨ns, m, h1, h2, h3⟩ := h
  exact ⟨ns, m, by rw [upd_ne (Ne.symm hp)]; exact h1, by rw [upd_ne (Ne.symm hl)]; exact h2, h3⟩
def sp_feed (K : PySem.W.Frag) : Sp := fun vs H Q _ => ∃ (a : Addr) (ns : List Int), vs = [.ref a] ∧ SqL K H a (ns.map V.int) ∧ ns.length ≤ 63 ∧
  ∀ p l H', Same H H' → H p = none → H l = none → Feed H' p l 0 → Q (.ref p) H'
def sp_take : Sp := fun vs H Q _ => ∃ (p l : Addr) (n : Nat) (many : Int), vs = [.ref p, .int many] ∧ Feed H p l n ∧ n < 10 ^ 9 ∧ 0 < many ∧ many < 1000000000 ∧
  ∀ (r : Int) H', 0 ≤ r → r < many → Feed H' p l (n + 1) → Keep p l H H' → Q (.int r) H'
theorem cut63 {xs : List V} (h : xs.length ≤ 63) : cutV xs none (some 63) = xs := by
  unfold cutV
  rw [HT.sIx_none, show HT.sIx xs.length xs.length (some 63) = min 63 xs.length from HT.sIx_nat xs.length xs.length 63]
  rw [List.drop_zero, List.take_of_length_le (by omega)]
theorem int_at {ns : List Int} {i : Nat} {x : V} (h : (ns.map V.int)[i]? = some x) : ∃ y, x = .int y := by
  rw [List.getElem?_map] at h
  cases e : ns[i]? with
  | none => rw [e] at h; cases h
  | some y => rw [e] at h; exact ⟨y, (Option.some.inj h).symm⟩
/-- the new object at p is written again -/
theorem sameU' {H G : Hp} {p : Addr} {o : HO} (s : Same H G) (h : H p = none) : Same H (L2.upd G p o) := fun b x e => by
  rw [upd_ne (ne_of_none e h)]
  exact s b x e
theorem cat_nil {H : Hp} {p : Addr} {xs : List V} (h : H p = some (.lst xs)) : H p = some (.lst (xs ++ [])) := by rw [List.append_nil]; exact h
end Lay
/-! Data of any depth with dicts in it: how it stands on the heap, and its repr. -/
namespace Lay
open PySem PySem.Spec PyProof.Rows L2
def keyD : Key → PyData
  | .inl i => .int i
  | .inr x => .str x
mutual
inductive Dx (K : PySem.W.Frag) (H : Hp) : V → PyData → Prop
  | non : Dx K H .non .none
  | bl (b : Bool) : Dx K H (.bl b) (.bool b)
  | int (i : Int) : Dx K H (.int i) (.int i)
  | str (x : Str) : Dx K H (.str x) (.str x)
  | lst {a : Addr} {xs : List V} {ds : List PyData} : SqL K H a xs → DxAll K H xs ds → Dx K H (.ref a) (.list ds)
  | tup {a : Addr} {xs : List V} {ds : List PyData} : SqT K H a xs → DxAll K H xs ds → Dx K H (.ref a) (.tuple ds)
  | dct {a : Addr} {es : List (Key × V)} {ds : List (PyData × PyData)} : H a = some (.dK es) →
      es.map (fun e => keyD e.1) = ds.map (·.1) → DxAll K H (es.map (·.2)) (ds.map (·.2)) → Dx K H (.ref a) (.dict ds)
inductive DxAll (K : PySem.W.Frag) (H : Hp) : List V → List PyData → Prop
  | nil : DxAll K H [] []
  | cons {v : V} {vs : List V} {d : PyData} {ds : List PyData} : Dx K H v d → DxAll K H vs ds → DxAll K H (v :: vs) (d :: ds)
end
section
variable {X : Cx} {pins : List (Addr × Obj)} {σ : L2.St} {H : Hp} {s : Shared}
/-- the built-in repr, called where no repr is under way -/
def Top (P : Program) (w : World) (h : Heap) (d : PyData) (u : Value) : Prop :=
  ∀ (A : Around) (E : Value → Shared → Prop) (t : Shared) (Q : Value → Shared → Prop), Quiet A → A.units + (d.depth + 1) < cLine →
    (∀ b o, h.get? b = some o → t.heap.get? b = some o) →
    (∀ h' z tk, (∀ b o, t.heap.get? b = some o → h'.get? b = some o) → Q (.str d.shown z) { t with heap := h', toks := tk }) →
    wpAny (model P w) A (call (.builtin "repr") [u]) Q E t
theorem Top.slot {P : Program} {w : World} {h : Heap} {d : PyData} {a : Addr} {T idr : String} {o : Obj} (ho : h.get? a = some o) (hc : o.cls = .type T) (S : SlotG T "__repr__" idr)
    (c : ∀ (A : Around) (E : Value → Shared → Prop) (t : Shared) (Q : Value → Shared → Prop), Quiet A → A.units + d.depth < cLine →
      (∀ b o, h.get? b = some o → t.heap.get? b = some o) →
      (∀ h' z tk, (∀ b o, t.heap.get? b = some o → h'.get? b = some o) → Q (.str d.shown z) { t with heap := h', toks := tk }) →
      wpAny (model P w) A (call (.builtin idr) [.ref a]) Q E t) : Top P w h d (.ref a) := by
  intro A E t Q hq hu hk hQ
  refine call_repr_slot (by omega) ⟨o, hk _ _ ho, hc⟩ S (c A.in1 E t _ hq (by show A.units + 1 + d.depth < cLine; omega) hk ?_)
  intro h' z tk k
  exact ⟨_, _, rfl, hQ h' z tk k⟩
def Sh (P : Program) (w : World) (h : Heap) (d : PyData) (u : Value) : Prop := ∃ as, Reads h u d as ∧
  (d.showable = true → d.shown.length ≤ sizeLine → (∃ bs, ReadAtMost h d.depth bs ∧ ReprK P w bs h d.depth u d.shown) ∧ Top P w h d u)
def ShAll (P : Program) (w : World) (h : Heap) (ds : List PyData) (us : List Value) : Prop := ∃ as, ReadsAll h us ds as ∧
  (PyData.showableAll ds = true → (∀ t ∈ PyData.shownAll ds, t.length ≤ sizeLine) →
    ∃ bs, ReadAtMost h (PyData.depthAll ds) bs ∧ ReprAllK P w bs h (PyData.depthAll ds) us (PyData.shownAll ds))
theorem ShAll.cons {P : Program} {w : World} {h : Heap} {d : PyData} {ds : List PyData} {u : Value} {us : List Value}
    (a : Sh P w h d u) (b : ShAll P w h ds us) : ShAll P w h (d :: ds) (u :: us) := by
  obtain ⟨as, r1, f⟩ := a
  obtain ⟨bs, r2, g⟩ := b
  refine ⟨_, .cons r1 r2, ?_⟩
  intro hs hz
  simp only [PyData.showableAll, Bool.and_eq_true] at hs
  simp only [PyData.shownAll, List.mem_cons, forall_eq_or_imp] at hz
  obtain ⟨⟨b1, m1, k1⟩, _⟩ := f hs.1 hz.1
  obtain ⟨b2, m2, k2⟩ := g hs.2 hz.2
  refine ⟨b1 ++ b2, ?_, ?_⟩
  · simp only [PyData.depthAll]
    exact (m1.mono (Nat.le_max_left _ _)).append (m2.mono (Nat.le_max_right _ _))
  · simp only [PyData.depthAll, PyData.shownAll]
    exact .cons ((k1.more fun _ q => List.mem_append_left _ q).level_le (Nat.le_max_left _ _))
      (k2.more_le (fun _ q => List.mem_append_right _ q) (Nat.le_max_right _ _))
theorem ShAll.nil {P : Program} {w : World} {h : Heap} : ShAll P w h [] [] :=
  ⟨_, .nil, fun _ _ => ⟨[], (fun _ q => nomatch q), by simp only [PyData.shownAll]; exact .nil⟩⟩
theorem sh_key {P : Program} {w : World} {h : Heap} {k : Key} {u : Value} (e : keyIs k u = true) : Sh P w h (keyD k) u := by
  rcases keyIs_shape e with ⟨i, t, rfl, rfl⟩ | ⟨x, t, rfl, rfl⟩
  · refine ⟨_, .int i t, fun hs _ => ⟨⟨[], (fun _ q => nomatch q), ?_⟩, ?_⟩⟩
    · have hs : i.natAbs.log2 < 1920 := by simpa [keyD, PyData.showable] using hs
      simp only [keyD, PyData.shown]
      exact .of_is (ReprIs.int t hs) _ _ _
    · have hs : i.natAbs.log2 < 1920 := by simpa [keyD, PyData.showable] using hs
      intro A E t' Q _ _ _ hQ
      simp only [keyD, PyData.shown] at hQ
      exact PySem.P.repr_of_int hs (hQ t'.heap _ _ fun _ _ z => z)
  · refine ⟨_, .str x t, fun _ hz => ⟨⟨[], (fun _ q => nomatch q), ?_⟩, ?_⟩⟩
    · simp only [keyD, PyData.shown] at hz ⊢
      exact .of_is (ReprIs.str x t hz) _ _ _
    · intro A E t' Q _ _ _ hQ
      simp only [keyD, PyData.shown] at hQ hz
      exact PySem.P.repr_of_str (hQ t'.heap _ _ fun _ _ z => z) hz
/-- the entries of a dict on the heap: their keys, their values -/
theorem sh_pairs {P : Program} {w : World} {h : Heap} : ∀ {es : List DictEntry} {vs : List (Key × Value)} {kvs : List (Key × V)},
    Pairs (mixKind P w) es vs → KV kvs vs → ShAll P w h (kvs.map fun e => keyD e.1) (es.map (·.key)) ∧ Vals (kvs.map (·.2)) (es.map (·.val))
  | _, _, _, .nil, .nil => ⟨.nil, .nil⟩
  | _, _, _, .cons h1 h2 t, .cons ⟨e1, e2⟩ r => by
    obtain ⟨a, b⟩ := sh_pairs t r
    refine ⟨.cons (sh_key (by rw [e1]; exact h1)) a, .cons ?_ b⟩
    show L2.RelV _ _
    rw [← h2] at e2
    exact e2

theorem showable_size {ds : List (PyData × PyData)} : sizeOf (ds.map (·.2)) ≤ sizeOf ds := by
  induction ds with
  | nil => simp
  | cons p r ih =>
    obtain ⟨a, b⟩ := p
    simp only [List.map_cons, List.cons.sizeOf_spec, Prod.mk.sizeOf_spec]
    omega

theorem sh_of (I : Inv X pins σ H s) : ∀ n, (∀ d : PyData, sizeOf d < n → ∀ v u, Dx X.K H v d → RelV v u → Sh X.prog X.w s.heap d u) ∧
    (∀ ds : List PyData, sizeOf ds < n → ∀ vs us, DxAll X.K H vs ds → Vals vs us → ShAll X.prog X.w s.heap ds us) := by
  intro n
  induction n with
  | zero => exact ⟨fun d h => by omega, fun d h => by omega⟩
  | succ n ih =>
    obtain ⟨one, all⟩ := ih
    refine ⟨?_, ?_⟩
    · intro d hn v u hd ru
      cases hd with
      | non =>
        cases ru
        refine ⟨_, .none, fun _ _ => ⟨⟨[], (fun _ q => nomatch q), by simp only [PyData.shown]; exact .of_is ReprIs.none _ _ _⟩, ?_⟩⟩
        intro A E t' Q _ _ _ hQ
        rw [PyData.shown_none] at hQ
        exact PySem.P.repr_of_none (hQ t'.heap _ _ fun _ _ z => z)
      | bl b =>
        cases ru
        refine ⟨_, .bool b, fun _ _ => ⟨⟨[], (fun _ q => nomatch q), by simp only [PyData.shown]; exact .of_is (ReprIs.bool b) _ _ _⟩, ?_⟩⟩
        intro A E t' Q _ _ _ hQ
        rw [PyData.shown_bool] at hQ
        exact PySem.P.repr_of_bool (hQ t'.heap _ _ fun _ _ z => z)
      | int i =>
        obtain ⟨t, rfl⟩ := ru
        exact sh_key (k := .inl i) (keyIs_int i t)
      | str x =>
        obtain ⟨t, rfl⟩ := ru
        exact sh_key (k := .inr x) (keyIs_str x t)
      | @lst a xs ds hs ha =>
        cases ru
        obtain ⟨its, rv, ⟨o, m, ho, hc, _, hdt⟩, _⟩ := I.list hs
        obtain ⟨as, hr, f⟩ := all ds (by simp only [PyData.list.sizeOf_spec] at hn; omega) _ _ ha rv
        have r : Reads s.heap (.ref a) (.list ds) _ := .list ho hc hdt hr
        refine ⟨_, r, fun sh hz => ?_⟩
        have hz' : (listText (PyData.shownAll ds)).length ≤ sizeLine := by simpa only [PyData.shown] using hz
        obtain ⟨bs, hb, hk⟩ := f (by simpa [PyData.showable] using sh) fun t ht => Nat.le_trans (listText_mem_le ht) hz'
        have hna : a ∉ bs := not_mem_of_deeper r (by simp only [PyData.depth]; omega) hb
        refine ⟨⟨a :: bs, ReadAtMost.cons r (by simp only [PyData.depth]; omega) hb, ?_⟩, Top.slot ho hc F.slot_list_repr.toG ?_⟩
        · simp only [PyData.depth, PyData.shown]
          cases its with
          | nil =>
            cases hr
            simp only [PyData.shownAll, listText_nil]
            exact ReprK.listEmpty ho hc hdt
          | cons x l => exact ReprK.list ho hc hdt hna (by simpa using hk.length_eq) fun i y e => hk.item i y (by simpa using e)
        · intro A E t Q hq hu keep hQ
          simp only [PyData.depth] at hu
          simp only [PyData.shown] at hQ
          cases its with
          | nil =>
            cases hr
            simp only [PyData.shownAll, listText_nil] at hQ
            exact call_list_repr_empty ⟨o, keep _ _ ho, hc⟩ (keep _ _ ho) hdt (hQ t.heap _ _ fun _ _ z => z)
          | cons x l =>
            exact call_list_reprK ho hc hdt hna (by simpa using hk.length_eq) (fun i y e => hk.item i y (by simpa using e)) hq (fun b _ => Clear.nil b) hu keep hQ hz'
      | @tup a xs ds hs ha =>
        cases ru
        obtain ⟨its, rv, ⟨o, ho, hc, m, hdt⟩, _⟩ := I.tuple hs
        obtain ⟨as, hr, f⟩ := all ds (by simp only [PyData.tuple.sizeOf_spec] at hn; omega) _ _ ha rv
        have r : Reads s.heap (.ref a) (.tuple ds) _ := .tuple ho hc hdt hr
        refine ⟨_, r, fun sh hz => ?_⟩
        have hz' : (tupleText (PyData.shownAll ds)).length ≤ sizeLine := by simpa only [PyData.shown] using hz
        obtain ⟨bs, hb, hk⟩ := f (by simpa [PyData.showable] using sh) fun t ht => Nat.le_trans (tupleText_mem_le ht) hz'
        have hna : a ∉ bs := not_mem_of_deeper r (by simp only [PyData.depth]; omega) hb
        refine ⟨⟨a :: bs, ReadAtMost.cons r (by simp only [PyData.depth]; omega) hb, ?_⟩, Top.slot ho hc F.slot_tuple_repr ?_⟩
        · simp only [PyData.depth, PyData.shown]
          exact ReprK.tuple ho hc hdt hna (by simpa using hk)
        · intro A E t Q hq hu keep hQ
          simp only [PyData.depth] at hu
          simp only [PyData.shown] at hQ
          exact call_tuple_reprK ho hc hdt hna (by simpa using hk) hq (fun b _ => Clear.nil b) hu keep hQ hz'
      | @dct a es ds ha hk hv =>
        cases ru
        obtain ⟨z, hsys, vs, rkv, o, en, ep, ho, hx, hdt, _, hp, _⟩ := dk_of I.hok ha
        obtain ⟨keys, vals⟩ := sh_pairs (P := X.prog) (w := X.w) (h := s.heap) hp rkv
        rw [hk] at keys
        obtain ⟨as, r1, f1⟩ := keys
        have sz := showable_size (ds := ds)
        obtain ⟨bs, r2, f2⟩ := all (ds.map (·.2)) (by simp only [PyData.dict.sizeOf_spec] at hn; omega) _ _ hv vals
        have r : Reads s.heap (.ref a) (.dict ds) _ := .dict ho hx.1 hdt r1 r2
        refine ⟨_, r, fun sh hz => ?_⟩
        have hz' : (dictText (PyData.shownKv ds)).length ≤ sizeLine := by simpa only [PyData.shown] using hz
        obtain ⟨s1, s2⟩ := PyData.showableKv_split ds (by simpa [PyData.showable] using sh)
        obtain ⟨b1, m1, k1⟩ := f1 s1 fun t ht => by
          obtain ⟨p, hp, hl⟩ := PyData.shownKv_key_le ds t ht
          exact Nat.le_trans hl (Nat.le_trans (dictText_mem_le hp) hz')
        obtain ⟨b2, m2, k2⟩ := f2 s2 fun t ht => by
          obtain ⟨p, hp, hl⟩ := PyData.shownKv_val_le ds t ht
          exact Nat.le_trans hl (Nat.le_trans (dictText_mem_le hp) hz')
        have hb : ReadAtMost s.heap (PyData.depthKv ds) (b1 ++ b2) := (m1.mono (PyData.depthAll_keys_le ds)).append (m2.mono (PyData.depthAll_vals_le ds))
        have hna : a ∉ b1 ++ b2 := not_mem_of_deeper r (by simp only [PyData.depth]; omega) hb
        have both := ReprEntriesK.of_two en.toList _ _ (k1.more_le (fun _ q => List.mem_append_left b2 q) (PyData.depthAll_keys_le ds))
          (k2.more_le (fun _ q => List.mem_append_right b1 q) (PyData.depthAll_vals_le ds))
        refine ⟨⟨a :: (b1 ++ b2), ReadAtMost.cons r (by simp only [PyData.depth]; omega) hb, ?_⟩, Top.slot ho hx.1 F.slot_dict_repr ?_⟩
        · simp only [PyData.depth, PyData.shown, PyData.shownKv_eq]
          exact ReprK.dict ho hx.1 hdt hsys hna both
        · intro A E t Q hq hu keep hQ
          simp only [PyData.depth] at hu
          simp only [PyData.shown, PyData.shownKv_eq] at hQ
          exact call_dict_reprK ho hx.1 hdt hsys hna both hq (fun b _ => Clear.nil b) hu keep hQ (by rw [← PyData.shownKv_eq]; exact hz')
    · intro ds hn vs us ha rv
      cases ha with
      | nil =>
        cases rv
        exact .nil
      | cons h1 h2 =>
        cases rv with
        | cons r1 r2 =>
          simp only [List.cons.sizeOf_spec] at hn
          exact .cons (one _ (by omega) _ _ h1 r1) (all _ (by omega) _ _ h2 r2)
end
section
variable {X : Cx}
/-- repr(x), x data of any depth -/
def rReprX (K : PySem.W.Frag) : List V → Hp → VK → Prop := fun xs H Q =>
  ∃ v d, xs = [v] ∧ Dx K H v d ∧ d.showable = true ∧ d.depth ≤ 60 ∧ d.shown.length ≤ sizeLine ∧ Q (.str d.shown) H
theorem call_repr_X (hu : X.A.units + 64 < cLine) (hq : Quiet X.A) : CallR X (.builtin "repr") (rReprX X.K) := by
  intro pins s σ H xs us Q I r h
  obtain ⟨v, d, rfl, hd, hs, hdep, hsz, q⟩ := h
  obtain ⟨u, rfl, ru⟩ := vals1 r
  obtain ⟨as, rd, f⟩ := (sh_of I (sizeOf d + 1)).1 d (by omega) v u hd ru
  exact (f hs hsz).2 X.A X.xe s _ hq (by omega) (fun _ _ z => z) fun h' z tk keep => ⟨.str _, H, I.kept keep, ⟨z, rfl⟩, q⟩
end
end Lay
/-! The rules that speak of the written part, with that part named: so they stand within a comprehension, too. -/
namespace Lay
open PySem PySem.Spec PyProof.Rows L2
section
variable {X : Cx} {o e e2 : Expr} {es : List Expr} {ta tb to : TE} {t : TA} {K : PySem.W.Frag}
theorem ixLK (K : PySem.W.Frag) (h : X.K = K := by rfl) : IxR X (rIxL K) := h ▸ ix_list
theorem ixTK (K : PySem.W.Frag) (h : X.K = K := by rfl) : IxR X (rIxT K) := h ▸ ix_tup
def rLenK (K : PySem.W.Frag) : List V → Hp → VK → Prop := fun xs H Q => ∃ p ys, xs = [.ref p] ∧ (SqL K H p ys ∨ SqT K H p ys) ∧ Q (.int ys.length) H
theorem lenK (K : PySem.W.Frag) (h : X.K = K := by rfl) : CallR X (.builtin "len") (rLenK K) := h ▸ call_len_seq
theorem inK (K : PySem.W.Frag) (h : X.K = K := by rfl) : OpR X (compareOp .In) (rIn K false) := h ▸ op_in_seq
theorem notInK (K : PySem.W.Frag) (h : X.K = K := by rfl) : OpR X (compareOp .NotIn) (rIn K true) := h ▸ op_notIn_seq
theorem eqDK (K : PySem.W.Frag) (hu : X.A.units + 64 < cLine) (h : X.K = K := by rfl) : OpR X (compareOp .Eq) (rEqD K) := h ▸ op_eqD hu
theorem neDK (K : PySem.W.Frag) (hu : X.A.units + 64 < cLine) (h : X.K = K := by rfl) : OpR X (compareOp .NotEq) (rNeD K) := h ▸ op_neD hu
theorem ltDK (K : PySem.W.Frag) (hu : X.A.units + 64 < cLine) (h : X.K = K := by rfl) : OpR X (compareOp .Lt) (rLtD K) := h ▸ op_ltD hu
theorem reprK (K : PySem.W.Frag) (hu : X.A.units + 64 < cLine) (hq : Quiet X.A) (h : X.K = K := by rfl) : CallR X (.builtin "repr") (rReprX K) := h ▸ call_repr_X hu hq
theorem isiK (K : PySem.W.Frag) (h : X.K = K := by rfl) : CallR X (.builtin "isinstance") (rIsi K) := h ▸ call_isi
theorem slLK (K : PySem.W.Frag) (h : X.K = K := by rfl) : SlR X (rSlL K) := h ▸ sl_list
theorem slTK (K : PySem.W.Frag) (h : X.K = K := by rfl) : SlR X (rSlA K) := h ▸ sl_tupA
theorem catTK (K : PySem.W.Frag) (h : X.K = K := by rfl) : OpR X (binaryOp .Add) (rCatA K) := h ▸ op_catA
def rCopyK (K : PySem.W.Frag) : List V → Hp → VK → Prop := fun xs H Q => ∃ p ys, xs = [.ref p] ∧ (SqL K H p ys ∨ SqT K H p ys) ∧ ∀ l, H l = none → Q (.ref l) (upd H l (.lst ys))
theorem copyK (K : PySem.W.Frag) (h : X.K = K := by rfl) : CallR X (.type "list") (rCopyK K) := h ▸ call_list_of
theorem bmK (K : PySem.W.Frag) {T : String} {r : V → List V → Hp → VK → Prop} {name : Str} {apos cpos : Pos}
    (p : PE X (.Call (.Attribute o name apos) (e :: es) [] cpos) (tBM X.K T r to t)) (h : X.K = K := by rfl) :
    PE X (.Call (.Attribute o name apos) (e :: es) [] cpos) (tBM K T r to t) := h ▸ p
theorem bm0K (K : PySem.W.Frag) {T : String} {r : V → List V → Hp → VK → Prop} {name : Str} {apos cpos : Pos}
    (p : PE X (.Call (.Attribute o name apos) [] [] cpos) (tBM0 X.K T r to)) (h : X.K = K := by rfl) :
    PE X (.Call (.Attribute o name apos) [] [] cpos) (tBM0 K T r to) := h ▸ p
theorem fldK (K : PySem.W.Frag) {f : Str} {pos : Pos} (p : PE X (.Attribute o f pos) (tFld X.K to f)) (h : X.K = K := by rfl) : PE X (.Attribute o f pos) (tFld K to f) := h ▸ p
theorem gTupK (K : PySem.W.Frag) {tg : Expr} {n : Nat} {g : TGs} (p : PG X tg (gTup X.K n g)) (h : X.K = K := by rfl) : PG X tg (gTup K n g) := h ▸ p
theorem revK (K : PySem.W.Frag) {ex : Expr} (p : PE X ex (tRevL X.K ta)) (h : X.K = K := by rfl) : PE X ex (tRevL K ta) := h ▸ p
def rTupleK (K : PySem.W.Frag) : List V → Hp → VK → Prop := fun xs H Q => ∃ p ys, xs = [.ref p] ∧ ((SqL K H p ys ∧ ∀ l, H l = none → Q (.ref l) (upd H l (.tup ys))) ∨ (SqT K H p ys ∧ Q (.ref p) H))
theorem tupleK (K : PySem.W.Frag) (h : X.K = K := by rfl) : CallR X (.type "tuple") (rTupleK K) := h ▸ call_tuple_of
theorem piL (K : PySem.W.Frag) {tg it : Expr} (p : PI X tg it (iList X.K ta)) (h : X.K = K := by rfl) : PI X tg it (iList K ta) := h ▸ p
theorem piT (K : PySem.W.Frag) {tg it : Expr} (p : PI X tg it (iTup X.K ta)) (h : X.K = K := by rfl) : PI X tg it (iTup K ta) := h ▸ p
end
end Lay
/-! Errors of a program over Exception: made, their fields, which classes they are of. -/
namespace Lay
open PySem PySem.Spec PyProof.Rows L2

/-- the built-in classes above such an error -/
abbrev top3 : List Value := [.type "Exception", .type "BaseException", .type "object"]

structure ExC (K : PySem.W.Frag) (C : Addr) : Prop where
  made : PySem.W.excInitIn K C top3 "Exception.__new__" = true
  over : PySem.W.excOver K C top3 = true
  hd : PySem.W.hasDictIn K C = true
  sa : PySem.W.findIn K (.ref C) "__setattr__" = some (some (.builtin "object.__setattr__"))
  ga : PySem.W.findIn K (.ref C) "__getattribute__" =
    some (some (.builtin "BaseException.__getattribute__"))
  gg : PySem.W.findIn K (.ref C) "__getattr__" = some none
  exC : PySem.W.subIn K (.ref C) (.type "BaseException") = some true
  tyC : PySem.W.typeIn K (.ref C) = some (.type "type")
  kC : PySem.W.keepIn K (.ref C) = true

theorem ExC.cd {K : PySem.W.Frag} {C : Addr} (T : ExC K C) :
    ∃ cd, PySem.W.clsIn K C = some cd ∧ cd.hasDict = true := by
  have h := T.hd
  unfold PySem.W.hasDictIn at h
  cases e : PySem.W.clsIn K C with
  | none => rw [e] at h; cases h
  | some cd => rw [e] at h; exact ⟨cd, rfl, h⟩

section
open PySem.W PySem.HandSPX
open Builtin Builtin.ObjectAttr
variable {prog : Program} {w : World} {A : Around} {R : Result → Shared → Prop}
variable {hp : Heap} {g : Array GenState} {d : Drawn} {t : Nat} {os : OsState}
variable {K : Frag} {name : Str} {tk : Tok} {v : Value} {x C dx : Addr} {fv : Array Value}

theorem put_new (T : ExC K C) (X : K.In hp) (hx : hp.get? x = some { cls := .ref C, data := .fields fv })
    (ht : takerIn K C name = some none)
    (hq : ∀ h' tk' dx, (∀ b o, b ≠ x → hp.get? b = some o → h'.get? b = some o) → hp.objs.size ≤ dx → dx ≠ x →
      h'.get? x = some { cls := .ref C, dict := some dx, data := .fields fv } →
      h'.Ns1 dx (fun y => if y = name then some v else none) →
      R (.ok (.ret .none)) ⟨h', g, d, tk', os⟩) :
    codeAny (model prog w) A (.call (.builtin "object.__setattr__") ⟨[.ref x, .str name tk, v], []⟩) R ⟨hp, g, d, t, os⟩ := by
  obtain ⟨cd, hc, hh⟩ := T.cd
  have at0 : InstAt hp x { cls := .ref C, data := .fields fv } C none := ⟨hx, rfl, rfl, trivial⟩
  refine osa_openX F.store_Exception X at0 T.over ht (fun b => ?_)
  have far : x ≠ hp.objs.size := Nat.ne_of_lt (Heap.lt_size hx)
  have lc : Looks (model prog w) hp (classData C) cd := looks_clsIn X hc
  show wpAny _ _ (storeInOwnDict (.ref x) (.ref C) (.str name tk) name v b) _ _ _
  obtain ⟨nm, bs, mro, ns, qn, hd, sn, sb, ab, col, del⟩ := cd
  simp only at hh
  subst hh
  unfold storeInOwnDict ownDictForStores
  repeat (first
    | with_reducible refine store_in_new ?_ ?_
    | with_reducible refine wpAny_loadPart_at hx ?_
    | with_reducible refine lc.at ?_
    | wp_step)
  · exact ⟨_, #[], _,
      (Heap.get?_update_ne _ _ _ _ far.symm).trans (Heap.get?_push_at rfl rfl),
      rfl, fun e he => absurd he (by simp), fun _ => rfl⟩
  · intro h' tk' hn' hs
    have old : (hp.push { cls := .type "dict", data := .dict #[] }).get? x =
        some { cls := .ref C, data := .fields fv } := Heap.get?_push_of_some _ hx
    refine hq h' tk' hp.objs.size ?_ (Nat.le_refl _) far.symm ?_ hn'
    · intro b o hb ho
      have e1 := hs.2 b (Nat.ne_of_lt (Heap.lt_size ho))
      exact e1.trans ((Heap.get?_update_ne _ _ _ _ hb).trans (Heap.get?_push_of_some _ ho))
    · exact (hs.2 x far).trans (Heap.get?_update_self _ old rfl)

theorem put_old {m0 : Str → Option Value} {nl : List Str} (T : ExC K C) (X : K.In hp)
    (hx : hp.get? x = some { cls := .ref C, dict := some dx, data := .fields fv })
    (hns : hp.Ns1 dx m0) (hw : Within m0 nl) (hz : nl.length ≤ 1000)
    (ht : takerIn K C name = some none)
    (hq : ∀ h' tk', (∀ b o, b ≠ dx → hp.get? b = some o → h'.get? b = some o) →
      h'.Ns1 dx (fun y => if y = name then some v else m0 y) →
      R (.ok (.ret .none)) ⟨h', g, d, tk', os⟩) :
    codeAny (model prog w) A (.call (.builtin "object.__setattr__") ⟨[.ref x, .str name tk, v], []⟩) R ⟨hp, g, d, t, os⟩ := by
  obtain ⟨cd, hc, hh⟩ := T.cd
  obtain ⟨oD, _, _, hoD, _, _⟩ := hns.count hw
  have at0 : InstAt hp x { cls := .ref C, dict := some dx, data := .fields fv } C (some oD) := ⟨hx, rfl, rfl, hoD⟩
  refine osa_openX F.store_Exception X at0 T.over ht (fun b => ?_)
  have lc : Looks (model prog w) hp (classData C) cd := looks_clsIn X hc
  show wpAny _ _ (storeInOwnDict (.ref x) (.ref C) (.str name tk) name v b) _ _ _
  obtain ⟨nm, bs, mro, ns, qn, hd, sn, sb, ab, col, del⟩ := cd
  simp only at hh
  subst hh
  unfold storeInOwnDict ownDictForStores
  repeat (first
    | with_reducible refine PySem.OEX.store_in_old hns hw hz ?_
    | with_reducible refine wpAny_loadPart_at hx ?_
    | with_reducible refine lc.at ?_
    | wp_step)
  intro h' tk' hn' hs
  refine hq h' tk' ?_ hn'
  intro b o hb ho
  exact (hs.2 b hb).trans ho
end

section
variable {X : Cx} {pins : List (Addr × Obj)} {σ : L2.St} {H : Hp} {s : Shared} {a C dx : Addr} {f : Str} {y : V} {u : Value}
variable {fs : List (Str × V)} {Q : Unit → Shared → Prop} {E : Value → Shared → Prop} {A : Around}
theorem xst_new (T : ExC X.K C) (I : Inv X pins σ H s) (e : H a = some (exo a C none))
    (ht : PySem.W.takerIn X.K C f = some none) (ry : RelV y u)
    (h : ∀ dx s', H dx = none → dx ≠ a →
      Inv X pins σ (upd (upd H dx (exd dx [(f, y)])) a (exo a C (some dx))) s' → Q () s') :
    wpAny (model X.prog X.w) A (setAttr (.ref a) f u) Q E s := by
  obtain ⟨t1, ho⟩ := exo_at I.hok e
  obtain ⟨hp, g, d, t, os⟩ := s
  have at0 : PySem.W.InstAt hp a _ C none := ⟨ho, rfl, rfl, trivial⟩
  refine PySem.W.set_plain I.kIn at0 T.sa ?_
  refine put_new T I.kIn ho ht ?_
  intro h' tk' dx k dn dne hx hn
  have none_d : H dx = none := I.hok.fresh dn
  have offd : ∀ {b : Addr} {o : Obj}, hp.get? b = some o → b ≠ dx := by
    intro b o q
    exact Nat.ne_of_lt (Nat.lt_of_lt_of_le (Heap.lt_size q) dn)
  have offa : ∀ {b : Addr}, H b = none → b ≠ a := by
    intro b n z
    rw [z, e] at n
    cases n
  have un : Un X.fs [] H (upd (upd H dx (exd dx [(f, y)])) a (exo a C (some dx))) hp h' := by
    refine ⟨?_, ?_, ?_, ?_, ?_, ?_, ?_⟩
    · intro b o q n _ _
      exact k b o (offa n) q
    · intro b o q n _ _
      exact ⟨o.slots, k b o (offa n) q⟩
    · intro b o q n _
      rw [upd_ne (offa n), upd_ne (offd q)]
      exact n
    · intro b o q _
      rcases Classical.em (b = a) with z | z
      · exact ⟨_, by rw [z]; exact hx⟩
      · exact ⟨o, k b o z q⟩
    · intro b xs q
      rw [upd_ne (at_ne e q exo_tup), upd_ne (ne_of_none q none_d)]
      exact q
    · intro b o v q
      rw [upd_ne (at_ne e q exo_frz), upd_ne (ne_of_none q none_d)]
      exact q
    · intro b ps q
      exact ⟨#[], by rw [upd_ne (at_ne e q exo_tbl), upd_ne (ne_of_none q none_d), q]; simp⟩
  refine h dx _ none_d dne (I.un (t' := tk') un ?_)
  intro b o q
  rcases Classical.em (b = a) with hb | hb
  · subst hb
    rw [upd_same] at q
    cases q
    exact exo_ok hx
  · rw [upd_ne hb] at q
    rcases Classical.em (b = dx) with hd | hd
    · subst hd
      rw [upd_same] at q
      cases q
      exact exd_ok hn (relO_put (fs := []) ry fun _ => True.intro)
    · rw [upd_ne hd] at q
      refine (I.hok b o q).stay ?_ ?_ ?_
      · intro c v hc z
        refine k c v ?_ z
        rcases hc with hc | hc
        · rw [hc]
          exact hb
        · exact at_ne e hc exo_own
      · intro c hc
        rw [upd_ne (at_ne e hc exo_own), upd_ne (ne_of_none hc none_d)]
        exact hc
      · intro c xs hc
        rw [upd_ne (at_ne e hc exo_tup), upd_ne (ne_of_none hc none_d)]
        exact hc

theorem xst_old (T : ExC X.K C) (I : Inv X pins σ H s) (e : H a = some (exo a C (some dx)))
    (ed : H dx = some (exd dx fs)) (hl : fs.length ≤ 900)
    (ht : PySem.W.takerIn X.K C f = some none) (ry : RelV y u)
    (h : ∀ s', Inv X pins σ (upd H dx (exd dx ((f, y) :: fs))) s' → Q () s') :
    wpAny (model X.prog X.w) A (setAttr (.ref a) f u) Q E s := by
  obtain ⟨t1, ho⟩ := exo_at I.hok e
  obtain ⟨mA, hns, rel⟩ := exd_at I.hok ed
  have hw := within_of rel
  obtain ⟨hp, g, d, t, os⟩ := s
  obtain ⟨oD, _, _, hoD, _, _⟩ := hns.count hw
  have at0 : PySem.W.InstAt hp a _ C (some oD) := ⟨ho, rfl, rfl, hoD⟩
  refine PySem.W.set_plain I.kIn at0 T.sa ?_
  refine put_old T I.kIn ho hns hw ?_ ht ?_
  · rw [List.length_map]
    omega
  intro h' tk' k hn
  have there : ∃ o, h'.get? dx = some o := by
    obtain ⟨o, _, _, e', _⟩ := hn
    exact ⟨o, e'⟩
  exact h _ (I.write (t' := tk') (x := dx) (e := dx) (o := exd dx ((f, y) :: fs)) (by rw [ed]; exact True.intro) (.inl rfl) k there (exd_ok hn (relO_put ry rel)))
end

/-- o.f = e, o an error that is being made -/
def tXst (K : PySem.W.Frag) (f : Str) (to te : TE) : TS := fun D σ H =>
  te σ H fun y H1 => to σ H1 fun x H2 => ∃ a C : Addr, x = .ref a ∧ ExC K C ∧ PySem.W.findIn K (.ref C) f = some none ∧
    ((H2 a = some (exo a C none) ∧
        ∀ dx, H2 dx = none → dx ≠ a → D.nx σ (upd (upd H2 dx (exd dx [(f, y)])) a (exo a C (some dx)))) ∨
      ∃ (dx : Addr) (fs : List (Str × V)), H2 a = some (exo a C (some dx)) ∧ H2 dx = some (exd dx fs) ∧
        fs.length ≤ 900 ∧ D.nx σ (upd H2 dx (exd dx ((f, y) :: fs))))
theorem ps_xst {X : Cx} {o e : Expr} {to te : TE} {f : Str} {p' pos : Pos} (ho : PE X o to) (he : PE X e te)
    (hs : swapsWith e (some (.Attribute o f p')) pos.line X.env = pure false := by rfl) :
    PS X (.Assign [.Attribute o f p'] e pos) (tXst X.K f to te) where
  run := by
    intro pins s σ H D I h
    refine plainObj_wpAny_Assign_Attribute (thn (he.run pins s σ H _ I h) ?_) hs
    rintro v s1 ⟨y, H1, I1, r1, q1⟩
    refine thn (ho.run pins s1 σ H1 _ I1 q1) ?_
    rintro u s2 ⟨x, H2, I2, r2, a, C, rfl, T, hf, q⟩
    have ht : PySem.W.takerIn X.K C f = some none := by
      unfold PySem.W.takerIn
      rw [hf]
      rfl
    obtain rfl : u = Value.ref a := r2
    rcases q with ⟨ea, q⟩ | ⟨dx, fs, ea, ed, hl, q⟩
    · exact xst_new T I2 ea ht r1 fun dx s' n ne J => ⟨σ, _, J, q dx n ne⟩
    · exact xst_old T I2 ea ed hl ht r1 fun s' J => ⟨σ, _, J, q⟩
end Lay
/-! An error of a program is made, its parameters by position or by name. -/
namespace PySem
namespace LayK
open PySem.W PySem.Calls PyProof.Rows PySem.HandSPX
section
variable {prog : Program} {w : World} {A : Around} {E : Value → Shared → Prop} {R : Result → Shared → Prop}
variable {h : Heap} {g : Array GenState} {d : Drawn} {t : Nat} {os : OsState}
variable {nm q : Str} {C N : Addr} {bs bm bmB : List Value} {hdct : Bool} {sn : List Str} {sub : List Value}
variable {ab : Bool} {col : Option Bool} {dd : Option Addr} {k0 k1 k2 k3 k5 : Option Value} {B newId initId : String}
variable {rest : List Value} {kw : List (Str × Value)} {fI : Addr}

theorem check_newK {M : Model} (F : ExcBaseFacts B newId initId bmB)
    (hT : ∀ X : String, bm.contains (.type X) = bmB.contains (.type X)) {Q : Unit → Shared → Prop}
    (hC : h.get? C = some (excClassObj nm q C N bs bm hdct sn sub ab col dd k0 k1 k2 k3 k5 newId))
    (hq : Q () ⟨h, g, d, t, os⟩) :
    wpAny M A (checkBuiltinCall newId ⟨.ref C :: rest, kw⟩) Q E ⟨h, g, d, t, os⟩ := by
  have has : (Value.ref C :: bm).contains (.type B) = true := by
    rw [List.contains_cons, hT, F.hasB, Bool.or_true]
  have star := F.noStar
  simp only [checkBuiltinCall, F.newKind, F.newSplit, F.newRow]
  repeat (first
    | refine wpAny_loadPart_at hC ?_
    | (refine wpAny_isSubtype_exc hC ?_; rw [has])
    | refine wpAny_staticBase_exc hC ?_
    | refine wpAny_madeBy_exc hC ?_
    | simp only [bne_self_eq_false, Bool.false_eq_true, if_false]
    | wp_step)
  exact hq

theorem newK (F : ExcBaseFacts B newId initId bmB)
    (hT : ∀ X : String, bm.contains (.type X) = bmB.contains (.type X))
    (hC : h.get? C = some (excClassObj nm q C N bs bm hdct sn sub ab col dd k0 k1 k2 k3 k5 newId))
    (hq : R (.ok (.ret (.ref (h.objs.size + 1)))) ⟨(h.push (kdv_tup rest)).push (excO C h.objs.size), g, d, t, os⟩)
    (hrest : rest.length ≤ sizeLine) :
    codeAny (model prog w) A (.builtin newId ⟨.ref C :: rest, kw⟩) R ⟨h, g, d, t, os⟩ := by
  have ends := F.ends
  have c1 : (Value.ref C :: bm).contains (.type B) = true := by
    rw [List.contains_cons, hT, F.hasB, Bool.or_true]
  have c2 : (Value.ref C :: bm).contains (.type "AttributeError") = false := by
    rw [List.contains_cons, hT, F.noAttr]; rfl
  have c3 : (Value.ref C :: bm).contains (.type "NameError") = false := by
    rw [List.contains_cons, hT, F.noName]; rfl
  refine codeAny_builtinAt F.entry ?_
  unfold Builtin.«BaseException.__new__»
  refine wpAt_bind ?_
  show wpAt _ _ _ (stack >>= _) _ _ _
  refine wpAt_bind (wpAt_stack fun p below => wpAt_of_wpAny ?_)
  wp_walk
  refine wpAt_of_wpAny ?_
  rw [F.owner]
  repeat (first
    | with_reducible refine wpAny_madeHere_exc F.canon hC ?_
    | with_reducible refine wpAny_loadPart_at hC ?_
    | (with_reducible refine wpAny_isSubtype_exc hC ?_; first | rw [c1] | rw [c2] | rw [c3])
    | wp_step)
  show R _ _
  rw [Heap.size_push]
  exact hq

theorem type_callK (F : ExcBaseFacts B newId initId bmB)
    (hT : ∀ X : String, bm.contains (.type X) = bmB.contains (.type X)) {Q : Fin → Shared → Prop}
    (hC : h.get? C = some (excClassObj nm q C N bs bm hdct sn sub ab col dd k0 k1 k2 k3 k5 newId))
    (hi : Looks (model prog w) h (typeLookup (.ref C) "__init__") (some (.ref fI)))
    (hb : ∀ self, Looks (model prog w) h (bindSpecial (.ref fI) self) (.ref fI, [self]))
    (hrest : rest.length ≤ sizeLine)
    (hq : codeAny (model prog w) A (.call (.ref fI) ⟨.ref (h.objs.size + 1) :: rest, kw⟩)
      (fun r s' => match r with
        | .ok (.ret v) => v = .none ∧ Q (.done (.ret (.ref (h.objs.size + 1)))) s'
        | .ok _ => False
        | .error e => E e s')
      ⟨(h.push (kdv_tup rest)).push (excO C h.objs.size), g, d, t, os⟩) :
    wpAny (model prog w) A (Builtin.«type.__call__» ⟨.ref C :: rest, kw⟩) Q E ⟨h, g, d, t, os⟩ := by
  repeat (first
    | with_reducible refine wpAny_loadPart_at hC ?_
    | with_reducible refine wpAny_madeBy_exc hC ?_
    | wp_step)
  refine codeAny_call_builtin_code (Code.quiet_builtin _ F.quiet) (check_newK F hT hC ?_)
  refine newK F hT hC ?_ hrest
  show wpAny _ _ _ _ _ _
  have k : ∀ b o, h.get? b = some o → ((h.push (kdv_tup rest)).push (excO C h.objs.size)).get? b = some o := by
    intro b o e
    exact Heap.get?_push_of_some _ (Heap.get?_push_of_some _ e)
  have hC1 := k _ _ hC
  have got : ((h.push (kdv_tup rest)).push (excO C h.objs.size)).get? (h.objs.size + 1) = some (excO C h.objs.size) := by
    heap_get
  have self : (Value.ref C :: bm).contains (.ref C) = true := by simp
  have i1 := hi.keeps k
  have b1 := (hb (.ref (h.objs.size + 1))).keeps k
  unfold isInstance
  repeat (first
    | with_reducible refine wpAny_loadPart_at got ?_
    | (with_reducible refine wpAny_isSubtype_exc hC1 ?_; rw [self])
    | wp_step)
  show wpAny _ _ (typeLookup (.ref C) _) _ _ _
  refine i1.at ?_
  refine wpAny_holding (wpAny_bind (b1.at ?_))
  refine wpAny_bind (wpAny_call (codeAny_mono hq ?_))
  intro r s' z
  rcases r with e | fl
  · exact z
  cases fl with
  | ret v =>
    obtain ⟨rfl, z⟩ := z
    first
      | exact wpAny_pure (wpAny_pure z)
      | (wp_walk; exact z)
  | next => exact z.elim
  | brk => exact z.elim
  | cont => exact z.elim

theorem call_ownK (F : ExcBaseFacts B newId initId bmB)
    (hT : ∀ X : String, bm.contains (.type X) = bmB.contains (.type X))
    (hC : h.get? C = some (excClassObj nm q C N bs bm hdct sn sub ab col dd k0 k1 k2 k3 k5 newId))
    (hi : Looks (model prog w) h (typeLookup (.ref C) "__init__") (some (.ref fI)))
    (hb : ∀ self, Looks (model prog w) h (bindSpecial (.ref fI) self) (.ref fI, [self]))
    (hrest : rest.length ≤ sizeLine)
    (hq : codeAny (model prog w) (A.under (.builtin "type.__call__" ⟨.ref C :: rest, kw⟩))
      (.call (.ref fI) ⟨.ref (h.objs.size + 1) :: rest, kw⟩) (InitBack (h.objs.size + 1) R)
      ⟨(h.push (kdv_tup rest)).push (excO C h.objs.size), g, d, t, os⟩) :
    codeAny (model prog w) A (.call (.ref C) ⟨rest, kw⟩) R ⟨h, g, d, t, os⟩ := by
  have f1 := tc_lookup
  have f2 := tc_bind (.ref C)
  have hTy : (⟨h, g, d, t, os⟩ : Shared).TypeIs (.ref C) "type" := ⟨_, hC, rfl⟩
  refine codeAny_of_tree ?_
  show wpAny _ _ (callAny (.ref C) _) _ _ _
  repeat (any_goals (first
    | assumption
    | with_reducible refine wpAny_loadPart_at hC ?_
    | wp_step))
  refine ⟨rfl, ?_⟩
  refine codeAny_call_builtin_at (Code.quiet_builtin _ (by decide +kernel)) entry_typeCall ?_
  refine wpAny_check_type_call_sub hC (type_callK F hT hC hi hb hrest ?_)
  refine codeAny_mono hq ?_
  intro r s' z
  rcases r with e | (v | _ | _ | _) <;> exact z
end
end LayK
end PySem
namespace Lay
open PySem PySem.Spec PyProof.Rows L2
theorem Quiet.make {A : Around} (h : Quiet A) (C : Addr) (us : List Value) (kw : List (Str × Value)) :
    Quiet (A.under (.builtin "type.__call__" ⟨.ref C :: us, kw⟩)) := by
  have none : (Code.builtin "type.__call__" ⟨Value.ref C :: us, kw⟩).guards = [] := by rfl
  have h' : A.guards = some [] := h
  show (A.under _).guards = some []
  unfold Around.under
  rw [none, h']
  rfl

section
variable {X : Cx} {pins : List (Addr × Obj)} {σ : L2.St} {H1 : Hp} {s1 : Shared} {C fI : Addr} {k : Nat} {fd : FuncData}
variable {ps : List Str} {sp : Sp} {us ws : List Value} {vs : List V} {kw : List (Str × Value)}
theorem makeX (T : ExC X.K C) (iC : PySem.W.findIn X.K (.ref C) "__init__" = some (some (.ref fI)))
    (tI : PySem.W.typeIn X.K (.ref fI) = some (.type "function"))
    (F1 : FnG X.prog X.w X.K X.mg X.base CX0 k fI fd ps sp) (hr : Room (k + 1) X.A) (hq : Quiet X.A)
    (hb : ∀ (s : Shared) (self : Value), X.K.In s.heap → BindsTo s fd ⟨self :: us, kw⟩ (ps.zip (self :: ws)))
    (I1 : Inv X pins σ H1 s1) (r1 : Vals vs ws) (hus : us.length ≤ sizeLine) {G : Addr → Hp → Prop}
    (q1 : ∀ a, H1 a = none → sp (.ref a :: vs) (upd H1 a (exo a C none)) (fun v H2 => v = .non ∧ G a H2) E0)
    {R : Value → Shared → Prop}
    (fin : ∀ a s2, s1.heap.objs.size ≤ a → (∀ b o, s1.heap.get? b = some o → s2.heap.get? b = some o) →
      Inv X pins σ (upd H1 a (exo a C none)) s2 → ∀ u s',
      CE X.stack X.prog X.w (upd H1 a (exo a C none)) s2 (fun v H2 => v = .non ∧ G a H2) u s' → R (.ref a) s') :
    wpAny (model X.prog X.w) X.A (call (.ref C) us kw) R X.xe s1 := by
  obtain ⟨nm, N, q, bs, bm, hdct, sn, sub, ab, col, dd, k0, k1, k2, k3, k5, hC, hT⟩ := PySem.W.excInit_of I1.kIn T.made
  obtain ⟨hp, g, dr, tk, os⟩ := s1
  have big : hp.objs.size ≤ hp.objs.size + 1 := Nat.le_succ _
  have free : H1 (hp.objs.size + 1) = none := I1.hok.fresh big
  have go := q1 (hp.objs.size + 1) free
  have old : ∀ b o, hp.get? b = some o →
      ((hp.push (PySem.W.kdv_tup us)).push (PySem.HandSPX.excO C hp.objs.size)).get? b = some o := by
    intro b o e
    exact Heap.get?_push_of_some _ (Heap.get?_push_of_some _ e)
  have got : ((hp.push (PySem.W.kdv_tup us)).push (PySem.HandSPX.excO C hp.objs.size)).get? (hp.objs.size + 1) =
      some (PySem.HandSPX.excO C hp.objs.size) := by heap_get
  have I2 : Inv X pins σ (upd H1 (hp.objs.size + 1) (exo (hp.objs.size + 1) C none))
      ⟨(hp.push (PySem.W.kdv_tup us)).push (PySem.HandSPX.excO C hp.objs.size), g, dr, tk, os⟩ :=
    I1.laid (t' := tk) old big (exo_ok got)
  have r2 : Vals (V.ref (hp.objs.size + 1) :: vs) (Value.ref (hp.objs.size + 1) :: ws) := .cons rfl r1
  refine wpAny_call (PySem.LayK.call_ownK F.excBase_Exception hT hC (PySem.W.looks_findIn I1.kIn iC)
    (fun self => PySem.W.bind_fn I1.kIn self tI) hus ?_)
  have main := F1.run _ X.stack _ _ ⟨Value.ref (hp.objs.size + 1) :: us, kw⟩ (Value.ref (hp.objs.size + 1) :: ws) _ _ E0
    (hr.make C us kw) (hq.make C us kw) (I2.env0.make C us kw) (hb _ _ I2.kIn) r2 go
  refine codeAny_mono main ?_
  intro r s' z
  rcases r with er | fl
  · exact (z : False).elim
  · cases fl with
    | next => exact (z : False).elim
    | brk => exact (z : False).elim
    | cont => exact (z : False).elim
    | ret u =>
      have z' : CE X.stack X.prog X.w _ _ _ u s' := z
      have z2 := fin _ _ big old I2 u s' z'
      obtain ⟨v, H2, _, _, _, _, rv, ev, _⟩ := z'
      subst ev
      exact ⟨rv, z2⟩
end

/-- C(e, ..), C's own __init__ keeping sp: the error stands at a, its fields in its dict -/
def tMkX (C : Addr) (sp : Sp) (ta : TA) : TE := fun σ H Q => ta σ H fun vs H1 => vs.length ≤ 1000 ∧
  ∀ a, H1 a = none → sp (.ref a :: vs) (upd H1 a (exo a C none)) (fun v H2 => v = .non ∧ Q (.ref a) H2) E0
/-- the same, behind raise -/
def tMkR (C : Addr) (sp : Sp) (ta : TA) : L2.St → Hp → XK → Prop := fun σ H Q => ta σ H fun vs H1 => vs.length ≤ 1000 ∧
  ∀ a, H1 a = none → sp (.ref a :: vs) (upd H1 a (exo a C none)) (fun v H2 => v = .non ∧
    ∃ (d : Addr) (fs : List (Str × V)), H2 a = some (exo a C (some d)) ∧ H2 d = some (exd d fs) ∧ H1 d = none ∧
      Q (.ref C) (some d) (upd (del H2 a) d (.xd fs))) E0

/-- a class with its own __init__, as the text writes it -/
structure Own (P : Program) (w : World) (K : PySem.W.Frag) (mg : Str → Option Value) (base : Heap) (k : Nat) (x : Str) (C : Addr)
    (ps : List Str) (sp : Sp) : Prop where
  ex : ExC K C
  gm : mg x = some (.ref C)
  ini : ∃ fI fd, PySem.W.findIn K (.ref C) "__init__" = some (some (.ref fI)) ∧ PySem.W.typeIn K (.ref fI) = some (.type "function") ∧
    FnG P w K mg base CX0 k fI fd ("self" :: ps) sp ∧
    (∀ (s : Shared) (self : Value) (us : List Value), us.length = ps.length →
      BindsTo s fd ⟨self :: us, []⟩ ((("self" : Str) :: ps).zip (self :: us))) ∧
    (∀ (s : Shared) (self : Value) (us : List Value), us.length = ps.length →
      BindsTo s fd ⟨[self], ps.zip us⟩ ((("self" : Str) :: ps).zip (self :: us)))
section
variable {X : Cx} {k : Nat} {ps : List Str} {sp : Sp} {x : Str} {C : Addr} {p pos : Pos} {e : Expr} {es : List Expr} {t : TA} {kws : List Keyword}
theorem pe_mkx (D : Own X.prog X.w X.K X.mg X.base k x C ps sp) (hr : Room (k + 1) X.A) (hq : Quiet X.A) (ha : PA X (e :: es) t)
    (hg : Gl X x := by rfl)
    (hdb : (x == ("__debug__" : Str)) = false := by decide)
    (he : starEach (e :: es) X.env = (false, eval e X.env) :: starEach es X.env := by rfl)
    (hpl : (backTo pos (starEach es X.env)).any (·.1) = false := by rfl) :
    PE X (.Call (.Name x p) (e :: es) [] pos) (tMkX C sp t) where
  run := by
    obtain ⟨T, gm, fI, fd, iC, tI, F1, b1, _⟩ := D
    intro pins s σ H Q I h
    refine wpAny_Call_Name_kw (ld_glob I hg gm ?_ hdb)
    refine PySem.W.callWith_K (h₀ := X.base) I.ok.mod.kin T.kC (thn (ha.run pos pins s σ H _ I h) ?_) he hpl
    rintro us s1 ⟨vs, H1, I1, r1, hz, q1⟩
    refine ⟨I1.kIn, ?_⟩
    have l1 := r1.length
    have l2 : us.length = ps.length := by
      have z := F1.len _ _ _ _ (q1 _ (I1.hok.fresh (Nat.le_refl _)))
      simp only [List.length_cons] at z
      omega
    refine makeX T iC tI F1 hr hq (fun s self _ => b1 s self us l2) I1 r1 (by show us.length ≤ _; rw [sizeLine_eq]; omega) q1 ?_
    intro a s2 _ _ I2 u s' z
    obtain ⟨v, H2, J, _, _, q⟩ := I2.after z
    exact ⟨.ref a, H2, J, rfl, q⟩

theorem pe_mkxk {tk : TA} (D : Own X.prog X.w X.K X.mg X.base k x C ps sp) (hr : Room (k + 1) X.A) (hq : Quiet X.A) (hkw : PK X kws tk)
    (hks : (backToKw pos (keywordEach kws X.env)).filterMap (·.1) = ps := by rfl)
    (hg : Gl X x := by rfl)
    (hall : (backToKw pos (keywordEach kws X.env)).all (·.1.isSome) = true := by rfl)
    (hdb : (x == ("__debug__" : Str)) = false := by decide)
    (hpl : ((backTo pos (starEach [] X.env)).any (·.1) || (backToKw pos (keywordEach kws X.env)).any (·.1.isNone)) = false := by rfl) :
    PE X (.Call (.Name x p) [] kws pos) (tMkX C sp tk) where
  run := by
    obtain ⟨T, gm, fI, fd, iC, tI, F1, _, b2⟩ := D
    intro pins s σ H Q I h
    refine wpAny_Call_Name_kw (ld_glob I hg gm ?_ hdb)
    refine PySem.W.callWith_KW0 (h₀ := X.base) I.ok.mod.kin T.kC hall (thn (hkw.run pos pins s σ H _ I h) ?_) hpl
    rintro ws s1 ⟨vs, H1, I1, r1, hz, q1⟩
    refine ⟨I1.kIn, ?_⟩
    rw [hks]
    have l1 := r1.length
    have l2 : ws.length = ps.length := by
      have z := F1.len _ _ _ _ (q1 _ (I1.hok.fresh (Nat.le_refl _)))
      simp only [List.length_cons] at z
      omega
    refine makeX (us := []) T iC tI F1 hr hq (fun s self _ => b2 s self ws l2) I1 r1 (Nat.zero_le _) q1 ?_
    intro a s2 _ _ I2 u s' z
    obtain ⟨v, H2, J, _, _, q⟩ := I2.after z
    exact ⟨.ref a, H2, J, rfl, q⟩

theorem pmk_x (D : Own X.prog X.w X.K X.mg X.base k x C ps sp) (hr : Room (k + 1) X.A) (hq : Quiet X.A) (ha : PA X (e :: es) t)
    (hg : Gl X x := by rfl)
    (hdb : (x == ("__debug__" : Str)) = false := by decide)
    (he : starEach (e :: es) X.env = (false, eval e X.env) :: starEach es X.env := by rfl)
    (hpl : (backTo pos (starEach es X.env)).any (·.1) = false := by rfl) :
    PMk X (.Call (.Name x p) (e :: es) [] pos) (tMkR C sp t) := by
  obtain ⟨T, gm, fI, fd, iC, tI, F1, b1, _⟩ := D
  intro pins s σ H Q I h
  refine wpAny_Call_Name_kw (ld_glob I hg gm ?_ hdb)
  refine PySem.W.callWith_K (h₀ := X.base) I.ok.mod.kin T.kC (thn (ha.run pos pins s σ H _ I h) ?_) he hpl
  rintro us s1 ⟨vs, H1, I1, r1, hz, q1⟩
  refine ⟨I1.kIn, ?_⟩
  have l1 := r1.length
  have l2 : us.length = ps.length := by
    have z := F1.len _ _ _ _ (q1 _ (I1.hok.fresh (Nat.le_refl _)))
    simp only [List.length_cons] at z
    omega
  refine makeX T iC tI F1 hr hq (fun s self _ => b1 s self us l2) I1 r1 (by show us.length ≤ _; rw [sizeLine_eq]; omega) q1 ?_
  intro a s2 big old I2 u s' z
  obtain ⟨v, H2, os2, bare2, un2, hok2, _, _, d, fs, ea, ed, hd1, q⟩ := z
  obtain ⟨hp, g, dr, tk, os⟩ := s1
  obtain ⟨hp2, g2, dr2, tk2, os2'⟩ := s2
  obtain ⟨hp3, g3, dr3, tk3, os3⟩ := s'
  have same : os2' = os := by
    have e1 := I1.os
    have e2 := I2.os
    simp only at e1 e2
    rw [e1, e2]
  subst same
  exact mk_end (raises_own T.exC T.tyC) I1 big old un2 hok2 os2 bare2 ea ed hd1 q
end
end Lay
namespace Lay
open PySem PySem.Spec PyProof.Rows L2
/-- a class with no __init__ of its own -/
structure Own0 (K : PySem.W.Frag) (mg : Str → Option Value) (x : Str) (C : Addr) : Prop where
  ex : ExC K C
  gm : mg x = some (.ref C)
  ini : PySem.W.findIn K (.ref C) "__init__" = some (some (.builtin "Exception.__init__"))
section
variable {X : Cx} {x : Str} {C : Addr} {p pos : Pos}
theorem make0 (D : Own0 X.K X.mg x C) {s : Shared} (hk : X.K.In s.heap) {Q E : Value → Shared → Prop}
    (h : ∀ h' a, s.heap.objs.size ≤ a → (∀ b o, s.heap.get? b = some o → h'.get? b = some o) →
      (∃ t1 : Addr, h'.get? a = some ({ cls := .ref C, dict := none, data := .fields #[.ref t1, .none, .none, .none, .bool false, .none] } : Obj)) →
      Q (.ref a) { s with heap := h' }) :
    wpAny (model X.prog X.w) X.A (call (.ref C) []) Q E s := by
  obtain ⟨T, gm, iB⟩ := D
  obtain ⟨nm, N, q, bs, bm, hdct, sn, sub, ab, col, dd, k0, k1, k2, k3, k5, hC, hT⟩ := PySem.W.excInit_of hk T.made
  obtain ⟨hp, g, dr, tk, os⟩ := s
  refine PySem.W.call_B F.excBase_Exception hT hC (PySem.W.looks_findIn hk iB) (Nat.zero_le _) ?_
  intro h' old got _
  exact h h' _ (Nat.le_succ _) old ⟨_, got⟩
/-- C() -/
def tMk0 (C : Addr) : TE := fun _ H Q => ∀ a, H a = none → Q (.ref a) (upd H a (exo a C none))
theorem pe_mk0 (D : Own0 X.K X.mg x C) (hg : Gl X x := by rfl) (hdb : (x == ("__debug__" : Str)) = false := by decide) :
    PE X (.Call (.Name x p) [] [] pos) (tMk0 C) where
  run := by
    intro pins s σ H Q I h
    apply wpAny_Call_Name_kw
    refine ld_glob I hg D.gm ?_ hdb
    refine PySem.W.callWith_K0 I.kIn D.ex.kC (make0 D I.kIn ?_)
    intro h' a big old got
    obtain ⟨t1, got⟩ := got
    obtain ⟨hp, g, dr, tk, os⟩ := s
    have J : Inv X pins σ (upd H a (exo a C none)) ⟨h', g, dr, tk, os⟩ := I.laid (t' := tk) old big (exo_ok got)
    exact ⟨.ref a, _, J, rfl, h a (I.hok.fresh big)⟩
theorem pmk_x0 (D : Own0 X.K X.mg x C) (hg : Gl X x := by rfl) (hdb : (x == ("__debug__" : Str)) = false := by decide) :
    PMk X (.Call (.Name x p) [] [] pos) (fun _ H Q => Q (.ref C) none H) := by
  intro pins s σ H Q I h
  apply wpAny_Call_Name_kw
  refine ld_glob I hg D.gm ?_ hdb
  refine PySem.W.callWith_K0 I.kIn D.ex.kC (make0 D I.kIn ?_)
  intro h' a big old got
  obtain ⟨t1, got⟩ := got
  have off : s.heap.get? a = none := by
    cases e : s.heap.get? a with
    | none => rfl
    | some o => exact absurd (Heap.lt_size e) (Nat.not_lt.mpr big)
  exact ⟨a, _, _, s, H, .ref C, none, rfl, I, old, off, got, ⟨rfl, rfl⟩, rfl, rfl, I.hok.fresh big, rfl, I.bare,
    raises_own D.ex.exC D.ex.tyC, h⟩
end

/-! ### a field is read -/
/-- o.f, o an error that stands with its fields -/
def tXf (K : PySem.W.Frag) (f : Str) (te : TE) : TE := fun σ H Q => te σ H fun x H1 =>
  ∃ (a C dx : Addr) (fs : List (Str × V)) (v : V), x = .ref a ∧ ExC K C ∧ PySem.W.findIn K (.ref C) f = some none ∧
    H1 a = some (exo a C (some dx)) ∧ H1 dx = some (exd dx fs) ∧ fs.lookup f = some v ∧ Q v H1
theorem pe_xf {X : Cx} {e : Expr} {te : TE} {f : Str} {pos : Pos} (he : PE X e te)
    (hb : attributeBase e f X.env (eval e X.env) = eval e X.env := by rfl) : PE X (.Attribute e f pos) (tXf X.K f te) where
  run := by
    intro pins s σ H Q I h
    refine attr_of hb (thn (he.run pins s σ H _ I h) ?_)
    rintro u s1 ⟨x, H1, I1, rx, a, C, dx, fs, v, rfl, T, hf, ea, ed, hl, q⟩
    obtain rfl : u = Value.ref a := rx
    obtain ⟨t1, ho⟩ := exo_at I1.hok ea
    obtain ⟨mA, hns, rel⟩ := exd_at I1.hok ed
    obtain ⟨od, hod, look⟩ := lookIn_ns hns
    obtain ⟨z, hz, rz⟩ := RelO.some_of (v := v) (o := mA f) (by rw [← hl]; exact rel f)
    have at0 : PySem.W.InstAt s1.heap a _ C (some od) := ⟨ho, rfl, rfl, hod⟩
    refine HandSPX.exc_get I1.kIn at0 T.ga T.gg T.exC ?_ (handed_of rz) ⟨v, H1, I1.tok _, rz, q⟩
    exact PySem.W.findObj_own T.hd hf rfl (by rw [look, hz])

/-! ### isinstance -/
structure IsC (K : PySem.W.Frag) (C : Addr) : Prop where
  ex : ExC K C
  kc : PySem.W.findIn K (.ref C) "__class__" = some (some (.builtin "object.__class__"))
  mo : PySem.W.mroIn K C (.type "object") = some true
structure IsK (K : PySem.W.Frag) : Prop where
  gt : PySem.W.specialIn K (.builtin "object.__class__") "__get__" = some (some (.builtin "getset_descriptor.__get__"))
  tk : PySem.W.takesIn K (.builtin "object.__class__") = some true
/-- what stands of the dict -/
def DictAt (H : Hp) (d : Option Addr) : Prop := ∀ dx, d = some dx → ∃ fs, H dx = some (exd dx fs) ∨ H dx = some (.xd fs)
section
variable {X : Cx}
theorem isE {pins : List (Addr × Obj)} {σ : L2.St} {H : Hp} {s : Shared} {a C : Addr} {oe : Obj} {c : V} {cv u : Value} {b : Bool}
    {Q : VK} (hK : IsK X.K) (T : IsC X.K C)
    (I : Inv X pins σ H s) (ho : s.heap.get? a = some oe) (hc : oe.cls = .ref C) (hn : PySem.W.notCls oe = true)
    (hd : DictAt H oe.dict) (k : ClsV c u) (r2 : RelV c cv) (e : PySem.W.kitOne X.K (.ref C) u = some b) (q : Q (.bl b) H) :
    wpAny (model X.prog X.w) X.A (call (.builtin "isinstance") [.ref a, cv]) (EP X pins σ Q) X.xe s := by
  have e2 := k.eq r2
  subst e2
  have hod : ∃ od, PySem.W.InstAt s.heap a oe C od := by
    obtain ⟨cls, dict, data, slots⟩ := oe
    cases dict with
    | none => exact ⟨none, ho, hc, hn, True.intro⟩
    | some dx =>
      obtain ⟨fs, hh⟩ := hd dx rfl
      have there : ∃ od, s.heap.get? dx = some od := by
        rcases hh with hh | hh
        · obtain ⟨mA, hns, _⟩ := exd_at I.hok hh
          obtain ⟨o, _, _, e', _⟩ := hns
          exact ⟨o, e'⟩
        · obtain ⟨mA, hns, _⟩ := (show ObjOk X.prog X.w H s.heap dx (.xd fs) from I.hok dx _ hh)
          obtain ⟨o, _, _, e', _⟩ := hns
          exact ⟨o, e'⟩
      obtain ⟨od, hd'⟩ := there
      exact ⟨some od, ho, hc, hn, hd'⟩
  obtain ⟨od, at0⟩ := hod
  obtain ⟨cd, hcd, _⟩ := T.ex.cd
  have Z := PySem.W.kitx_exc (x := a) (ox := oe) (od := od) (by rw [hcd]; rfl) T.ex.ga T.ex.gg T.ex.exC T.kc hK.gt hK.tk T.mo
  exact PySem.W.kia_one Z I.kIn at0 e (fun z => nomatch z) fun tk => ⟨.bl b, H, I.tok tk, rfl, q⟩
/-- isinstance(e, c), e an error that stands -/
def rIsE (K : PySem.W.Frag) : List V → Hp → VK → Prop := fun xs H Q => ∃ (a C : Addr) (d : Option Addr) (c : V) (u : Value) (b : Bool),
  xs = [.ref a, c] ∧ ClsV c u ∧ IsC K C ∧ H a = some (exo a C d) ∧ DictAt H d ∧ PySem.W.kitOne K (.ref C) u = some b ∧ Q (.bl b) H
theorem call_isE (hK : IsK X.K) : CallR X (.builtin "isinstance") (rIsE X.K) := by
  intro pins s σ H xs us Q I r h
  obtain ⟨a, C, d, c, u, b, rfl, k, T, ea, hd, e, q⟩ := h
  obtain ⟨u1, u2, rfl, r1, r2⟩ := vals2 r
  obtain rfl : u1 = Value.ref a := r1
  obtain ⟨t1, ho⟩ := exo_at I.hok ea
  exact isE hK T I ho rfl rfl hd k r2 e q
/-- isinstance(e, c), e the error that a suite holds -/
def rIsP (K : PySem.W.Frag) (p : Addr × Obj) : List V → Hp → VK → Prop := fun xs H Q => ∃ (C : Addr) (c : V) (u : Value) (b : Bool),
  xs = [.ref p.1, c] ∧ ClsV c u ∧ IsC K C ∧ p.2.cls = .ref C ∧ PySem.W.notCls p.2 = true ∧ DictAt H p.2.dict ∧
    PySem.W.kitOne K (.ref C) u = some b ∧ Q (.bl b) H
theorem call_isP {p : Addr × Obj} (hK : IsK X.K) (hp : p ∈ X.pn) : CallR X (.builtin "isinstance") (rIsP X.K p) := by
  intro pins s σ H xs us Q I r h
  obtain ⟨C, c, u, b, rfl, k, T, hc, hn, hd, e, q⟩ := h
  obtain ⟨u1, u2, rfl, r1, r2⟩ := vals2 r
  obtain rfl : u1 = Value.ref p.1 := r1
  exact isE hK T I (I.pin p (List.mem_append_left _ hp)).1 hc hn hd k r2 e q
end

/-! ### a def that is called while a suite holds an error -/
open L2H in
structure FnP (P : Program) (w : World) (K : PySem.W.Frag) (mg : Str → Option Value) (base : Heap) (k : Nat)
    (f : Addr) (fd : FuncData) (ps : List Str) (sp : Addr × Obj → Sp) : Prop where
  len : ∀ p zs G R Z, sp p zs G R Z → zs.length = ps.length
  run : ∀ (A : Around) (out : List Env) (t : Shared) (G : Hp) (ar : Args) (ws : List Value) (zs : List V)
    (R : VK) (p : Addr × Obj), RoomH k A → PinOk out G t p → (∃ vs, p.2.data = .fields vs) → Env0 P w K mg base A out t G →
    BindsTo t fd ar (ps.zip ws) → Vals zs ws → sp p zs G R E0 →
    codeAny (model P w) A (.call (.ref f) ar) (CR CX0 out P w G t R E0) t
section
variable {P : Program} {w : World} {K : PySem.W.Frag} {mg : Str → Option Value} {base : Heap}
open L2H in
theorem okP {x qual : Str} {st : Stmt} {f : Addr} {fd : FuncData} {N ps : List Str} {k : Nat} {sp : Addr × Obj → Sp}
    (F : Fun K x qual st f fd) (S : FnScope N ps (defScope st))
    (len : ∀ p zs G R Z, sp p zs G R Z → zs.length = ps.length)
    (body : ∀ (cv : Value) (A : Around) (out : List Env) (t : Shared) (G : Hp) (zs : List V) (R : VK) (p : Addr × Obj),
      RoomH k (A.deeper (envOfC qual (defScope st) t.heap.objs.size f cv)) → (∃ vs, p.2.data = .fields vs) → sp p zs G R E0 →
      ∃ b, PSs (cxH CX0 P w K mg base N qual (defScope st) f cv A out t G E0 p) (defBody st) b ∧
        b { nx := fun _ G' => R .non G', rt := R } (start N zs) G) :
    FnP P w K mg base (k + 1) f fd ps sp where
  len := len
  run := by
    obtain ⟨oc, od, kV, dc, pm, an, cv, ct, sl, rfl, lk, hcd⟩ := F.ex
    intro A out t G ar ws zs R p hr hpin hfd e0 hb r hsp
    have old : ∀ b o, base.get? b = some o → t.heap.get? b = some o := fun b o q => (e0.bs b o q).1
    have KX : K.In t.heap := e0.mod.kin.keeps old
    have lim : t.heap.NoLimit := e0.mod.nolimit.keeps old
    obtain ⟨b, hP, hB⟩ := body cv A out t G zs R p (hr.deeper _) hfd hsp
    have kinds : ∀ y ∈ ps.zip ws, (defScope st).names.lookup y.1 = some .local ∨
        ((defScope st).names.lookup y.1 = some .cell ∧ ((cellsFrom (t.heap.objs.size + 1) (defScope st).names []).lookup y.1).isSome = true) := by
      rintro ⟨n, v⟩ hy
      have hn : n ∈ ps := (List.of_mem_zip hy).1
      exact (S.par n hn).imp id fun q => ⟨q, PySem.W.cellsFrom_some _ _ _ (.inl q)⟩
    refine codeAny_call_function hr.depth (KX _ _ lk) rfl S.co S.gen rfl (PySem.W.codeRec_of KX hcd) (hb _ _ _ _ ?_)
    refine wpAny_newFunctionEnv_cells S.kind kinds ?_
    rintro env rfl s1 x
    refine ⟨lim.keeps x.toInCall.keep, codeAny_func ?_⟩
    have I0 := inv_startH (CX := CX0) (E := E0) S hpin e0 (len _ _ _ _ _ hsp) r x
    refine wpAny_mono (hP.run [] s1 (start N zs) G _ I0 hB) ?_ fun _ _ hz => hz
    intro fl s' hs
    cases fl with
    | ret u =>
      obtain ⟨v, _, G', J, rv, q⟩ := hs
      exact ⟨v, G', J.os, J.bare, J.base, J.hok, rv, q⟩
    | next =>
      obtain ⟨_, G', J, q⟩ := hs
      exact ⟨V.non, G', J.os, J.bare, J.base, J.hok, rfl, q⟩
    | brk => exact (hs.choose_spec.choose_spec.2 : False).elim
    | cont => exact (hs.choose_spec.choose_spec.2 : False).elim
end
section
variable {X : Cx} {k : Nat} {f : Addr} {fd : FuncData} {ps : List Str} {sp : Addr × Obj → Sp} {x : Str} {p pos : Pos} {e : Expr} {es : List Expr} {t : TA}
open L2H in
theorem pe_callP {pe : Addr × Obj} (F : FnP X.prog X.w X.K X.mg X.base k f fd ps sp) (hr : RoomH k X.A) (hp : pe ∈ X.pn) (hfd : ∃ vs, pe.2.data = .fields vs)
    (hg : Gl X x) (hm : X.mg x = some (.ref f)) (hk : PySem.W.keepIn X.K (.ref f) = true) (hb : L2.Binds X.K fd ps []) (ha : PA X (e :: es) t)
    (hdb : (x == ("__debug__" : Str)) = false := by decide)
    (he : starEach (e :: es) X.env = (false, eval e X.env) :: starEach es X.env := by rfl)
    (hpl : (backTo pos (starEach es X.env)).any (·.1) = false := by rfl) :
    PE X (.Call (.Name x p) (e :: es) [] pos) (tCall (sp pe) [] E0 t) where
  run := by
    intro pins s σ H Q I h
    apply wpAny_Call_Name_kw
    refine ld_glob I hg hm ?_ hdb
    refine PySem.W.callWith_K (h₀ := X.base) I.ok.mod.kin hk (thn (ha.run pos pins s σ H _ I h) ?_) he hpl
    rintro us s1 ⟨vs, H1, I1, r, q⟩
    refine ⟨I1.kIn, ?_⟩
    rw [List.append_nil] at q
    have hl : us.length = ps.length := by rw [← r.length]; exact F.len _ _ _ _ _ q
    have b := hb s1 us I1.kIn (by rw [List.append_nil]; exact hl)
    rw [List.append_nil] at b
    have P1 := I1.pin pe (List.mem_append_left _ hp)
    have hpin : PinOk X.stack H1 s1 pe := by
      refine ⟨P1.1, P1.2.1, ?_, P1.2.2.2.2⟩
      intro hm'
      exact (List.mem_cons.mp (I1.stkSub pe.1 hm')).elim P1.2.2.1 P1.2.2.2.1
    have main := F.run X.A X.stack s1 H1 ⟨us, []⟩ us vs Q pe hr hpin hfd I1.env0 b r q
    refine wpAny_call (codeAny_mono main ?_)
    intro r s' hh
    have z := back pass0 I1 r s' hh
    rcases r with bb | fl
    · exact z
    · cases fl <;> exact z
end
end Lay
namespace Lay
open PySem
/-- the statements in a class -/
def bodyOf (s : Stmt) : List Stmt := match s with | .ClassDef (body := inner) .. => inner | _ => []
end Lay
/-! A dict written by a comprehension, its keys ints, texts, or tuples of these. -/
namespace Lay
open PySem PySem.Spec PyProof.Rows L2
section
variable {X : Cx} {pins : List (Addr × Obj)} {σ : L2.St} {H H' : Hp} {s : Shared} {E : Value → Shared → Prop} {D : Addr} {y v : V} {u r : Value} {Q : Unit → Shared → Prop}
theorem d_lay (hu : X.A.units + 1 < cLine) (I : Inv X pins σ H s) (g : DPut H D y v H') (ry : RelV y u) (rv : RelV v r)
    (h : ∀ s', Inv X pins σ H' s' → Q () s') : wpAny (model X.prog X.w) X.A (dictSet D u r) Q E s := by
  rcases g with ⟨kvs, k, e, rfl, l, rfl⟩ | ⟨kvs, k, b, e, rfl, eb, l, rfl⟩
  · exact d_dictSet I e l ry rv h
  · cases (show u = Value.ref b from ry)
    obtain ⟨z, hd, xs, rel, dd⟩ := dt_of I.hok e
    have hz : xs.length ≤ sizeLine := by
      rw [← Paired.length rel]
      exact z
    have hl : (putK kvs k v).length ≤ sizeLine := by
      have := length_putK kvs k v
      omega
    have room : (tupleKind (mixKind X.prog X.w)).room X.A := by
      show X.A.units < cLine
      omega
    refine wpAny_dictSet_heap (hsz := hz) room (key_of I.hok eb) dd ?_
    intro h' dd' hs
    refine h _ ?_
    obtain ⟨q, es, ep, hq, h2, h3, h4, _, h5⟩ := dd'
    refine d_write I (by rw [e]; exact True.intro) hs ⟨q, hq⟩ ⟨hl, hd, _, (rel.put k eb rv).keeps ?_, q, es, ep, hq, h2, h3, h4, h5⟩
    intro c ys ec
    rw [upd_ne (ne_of ec e (fun z => nomatch z))]
    exact ec
end
/-- an empty dict, of the kind that is wanted -/
def bare (tup : Bool) : HO := if tup = true then .dT [] else .dK []
theorem bare_ok {P : Program} {w : World} {H : Hp} (tup : Bool) (h : Heap) (hb : sysModules < h.objs.size) :
    ObjOk P w H (h.push { cls := .type "dict", data := .dict #[] }) h.objs.size (bare tup) := by
  cases tup
  · exact dk_empty h hb
  · exact dt_empty h hb
/-- the turns of a comprehension that writes the dict at D -/
def DcW (J : It) (g : TG) (tt : TT) (tk tv : TE) (vs : List Nat) (σ : L2.St) (D : Addr) (Q : VK) (H0 : Hp) : Prop :=
  ∃ W : Nat → Nat → Hp → Prop, (∃ m, W 0 m H0) ∧ ∀ i m H, W i m H →
    (J.stop i H ∧ Q (.ref D) H) ∨ (J.go i H ∧ ∃ N : Hp → Prop, (∀ H', N H' → ∃ m', m' < m ∧ W (i + 1) m' H') ∧
      ∀ x H', J.yld i H x H' → g x (wipe σ vs) H' fun σ2 H2 => wipe σ2 vs = wipe σ vs ∧ tt σ2 H2 fun b H3 =>
        if b = true then tk σ2 H3 fun y H4 => tv σ2 H4 fun z H5 => ∃ H6, DPut H5 D y z H6 ∧ N H6 else N H3)
def tDcP (tup : Bool) (wi : TI) (g : TG) (tt : TT) (tk tv : TE) (vs : List Nat) : TE := fun σ H Q =>
  wi σ H fun J H1 => ∀ D, H1 D = none → DcW J g tt tk tv vs σ D Q (upd H1 D (bare tup))
section
variable {X : Cx}
theorem pe_dcP (tup : Bool) {kx vx tg iter : Expr} {ifs : List Expr} {scope : Scope} {own : List (Str × Nat)} {pos : Pos} {wi : TI} {g : TG} {tt : TT} {tk tv : TE}
    (hu : X.A.units + 1 < cLine) (hc : X.calm = true) (hN : X.N.Nodup) (hi : PI X tg iter wi) (ok : BlkOk X.N X.env.scope scope own)
    (hg : ∀ (s : Shared) (H : Hp) (C : Addr) (cl : List (Str × Addr)) (fp : List Addr), PG (X.blk s H scope (compEnvC scope cl C X.env) fp) tg g)
    (ht : ∀ (s : Shared) (H : Hp) (C : Addr) (cl : List (Str × Addr)) (fp : List Addr), PTs (X.blk s H scope (compEnvC scope cl C X.env) fp) ifs tt)
    (hk : ∀ (s : Shared) (H : Hp) (C : Addr) (cl : List (Str × Addr)) (fp : List Addr), PE (X.blk s H scope (compEnvC scope cl C X.env) fp) kx tk)
    (he : ∀ (s : Shared) (H : Hp) (C : Addr) (cl : List (Str × Addr)) (fp : List Addr), PE (X.blk s H scope (compEnvC scope cl C X.env) fp) vx tv)
    (hs : ∀ x, foldedSetIterable iter X.env x = pure x := by intro _; rfl) :
    PE X (.DictComp kx vx [⟨tg, iter, ifs, 0⟩] scope pos) (tDcP tup wi g tt tk tv (own.map (·.2))) where
  run := by
    intro pins s σ H Q I h
    rw [arm_eval_DictComp]
    have seen : ∀ y ∈ scope.names, y.2 = .free → ∃ c, X.env.cells.lookup y.1 = some c := by
      intro y hy e
      rcases ok.free y hy e with k | k
      · exact I.ok.has _ (.inl k)
      · exact I.ok.has _ (.inr k)
    refine wpAny_comprehension_free rfl hs (closure_ok seen) ok.kind (fun y hy e => by rw [ok.uniq y hy, e]) (thn (hi.run pins s σ H _ I h) ?_)
    intro xv s1 hx
    refine thn hx ?_
    rintro itv s2 ⟨it, fp, tn, J, H2, rfl, I2, T, st2, f2, q⟩
    refine wpAny_newObj_type (newEnv_comp ?_)
    generalize hD : s2.heap.objs.size = D
    have free_D : H2 D = none := I2.hok.fresh (Nat.le_of_eq hD)
    obtain ⟨W, ⟨m0, w0⟩, turn⟩ := q D free_D
    generalize hs3 : ({ s2 with heap := s2.heap.push { cls := .type "dict", data := .dict #[] } } : Shared) = s3
    have h3 : s3.heap = s2.heap.push { cls := .type "dict", data := .dict #[] } := by rw [← hs3]
    have I3 : Inv X pins σ (upd H2 D (bare tup)) s3 := by
      rw [← hs3]
      refine I2.laid (t' := s2.toks) (fun b o e => Heap.get?_push_of_some _ e) (Nat.le_of_eq hD) ?_
      rw [← hD]
      exact bare_ok tup s2.heap I2.big
    have f3 : ∀ b ∈ fp, FpOk X pins (upd H2 D (bare tup)) b ∧ b < s3.heap.objs.size := by
      intro b hb
      obtain ⟨o, e, _⟩ := T.obj _ _ st2 b hb
      have hlt := Heap.lt_size e
      refine ⟨⟨?_, (f2 b hb).2⟩, ?_⟩
      · rw [upd_ne (by rw [← hD]; exact Nat.ne_of_lt hlt)]
        exact (f2 b hb).1
      · rw [h3, Heap.size_push]
        exact Nat.lt_succ_of_lt hlt
    have st3 : tn 0 s3.heap := by
      refine T.keep _ _ _ st2 ?_
      intro b _ o e
      rw [h3]
      exact Heap.get?_push_of_some _ e
    have I4 := block_start I3 ok hN f3
    generalize hcl : cellsFrom (s3.heap.objs.size + 1) scope.names (cloFrom X.env.cells scope.names []) = cl at I4
    have pg := hg s3 (upd H2 D (bare tup)) s3.heap.objs.size cl fp
    have pt := ht s3 (upd H2 D (bare tup)) s3.heap.objs.size cl fp
    have pk := hk s3 (upd H2 D (bare tup)) s3.heap.objs.size cl fp
    have pe := he s3 (upd H2 D (bare tup)) s3.heap.objs.size cl fp
    have none_fp : ∀ b ∈ fp, (upd H2 D (bare tup)) b = none := fun b hb => (f3 b hb).1.1
    subst hcl
    show codeAny _ _ (.compStart (.DictComp kx vx [⟨tg, iter, ifs, 0⟩] scope pos) 0 (.ref it) (.ref D)
      (compEnvC scope (cellsFrom (s3.heap.objs.size + 1) scope.names (cloFrom X.env.cells scope.names [])) s3.heap.objs.size X.env)) _
      { s3 with heap := pushCells (s3.heap.push { cls := .type "dict", data := .dict #[] }) scope.names }
    generalize hce : compEnvC scope (cellsFrom (s3.heap.objs.size + 1) scope.names (cloFrom X.env.cells scope.names [])) s3.heap.objs.size X.env = ce at I4 pg pt pk pe ⊢
    have at_C : ce.locals = s3.heap.objs.size := by
      subst hce
      rfl
    generalize hH3 : upd H2 D (bare tup) = H3 at I3 I4 pg pt pk pe w0 none_fp f3
    generalize hs4 : ({ s3 with heap := pushCells (s3.heap.push { cls := .type "dict", data := .dict #[] }) scope.names } : Shared) = s4 at I4 ⊢
    have st4 : tn 0 s4.heap := by
      refine T.keep _ _ _ st3 ?_
      intro b _ o e
      rw [← hs4]
      exact pushCells_keeps _ _ _ _ (Heap.get?_push_of_some _ e)
    have still : ∀ {σ' : L2.St} {H' : Hp} {s' : Shared}, Inv (X.blk s3 H3 scope ce fp) [] σ' H' s' → (∀ b ∈ fp, H' b = none) →
        ∀ b ∈ fp, FpOk (X.blk s3 H3 scope ce fp) [] H' b := by
      intro σ' H' s' I' hn b hb
      refine ⟨hn b hb, (I'.ok.exf b hb).1, I'.ok.exfs b hb, .inl hb, fun x c e => (I'.ok.exf b hb).2 x c e, ?_⟩
      intro p hp
      exact absurd (show p ∈ ([] : List (Addr × Obj)) ++ [] from hp) (by simp)
    refine codeAny_compStart_dict ?_ (T.self X.A 0 _ _ _ st4 ?_)
    all_goals
      refine compLoop_anyD (fun n s' => ∃ i H', Inv (X.blk s3 H3 scope ce fp) [] (wipe σ (own.map (·.2))) H' s' ∧ tn i s'.heap ∧
        (∀ b ∈ fp, H' b = none) ∧ W i n H') ?_ m0 ⟨0, H3, I4, st4, none_fp, w0⟩
      rintro n s5 ⟨i, H5, I5, st5, n5, w5⟩
      rcases turn i n H5 w5 with ⟨stop, qq⟩ | ⟨go, N, hN', step⟩
      · have td := T.done (X.blk s3 H3 scope ce fp) rfl rfl rfl hc i [] s5 _ H5 (fun _ _ => False) I5 (still I5 n5) st5 stop
        refine thnF td ?_
        rintro r s6 ⟨rfl, I6⟩
        have I7 : Inv X pins σ H5 s6 := I3.call' (ch := fp) I6.os I6.base I6.hok I6.bare fun b hb =>
          ⟨(f3 b hb).1.2.2.2.1, (f3 b hb).1.2.1, (f3 b hb).1.2.2.2.2.1, (f3 b hb).1.2.2.2.2.2⟩
        have none_C : H5 s3.heap.objs.size = none := by
          have z : H5 ce.locals = none := I6.free
          rw [at_C] at z
          exact z
        obtain ⟨m, hn, _⟩ := I6.loc
        have hn : s6.heap.Ns ce.locals m := hn
        rw [at_C] at hn
        have fpo := I3.fpOk (Nat.le_refl _) none_C
        refine ⟨m, hn, fun h'' sb => ?_⟩
        obtain ⟨f0, f1, f2', f3', f4, f5⟩ := fpo
        exact ⟨.ref D, H5, I7.turned (t' := s6.toks) (fun b o hb e => (sb.2 b hb).trans e) f0 f1 f3' f4 f5, rfl, qq⟩
      · have ti := T.item (X.blk s3 H3 scope ce fp) rfl rfl rfl hc i [] s5 _ H5 (fun _ _ => False) I5 (still I5 n5) st5 go
        refine thnF ti ?_
        rintro r s6 ⟨u, rfl, h6⟩
        refine thnF h6 ?_
        rintro _ s7 ⟨x, H7, I7, r7, y7, st7, n7⟩
        have I7' := I7.pinned (still I7 n7) (T.obj _ _ st7)
        refine thnF (pg.run _ s7 _ H7 x u _ I7' r7 (step x H7 y7)) ?_
        rintro _ s8 ⟨σ8, H8, I8, hw8, q8⟩
        refine thnF (pt.run _ s8 σ8 H8 _ I8 q8) ?_
        rintro b s9 ⟨H9, I9, q9⟩
        have fin : ∀ {s' : Shared} {H' : Hp}, Inv (X.blk s3 H3 scope ce fp) ([] ++ pinsAt fp s7.heap) σ8 H' s' → N H' →
            ∃ m, m < n ∧ ∃ i H', Inv (X.blk s3 H3 scope ce fp) [] (wipe σ (own.map (·.2))) H' s' ∧ tn i s'.heap ∧ (∀ b ∈ fp, H' b = none) ∧ W i m H' := by
          intro s' H' I' nx
          obtain ⟨m', hm, w'⟩ := hN' H' nx
          have pin' : ∀ b ∈ fp, ∀ o, s7.heap.get? b = some o → s'.heap.get? b = some o ∧ H' b = none := by
            intro b hb o e
            have z := I'.pin (b, o) (List.mem_append_right _ (List.mem_append_right _ (mem_pinsAt hb e)))
            exact ⟨z.1, z.2.1⟩
          have hl : (wipe σ (own.map (·.2))).length = σ8.length := by rw [← hw8, wipe_length]
          refine ⟨m', hm, i + 1, H', (I'.unpinned (pins := [])).weak hl ?_, T.keep _ _ _ st7 (fun b hb o e => (pin' b hb o e).1), ?_, w'⟩
          · intro j v e
            rw [← hw8] at e
            exact (wipe_some e).1
          · intro b hb
            obtain ⟨o, e, _⟩ := T.obj _ _ st7 b hb
            exact (pin' b hb o e).2
        cases b with
        | false =>
          simp only [Bool.false_eq_true, if_false] at q9 ⊢
          exact fin I9 q9
        | true =>
          simp only [if_true] at q9 ⊢
          refine thnF (pk.run _ s9 σ8 H9 _ I9 q9) ?_
          rintro z s10 ⟨yk, H10, I10, r10, q10⟩
          refine thnF (pe.run _ s10 σ8 H10 _ I10 q10) ?_
          rintro z2 s11 ⟨yv, H11, I11, r11, H12, put, nx⟩
          exact d_lay (X := X.blk s3 H3 scope ce fp) hu I11 put r10 r11 fun s12 I12 => fin I12 nx
end
end Lay
namespace Lay
open PySem PySem.Spec PyProof.Rows L2
section
variable {J : It} {g : TG} {tt : TT} {tk tv : TE} {vs : List Nat} {σ : L2.St} {D : Addr} {Q : VK} {H0 : Hp}
theorem DcW.by (n : Nat) (I : Nat → Hp → Prop) (h0 : I 0 H0)
    (hs : ∀ i G, i < n → I i G → J.go i G ∧ ∀ x G', J.yld i G x G' → g x (wipe σ vs) G' fun σ2 H2 => wipe σ2 vs = wipe σ vs ∧ tt σ2 H2 fun b H3 =>
      if b = true then tk σ2 H3 fun y H4 => tv σ2 H4 fun z H5 => ∃ H6, DPut H5 D y z H6 ∧ I (i + 1) H6 else I (i + 1) H3)
    (hd : ∀ G, I n G → J.stop n G ∧ Q (.ref D) G) : DcW J g tt tk tv vs σ D Q H0 := by
  refine ⟨fun i m G => m + i = n ∧ I i G, ⟨n, rfl, h0⟩, ?_⟩
  rintro i m G ⟨hm, hi⟩
  rcases Nat.lt_or_ge i n with hlt | hge
  · obtain ⟨a, b⟩ := hs i G hlt hi
    exact .inr ⟨a, I (i + 1), fun G' z => ⟨m - 1, by omega, by omega, z⟩, b⟩
  · obtain rfl : i = n := by omega
    exact .inl (hd G hi)
theorem DcW.tup {K : PySem.W.Frag} {a : Addr} (xs : List V) (I : Nat → Hp → Prop) (h0 : I 0 H0) (hl : ∀ i G, I i G → SqT K G a xs)
    (hs : ∀ i x G, xs[i]? = some x → I i G → g x (wipe σ vs) G fun σ2 H2 => wipe σ2 vs = wipe σ vs ∧ tt σ2 H2 fun b H3 =>
      if b = true then tk σ2 H3 fun y H4 => tv σ2 H4 fun z H5 => ∃ H6, DPut H5 D y z H6 ∧ I (i + 1) H6 else I (i + 1) H3)
    (hd : ∀ G, I xs.length G → Q (.ref D) G) : DcW (Itt K a) g tt tk tv vs σ D Q H0 := by
  refine DcW.by xs.length I h0 ?_ fun G h => ⟨⟨xs, hl _ _ h, Nat.le_refl _⟩, hd G h⟩
  intro i G hi h
  have q := hl i G h
  have hx : xs[i]? = some xs[i] := List.getElem?_eq_getElem hi
  refine ⟨⟨xs, xs[i], q, hx⟩, ?_⟩
  rintro x G' ⟨rfl, hx'⟩
  exact hs i x _ (hx' xs q) h
end
end Lay
namespace Lay
open PySem PySem.Spec PyProof.Rows L2
section
variable {J J1 : It} {wi wi1 : TI} {g g1 : TG} {tt tt1 : TT} {te : TE} {vs vs1 : List Nat} {σ : L2.St} {D : Addr} {Q : VK} {N : Hp → Prop} {H H0 : Hp}
/-- the turns of the second for, up to N -/
def In2W (J1 : It) (g1 : TG) (tt1 : TT) (te : TE) (vs1 : List Nat) (σ : L2.St) (D : Addr) (N : Hp → Prop) (H0 : Hp) : Prop :=
  ∃ W1 : Nat → Nat → Hp → Prop, (∃ m, W1 0 m H0) ∧ ∀ j k H, W1 j k H →
    (J1.stop j H ∧ N H) ∨ (J1.go j H ∧ ∃ N1 : Hp → Prop, (∀ H', N1 H' → ∃ k', k' < k ∧ W1 (j + 1) k' H') ∧
      ∀ x H', J1.yld j H x H' → g1 x (wipe σ vs1) H' fun σ3 H5 => wipe σ3 vs1 = wipe σ vs1 ∧ tt1 σ3 H5 fun b H6 =>
        if b = true then te σ3 H6 fun y H7 => ∃ acc, H7 D = some (.lst acc) ∧ acc.length < sizeLine ∧ N1 (upd H7 D (.lst (acc ++ [y]))) else N1 H6)
/-- the turns of the first -/
def Lc2W (J : It) (g : TG) (tt : TT) (wi1 : TI) (g1 : TG) (tt1 : TT) (te : TE) (vs vs1 : List Nat) (σ : L2.St) (D : Addr) (Q : VK) (H0 : Hp) : Prop :=
  ∃ W : Nat → Nat → Hp → Prop, (∃ m, W 0 m H0) ∧ ∀ i m H, W i m H →
    (J.stop i H ∧ Q (.ref D) H) ∨ (J.go i H ∧ ∃ N : Hp → Prop, (∀ H', N H' → ∃ m', m' < m ∧ W (i + 1) m' H') ∧
      ∀ x H', J.yld i H x H' → g x (wipe σ vs) H' fun σ2 H2 => wipe σ2 vs = wipe σ vs ∧ tt σ2 H2 fun b H3 =>
        if b = true then wi1 σ2 H3 fun J1 H4 => In2W J1 g1 tt1 te vs1 σ2 D N H4 else N H3)
theorem tLc2_eq : tLc2 wi g tt wi1 g1 tt1 te vs vs1 σ H Q = wi σ H fun J H1 => ∀ D, H1 D = none → Lc2W J g tt wi1 g1 tt1 te vs vs1 σ D Q (upd H1 D (.lst [])) := rfl
theorem In2W.by (n : Nat) (I : Nat → Hp → Prop) (h0 : I 0 H0)
    (hs : ∀ j G, j < n → I j G → J1.go j G ∧ ∀ x G', J1.yld j G x G' → g1 x (wipe σ vs1) G' fun σ3 H5 => wipe σ3 vs1 = wipe σ vs1 ∧ tt1 σ3 H5 fun b H6 =>
      if b = true then te σ3 H6 fun y H7 => ∃ acc, H7 D = some (.lst acc) ∧ acc.length < sizeLine ∧ I (j + 1) (upd H7 D (.lst (acc ++ [y]))) else I (j + 1) H6)
    (hd : ∀ G, I n G → J1.stop n G ∧ N G) : In2W J1 g1 tt1 te vs1 σ D N H0 := by
  refine ⟨fun i m G => m + i = n ∧ I i G, ⟨n, rfl, h0⟩, ?_⟩
  rintro i m G ⟨hm, hi⟩
  rcases Nat.lt_or_ge i n with hlt | hge
  · obtain ⟨a, b⟩ := hs i G hlt hi
    exact .inr ⟨a, I (i + 1), fun G' z => ⟨m - 1, by omega, by omega, z⟩, b⟩
  · obtain rfl : i = n := by omega
    exact .inl (hd G hi)
theorem Lc2W.by (n : Nat) (I : Nat → Hp → Prop) (h0 : I 0 H0)
    (hs : ∀ i G, i < n → I i G → J.go i G ∧ ∀ x G', J.yld i G x G' → g x (wipe σ vs) G' fun σ2 H2 => wipe σ2 vs = wipe σ vs ∧ tt σ2 H2 fun b H3 =>
      if b = true then wi1 σ2 H3 fun J1 H4 => In2W J1 g1 tt1 te vs1 σ2 D (I (i + 1)) H4 else I (i + 1) H3)
    (hd : ∀ G, I n G → J.stop n G ∧ Q (.ref D) G) : Lc2W J g tt wi1 g1 tt1 te vs vs1 σ D Q H0 := by
  refine ⟨fun i m G => m + i = n ∧ I i G, ⟨n, rfl, h0⟩, ?_⟩
  rintro i m G ⟨hm, hi⟩
  rcases Nat.lt_or_ge i n with hlt | hge
  · obtain ⟨a, b⟩ := hs i G hlt hi
    exact .inr ⟨a, I (i + 1), fun G' z => ⟨m - 1, by omega, by omega, z⟩, b⟩
  · obtain rfl : i = n := by omega
    exact .inl (hd G hi)
theorem In2W.tup {K : PySem.W.Frag} {a : Addr} (xs : List V) (I : Nat → Hp → Prop) (h0 : I 0 H0) (hl : ∀ i G, I i G → SqT K G a xs)
    (hs : ∀ j x G, xs[j]? = some x → I j G → g1 x (wipe σ vs1) G fun σ3 H5 => wipe σ3 vs1 = wipe σ vs1 ∧ tt1 σ3 H5 fun b H6 =>
      if b = true then te σ3 H6 fun y H7 => ∃ acc, H7 D = some (.lst acc) ∧ acc.length < sizeLine ∧ I (j + 1) (upd H7 D (.lst (acc ++ [y]))) else I (j + 1) H6)
    (hd : ∀ G, I xs.length G → N G) : In2W (Itt K a) g1 tt1 te vs1 σ D N H0 := by
  refine In2W.by xs.length I h0 ?_ fun G h => ⟨⟨xs, hl _ _ h, Nat.le_refl _⟩, hd G h⟩
  intro i G hi h
  have q := hl i G h
  have hx : xs[i]? = some xs[i] := List.getElem?_eq_getElem hi
  refine ⟨⟨xs, xs[i], q, hx⟩, ?_⟩
  rintro x G' ⟨rfl, hx'⟩
  exact hs i x _ (hx' xs q) h
theorem Lc2W.tup {K : PySem.W.Frag} {a : Addr} (xs : List V) (I : Nat → Hp → Prop) (h0 : I 0 H0) (hl : ∀ i G, I i G → SqT K G a xs)
    (hs : ∀ i x G, xs[i]? = some x → I i G → g x (wipe σ vs) G fun σ2 H2 => wipe σ2 vs = wipe σ vs ∧ tt σ2 H2 fun b H3 =>
      if b = true then wi1 σ2 H3 fun J1 H4 => In2W J1 g1 tt1 te vs1 σ2 D (I (i + 1)) H4 else I (i + 1) H3)
    (hd : ∀ G, I xs.length G → Q (.ref D) G) : Lc2W (Itt K a) g tt wi1 g1 tt1 te vs vs1 σ D Q H0 := by
  refine Lc2W.by xs.length I h0 ?_ fun G h => ⟨⟨xs, hl _ _ h, Nat.le_refl _⟩, hd G h⟩
  intro i G hi h
  have q := hl i G h
  have hx : xs[i]? = some xs[i] := List.getElem?_eq_getElem hi
  refine ⟨⟨xs, xs[i], q, hx⟩, ?_⟩
  rintro x G' ⟨rfl, hx'⟩
  exact hs i x _ (hx' xs q) h
end
end Lay
/-! match on pairs; data compared with an int, with nothing; is True; a tuple turned about. -/
namespace PySem.SeqAt
open AutoSeq1 (wpAny_loadPart')
open MeetsSeq MeetsSeq2 MeetsSeq3
theorem dict_ne_declines_int (l : Addr) (es : Array DictEntry) (n : Nat) (dd : Option Addr) (sl : Array (Option Value)) (b : Int) (u : Tok) :
    Meets (Builtin.«dict.__ne__» ⟨[.ref l, .int b u], []⟩) (fun _ R s => s.heap.get? l = some { cls := .type "dict", dict := dd, data := .dict es n, slots := sl } ∧ R (.ok (.ret .notImplemented)) s) :=
  .of_wp fun prog w A R s h => by
    obtain ⟨hp, g, d, tk, os⟩ := s
    obtain ⟨hl, h⟩ := h
    have f1 := F.sub_int_dict
    wp_walk using wpAny_loadPart' hl
    exact ⟨_, rfl, h⟩
theorem int_ne_declines_dict (b : Int) (u : Tok) (l : Addr) (es : Array DictEntry) (n : Nat) (dd : Option Addr) (sl : Array (Option Value)) :
    Meets (Builtin.«int.__ne__» ⟨[.int b u, .ref l], []⟩) (fun _ R s => s.heap.get? l = some { cls := .type "dict", dict := dd, data := .dict es n, slots := sl } ∧ R (.ok (.ret .notImplemented)) s) :=
  .of_wp fun prog w A R s h => by
    obtain ⟨hp, g, d, tk, os⟩ := s
    obtain ⟨hl, h⟩ := h
    wp_walk using wpAny_loadPart' hl, wpAny_load hl
    exact ⟨_, rfl, h⟩
theorem RcNeAt.dict_int {A : Around} {s : Shared} {l : Addr} {o : Obj} {es : Array DictEntry} {n : Nat} (b : Int) (u : Tok) (ho : s.heap.get? l = some o) (hc : o.cls = .type "dict") (hd : o.data = .dict es n) (hu : A.units < cLine) : RcNeAt A s (.ref l) (.int b u) true := fun prog w E Q h => by
  obtain ⟨cls, dd, data, sl⟩ := o
  simp only at hc hd
  subst hc hd
  exact rc_ne_decline_or (k := false) ⟨_, ho, rfl⟩ (typeIs_int s b u) (by decide) F.sub_int_dict F.slot_dict_ne F.slot_int_ne_refl
    (fun _ hq => call_meets F.slot_dict_ne ⟨_, ho, rfl⟩ F.entry_dict_ne (F.args_dict_ne_2 _ _) (dict_ne_declines_int l es n dd sl b u) ⟨ho, hq⟩)
    (fun _ hq => call_meets F.slot_int_ne_refl (typeIs_int s b u) F.entry_int_ne (F.args_int_ne_2 _ _) (int_ne_declines_dict b u l es n dd sl) ⟨ho, hq⟩)
    (fun _ hq => wpAny_of_eq (rfl : isSame (.ref l) (.int b u) = pure false) hq) (.inr hu) h
end PySem.SeqAt
namespace Lay
open PySem PySem.Spec PyProof.Rows L2
section
variable {X : Cx} {pins : List (Addr × Obj)} {σ : L2.St} {H : Hp} {s : Shared} {v : V} {u : Value}
/-! ### data != an int -/
def rNeI (K : PySem.W.Frag) : R2 := fun x y H Q => ∃ d k, Dx K H x d ∧ y = .int k ∧ Q (.bl (!PyData.eqv d (.int k))) H
theorem op_neI (hu : X.A.units + 64 < cLine) : OpR X (compareOp .NotEq) (rNeI X.K) := by
  intro pins s σ H x y v u Q I rx ry h
  obtain ⟨d, k, hd, rfl, q⟩ := h
  obtain ⟨t, rfl⟩ := ry
  have hu0 : X.A.units < cLine := by omega
  have fin : ∀ b : Bool, b = (!PyData.eqv d (.int k)) → SeqAt.RcNeAt X.A s v (.int k t) b → wpAny (model X.prog X.w) X.A (compareOp .NotEq v (.int k t)) (EP X pins σ Q) X.xe s := by
    intro b e r
    subst e
    exact r X.prog X.w X.xe _ ⟨.bl _, H, I, rfl, q⟩
  cases hd with
  | non => cases rx; exact fin _ rfl (SeqAt.RcNeAt.none_int k t)
  | bl b => cases rx; exact fin _ rfl (SeqAt.RcNeAt.bool_int b k t)
  | int i => obtain ⟨t2, rfl⟩ := rx; exact fin _ rfl (SeqAt.RcNeAt.int_int i t2 k t)
  | str z => obtain ⟨t2, rfl⟩ := rx; exact fin _ rfl (SeqAt.RcNeAt.str_int z t2 k t)
  | lst hs _ =>
    cases rx
    obtain ⟨its, rv, p, _⟩ := I.list hs
    exact fin _ rfl (SeqAt.RcNeAt.list_int k t p.isList hu0)
  | tup hs _ =>
    cases rx
    obtain ⟨its, rv, p, _⟩ := I.tuple hs
    exact fin _ rfl (SeqAt.RcNeAt.tuple_int k t p hu0)
  | dct ha _ _ =>
    cases rx
    obtain ⟨_, _, _, _, o, en, ep, ho, hx, hdt, _⟩ := dk_of I.hok ha
    exact fin _ rfl (SeqAt.RcNeAt.dict_int k t ho hx.1 hdt hu0)
theorem neIK (K : PySem.W.Frag) (hu : X.A.units + 64 < cLine) (h : X.K = K := by rfl) : OpR X (compareOp .NotEq) (rNeI K) := h ▸ op_neI hu

/-! ### == () and == [] -/
def rEqE (K : PySem.W.Frag) : R2 := fun x y H Q => ∃ a b xs, x = .ref a ∧ y = .ref b ∧ ((SqT K H a xs ∧ SqT K H b []) ∨ (SqL K H a xs ∧ SqL K H b [])) ∧ Q (.bl xs.isEmpty) H
def rNeE (K : PySem.W.Frag) : R2 := fun x y H Q => ∃ a b xs, x = .ref a ∧ y = .ref b ∧ ((SqT K H a xs ∧ SqT K H b []) ∨ (SqL K H a xs ∧ SqL K H b [])) ∧ Q (.bl (!xs.isEmpty)) H
theorem vals_nil {us : List Value} (r : Vals [] us) : us = [] := by cases r; rfl
theorem size_beq {xs : List V} {its : List Value} (r : Vals xs its) : (its.toArray.size == (([] : List Value).toArray).size) = xs.isEmpty := by
  have := r.length
  cases xs with
  | nil => rw [vals_nil r]; rfl
  | cons x r2 => cases its with
    | nil => cases this
    | cons y r3 => rfl
theorem op_eqE (hu : X.A.units + 64 < cLine) : OpR X (compareOp .Eq) (rEqE X.K) := by
  intro pins s σ H x y v u Q I rx ry h
  obtain ⟨a, b, xs, rfl, rfl, h, q⟩ := h
  cases rx
  cases ry
  have hu0 : X.A.units < cLine := by omega
  rcases h with ⟨h1, h2⟩ | ⟨h1, h2⟩
  · obtain ⟨its, rv, p, _⟩ := I.tuple h1
    obtain ⟨its2, rv2, p2, _⟩ := I.tuple h2
    rw [vals_nil rv2] at p2
    refine SeqAt.RcAt.tuples (e := fun _ => true) p p2 hu0 (fun j _ h2 => absurd h2 (Nat.not_lt_zero _)) X.prog X.w X.xe _ ?_
    rw [size_beq rv]
    refine ⟨.bl _, H, I, rfl, ?_⟩
    have : (List.range (min its.toArray.size (([] : List Value).toArray).size)) = [] := by simp
    rw [this]
    exact q
  · obtain ⟨its, rv, p, _⟩ := I.list h1
    obtain ⟨its2, rv2, p2, _⟩ := I.list h2
    rw [vals_nil rv2] at p2
    have e := size_beq rv
    cases xs with
    | nil =>
      rw [vals_nil rv] at p
      exact SeqAt.RcAt.lists (e := fun _ => true) p.isList p2.isList rfl hu0 (fun j h1 _ => absurd h1 (Nat.not_lt_zero _)) X.prog X.w X.xe _ ⟨.bl _, H, I, rfl, q⟩
    | cons x r =>
      exact SeqAt.RcAt.lists_lengths p.isList p2.isList (by unfold bne; rw [e]; rfl) hu0 X.prog X.w X.xe _ ⟨.bl _, H, I, rfl, q⟩
theorem op_neE (hu : X.A.units + 64 < cLine) : OpR X (compareOp .NotEq) (rNeE X.K) := by
  intro pins s σ H x y v u Q I rx ry h
  obtain ⟨a, b, xs, rfl, rfl, h, q⟩ := h
  cases rx
  cases ry
  have hu0 : X.A.units < cLine := by omega
  rcases h with ⟨h1, h2⟩ | ⟨h1, h2⟩
  · obtain ⟨its, rv, p, _⟩ := I.tuple h1
    obtain ⟨its2, rv2, p2, _⟩ := I.tuple h2
    rw [vals_nil rv2] at p2
    refine SeqAt.RcNeAt.tuples (e := fun _ => true) p p2 hu0 (fun j _ h2 => absurd h2 (Nat.not_lt_zero _)) X.prog X.w X.xe _ ?_
    rw [size_beq rv]
    refine ⟨.bl _, H, I, rfl, ?_⟩
    have : (List.range (min its.toArray.size (([] : List Value).toArray).size)) = [] := by simp
    rw [this]
    exact q
  · obtain ⟨its, rv, p, _⟩ := I.list h1
    obtain ⟨its2, rv2, p2, _⟩ := I.list h2
    rw [vals_nil rv2] at p2
    have e := size_beq rv
    cases xs with
    | nil =>
      rw [vals_nil rv] at p
      exact SeqAt.RcNeAt.lists (e := fun _ => true) p.isList p2.isList rfl hu0 (fun j h1 _ => absurd h1 (Nat.not_lt_zero _)) X.prog X.w X.xe _ ⟨.bl _, H, I, rfl, q⟩
    | cons x r =>
      exact SeqAt.RcNeAt.lists_lengths p.isList p2.isList (by unfold bne; rw [e]; rfl) hu0 X.prog X.w X.xe _ ⟨.bl _, H, I, rfl, q⟩
theorem eqEK (K : PySem.W.Frag) (hu : X.A.units + 64 < cLine) (h : X.K = K := by rfl) : OpR X (compareOp .Eq) (rEqE K) := h ▸ op_eqE hu
theorem neEK (K : PySem.W.Frag) (hu : X.A.units + 64 < cLine) (h : X.K = K := by rfl) : OpR X (compareOp .NotEq) (rNeE K) := h ▸ op_neE hu

/-! ### x is True, x is False: x data -/
def rIsX : R2 := fun x y H Q => ∃ b : Bool, y = .bl b ∧ (x = .non ∨ (∃ c, x = .bl c) ∨ (∃ i, x = .int i) ∨ (∃ z, x = .str z) ∨ ∃ a, x = .ref a) ∧ Q (.bl (decide (x = .bl b))) H
theorem op_isX : OpR X (compareOp .Is) rIsX := by
  intro pins s σ H x y v u Q I rx ry h
  obtain ⟨b, rfl, hx, q⟩ := h
  cases (show u = Value.bool b from ry)
  have no : x ≠ .bl b → plainIs v (.bool b) = true → v ≠ .bool b → wpAny (model X.prog X.w) X.A (compareOp .Is v (.bool b)) (EP X pins σ Q) X.xe s := by
    intro n p ne
    rw [decide_eq_false n] at q
    exact wpAny_is_other p ne ⟨.bl false, H, I, rfl, q⟩
  rcases hx with rfl | ⟨c, rfl⟩ | ⟨i, rfl⟩ | ⟨z, rfl⟩ | ⟨a, rfl⟩
  · cases rx; exact no (by intro z; cases z) rfl (by intro z; cases z)
  · cases (show v = Value.bool c from rx)
    by_cases e : c = b
    · subst e
      exact wpAny_is_self rfl ⟨.bl true, H, I, rfl, by simpa using q⟩
    · exact no (fun z => e (V.bl.inj z)) rfl (fun z => e (Value.bool.inj z))
  · obtain ⟨t, rfl⟩ := rx; exact no (by intro z; cases z) rfl (by intro z; cases z)
  · obtain ⟨t, rfl⟩ := rx; exact no (by intro z; cases z) rfl (by intro z; cases z)
  · cases rx; exact no (by intro z; cases z) rfl (by intro z; cases z)
theorem Dx.plain {K : PySem.W.Frag} {H : Hp} {x : V} {d : PyData} (h : Dx K H x d) : x = .non ∨ (∃ c, x = .bl c) ∨ (∃ i, x = .int i) ∨ (∃ z, x = .str z) ∨ ∃ a, x = .ref a := by
  cases h with
  | non => exact .inl rfl
  | bl b => exact .inr (.inl ⟨_, rfl⟩)
  | int i => exact .inr (.inr (.inl ⟨_, rfl⟩))
  | str z => exact .inr (.inr (.inr (.inl ⟨_, rfl⟩)))
  | lst _ _ => exact .inr (.inr (.inr (.inr ⟨_, rfl⟩)))
  | tup _ _ => exact .inr (.inr (.inr (.inr ⟨_, rfl⟩)))
  | dct _ _ _ => exact .inr (.inr (.inr (.inr ⟨_, rfl⟩)))

/-! ### isinstance of data -/
def tyName : PyData → String
  | .none => "NoneType"
  | .bool _ => "bool"
  | .int _ => "int"
  | .str _ => "str"
  | .list _ => "list"
  | .tuple _ => "tuple"
  | .dict _ => "dict"
theorem Dx.ty {K : PySem.W.Frag} {H : Hp} {x : V} {d : PyData} (h : Dx K H x d) : TyX K H x (.type (tyName d)) := by
  cases h with
  | non => exact .base .non
  | bl b => exact .base (.bl b)
  | int i => exact .base (.int i)
  | str z => exact .base (.str z)
  | lst hs _ =>
    rcases hs with (h | ⟨o, h⟩) | ⟨o, its, n, hk, hc, _⟩
    · exact .base (.lst h)
    · exact .base (.frz h)
    · exact .kList hk hc
  | tup hs _ =>
    rcases hs with (h | ⟨o, h⟩) | ⟨o, its, n, hk, hc, _⟩
    · exact .base (.tup h)
    · exact .fTuple h
    · exact .kTuple hk hc
  | dct ha _ _ => exact .base (.dK ha)
/-- isinstance(x, T), x data, T a built-in class -/
def rIsiX (K : PySem.W.Frag) : List V → Hp → VK → Prop := fun xs H Q => ∃ (x : V) (d : PyData) (T : String) (b : Bool), xs = [x, .ty T] ∧ Dx K H x d ∧ kitB (tyName d) T = some b ∧ Q (.bl b) H
theorem call_isiX : CallR X (.builtin "isinstance") (rIsiX X.K) := by
  intro pins s σ H xs us Q I r h
  obtain ⟨x, d, T, b, rfl, hd, e, q⟩ := h
  exact call_isi pins s σ H _ us Q I r ⟨x, .ty T, .type (tyName d), .type T, b, rfl, .ty T, hd.ty, kit_ty e, q⟩
theorem isiXK (K : PySem.W.Frag) (h : X.K = K := by rfl) : CallR X (.builtin "isinstance") (rIsiX K) := h ▸ call_isiX

/-! ### t[::-1] -/
theorem sliceApplied_rev {prog : Program} {w : World} {A : Around} {E : Value → Shared → Prop} {s : Shared} {sl : Addr} {t : Tok} {n : Nat} {Q : Int × Int × Nat → Shared → Prop} (hs : s.heap.IsSliceOf sl .none .none (.int (-1) t))
    (h : Q ((n : Int) - 1, -1, n) s) : wpAny (model prog w) A (Builtin.Slice.sliceApplied (.ref sl) (pure (n : Int))) Q E s := by
  obtain ⟨os, hos, hcs, hds⟩ := id hs
  unfold Builtin.Slice.sliceApplied Builtin.Slice.sliceFields
  refine wpAny_bind (wpAny_bind (wpAny_field hos hds (x := .none) rfl (wpAny_bind (wpAny_field hos hds (x := .none) rfl (wpAny_bind (wpAny_field hos hds (x := .int (-1) t) rfl (wpAny_pure ?_)))))))
  refine wpAny_bind (HT.slicePart_ (.int (-1) t) ?_)
  show wpAny _ _ (if ((-1 : Int) == 0) = true then _ else _) _ _ s
  rw [if_neg (by decide)]
  refine wpAny_bind (HT.slicePart_ .none (wpAny_bind (HT.slicePart_ .none (wpAny_bind (wpAny_pure ?_)))))
  show wpAny _ _ (match Builtin.Slice.sliceAdjust none none (-1) (n : Int) with | (lo, hi) => pure (lo, (-1 : Int), Builtin.Slice.slicePlaces lo hi (-1))) _ _ s
  have e : Builtin.Slice.sliceAdjust none none (-1) (n : Int) = ((n : Int) - 1, -1) := rfl
  rw [e]
  have e2 : Builtin.Slice.slicePlaces ((n : Int) - 1) (-1) (-1) = n := by
    unfold Builtin.Slice.slicePlaces
    rw [if_neg (by decide)]
    split
    · rw [show -(-1 : Int) = 1 from rfl, Int.ediv_one]; omega
    · show (0 : Int).toNat = n
      have : (0 : Int).toNat = 0 := rfl
      omega
  show wpAny _ _ (pure ((n : Int) - 1, (-1 : Int), Builtin.Slice.slicePlaces ((n : Int) - 1) (-1) (-1))) _ _ s
  rw [e2]
  exact wpAny_pure h
end
end Lay
namespace Lay
open PySem PySem.Spec PyProof.Rows L2
section
variable {prog : Program} {w : World} {A : Around} {E : Value → Shared → Prop} {s : Shared}
theorem pick_rev (its : List Value) : ((List.range its.length).filterMap fun (m : Nat) => its.toArray[(((its.length : Nat) : Int) - 1 + (m : Int) * (-1)).toNat]?) = its.reverse := by
  have e : ∀ m ∈ List.range its.length, its.toArray[(((its.length : Nat) : Int) - 1 + (m : Int) * (-1)).toNat]? = its.reverse[m]? := by
    intro m hm
    have hl : m < its.length := List.mem_range.mp hm
    have h1 : (((its.length : Nat) : Int) - 1 + (m : Int) * (-1)).toNat = its.length - 1 - m := by omega
    rw [h1, List.getElem?_reverse hl]
    simp
  have g : ∀ (l : List Nat) (f k : Nat → Option Value), (∀ m ∈ l, f m = k m) → l.filterMap f = l.filterMap k := by
    intro l f k h
    induction l with
    | nil => rfl
    | cons a r ih =>
      rw [List.filterMap_cons, List.filterMap_cons, h a (List.mem_cons_self ..), ih fun m hm => h m (List.mem_cons_of_mem _ hm)]
  rw [g _ _ _ e]
  have : ∀ (l : List Value), (List.range l.length).filterMap (fun m => l[m]?) = l := by
    intro l
    induction l with
    | nil => rfl
    | cons a r ih =>
      rw [List.length_cons, List.range_succ_eq_map, List.filterMap_cons]
      simp only [List.getElem?_cons_zero]
      rw [List.filterMap_map]
      congr 1
  have h2 := this its.reverse
  rw [List.length_reverse] at h2
  exact h2
theorem getItem_tuple_rev {t sl : Addr} {its : List Value} {tk : Tok} {Q : Value → Shared → Prop} (ht : IsTup s.heap t its.toArray) (hs : s.heap.IsSliceOf sl .none .none (.int (-1) tk))
    (h : Q (.ref s.heap.objs.size) { s with heap := s.heap.push { cls := .type "tuple", data := .seq its.reverse.toArray } })
    (hsz : its.length ≤ sizeLine) : wpAny (model prog w) A (getItem (.ref t) (.ref sl)) Q E s := by
  have htake : sizeOk (.seq its.reverse.toArray) := by
    show its.reverse.toArray.size ≤ sizeLine
    rw [List.size_toArray, List.length_reverse]
    exact hsz
  obtain ⟨os, hos, hcs, hds⟩ := id hs
  have hTs : s.TypeIs (.ref sl) "slice" := ⟨os, hos, hcs⟩
  unfold getItem
  try with_reducible refine wpAny_holding ?_
  first | refine wpAny_bind (wpAny_pure ?_) | skip
  refine wpAny_bind (wpAny_sequenceKey ht.typeIs (by decide) ?_)
  refine wpAny_bind (wpAny_callSpecial?_slot (name := Str.ofString "__getitem__") ht.typeIs PyProof.Rows.slot_tuple_getitem
    (wpAny_call_entry PyProof.Rows.slot_tuple_getitem ht.typeIs entry_tuple_getitem ?_ (args_tuple_getitem _ _)))
  show wpAny _ _ (Builtin.Tuple.tupleItemsOf (.ref t) >>= _) _ _ s
  refine wpAny_bind (tupleItemsOf_ ht ?_)
  refine wpAny_bind (wpAny_typeOf hTs ?_)
  rw [if_pos (by decide)]
  refine wpAny_bind (sliceApplied_rev (n := its.toArray.size) hs ?_)
  have hno : ¬ ((((its.toArray.size : Nat) : Int) - 1 == 0 && (-1 : Int) == 1 && its.toArray.size == its.toArray.size) = true) := by
    rw [show ((-1 : Int) == 1) = false from rfl, Bool.and_false, Bool.false_and]
    exact Bool.false_ne_true
  show wpAny _ _ (if (((its.toArray.size : Nat) : Int) - 1 == 0 && (-1 : Int) == 1 && its.toArray.size == its.toArray.size) = true then _ else _) _ _ s
  rw [if_neg hno]
  rw [List.size_toArray, pick_rev]
  first
    | exact wpAny_bind (m := Builtin.Tuple.tupleExact _) (wpAny_newObj_type (wpAny_pure ⟨_, rfl, wpAny_pure h⟩) htake)
    | exact wpAny_bind (m := Builtin.Tuple.tupleExact _) (wpAny_newObj_type (wpAny_bind (wpAny_pure (wpAny_pure ⟨_, rfl, wpAny_pure h⟩))) htake)
    | exact wpAny_bind (wpAny_bind (m := Builtin.Tuple.tupleExact _) (wpAny_newObj_type (wpAny_pure (wpAny_pure ⟨_, rfl, wpAny_pure h⟩)) htake))
    | exact wpAny_bind (wpAny_bind (m := Builtin.Tuple.tupleExact _) (wpAny_newObj_type (wpAny_pure ⟨_, rfl, wpAny_pure h⟩) htake))
end
section
variable {X : Cx}
def tRevT (K : PySem.W.Frag) (te : TE) : TE := fun σ H Q => te σ H fun x H1 => ∃ a xs, x = .ref a ∧ SqT K H1 a xs ∧ ∀ p, H1 p = none → Q (.ref p) (upd H1 p (.tup xs.reverse))
theorem pe_revT {e : Expr} {te : TE} {k : Nat} {p1 p2 p3 pos : Pos} (he : PE X e te) : PE X (.Subscript e (.Slice none none (some (.UnaryOp .USub (.Constant (.int 1) k p1) p2)) p3) pos) (tRevT X.K te) := by
  refine ⟨fun pins s σ H Q I h => ?_⟩
  refine Subscript_ (thn (he.run pins s σ H _ I h) fun v s1 ⟨x, H1, I1, r1, q1⟩ => ?_)
  obtain ⟨a, xs, ex, hx, q⟩ := q1
  subst ex
  cases r1
  have hst : PO X (some (.UnaryOp .USub (.Constant (.int 1) k p1) p2)) (tPart (tUn (rU fun i => .int (-i)) (tC (.int 1)))) := po_some (pe_un un_neg pe_int)
  refine wpAny_Slice (thn (po_none.run pins s1 σ H1 (fun o H2 => o = none ∧ H2 = H1) I1 ⟨rfl, rfl⟩) fun vl s2 ⟨l, H2, I2, pl, el, e2⟩ => ?_)
  subst el e2
  refine thn (po_none.run pins s2 σ H2 (fun o H3 => o = none ∧ H3 = H2) I2 ⟨rfl, rfl⟩) fun vu s3 ⟨u, H3, I3, pu, eu, e3⟩ => ?_
  subst eu e3
  refine thn (hst.run pins s3 σ H3 (fun o H4 => o = some (-1) ∧ H4 = H3) I3 ⟨1, rfl, -1, rfl, rfl, rfl⟩) fun vs s4 ⟨o, H4, I4, ps, eo, e4⟩ => ?_
  subst eo e4
  have I5 : Inv X pins σ H4 { s4 with heap := s4.heap.push { cls := .type "slice", data := .fields #[vl, vu, vs] } } := I4.kept (t' := s4.toks) fun b ob q => Heap.get?_push_of_some _ q
  obtain ⟨its, r, ht, hz⟩ := I5.tuple hx
  have hlen := r.length
  cases pl
  cases pu
  obtain ⟨tk, rfl⟩ : ∃ tk, vs = .int (-1) tk := by
    cases ps with
    | int i t => exact ⟨t, rfl⟩
  show wpAny (model X.prog X.w) X.A (subscriptTail e (.Slice none none (some (.UnaryOp .USub (.Constant (.int 1) k p1) p2)) p3) (.ref a) (.ref s4.heap.objs.size)) (EP X pins σ Q) X.xe { s4 with heap := s4.heap.push { cls := .type "slice", data := .fields #[.none, .none, .int (-1) tk] } }
  refine tail_any (ops := [.ref a, .ref s4.heap.objs.size]) ht.typeIs (PyProof.Rows.slot_tuple_getitem.lookup) ?_ (by with_unfolding_all rfl)
  refine getItem_tuple_rev ht (Heap.IsSliceOf.new _ _ _ _) ?_ (by omega)
  refine ⟨.ref _, _, I5.laid (t' := s4.toks) (o := .tup xs.reverse) (fun b ob q => Heap.get?_push_of_some _ q) (Nat.le_refl _) ?_, rfl, q _ (I5.hok.fresh (Nat.le_refl _))⟩
  exact ⟨by rw [List.length_reverse]; exact hz, _, r.reverse, IsTup.new _ _⟩
theorem revTK (K : PySem.W.Frag) {ta : TE} {ex : Expr} (p : PE X ex (tRevT X.K ta)) (h : X.K = K := by rfl) : PE X ex (tRevT K ta) := h ▸ p
end

/-! ### match on a pair whose first part is a pair -/
inductive Parts (K : PySem.W.Frag) (H : Hp) : V → Option (List V) → Prop
  | lst {a : Addr} {xs : List V} : SqL K H a xs → Parts K H (.ref a) (some xs)
  | tup {a : Addr} {xs : List V} : SqT K H a xs → Parts K H (.ref a) (some xs)
  | non : Parts K H .non none
  | bl (b : Bool) : Parts K H (.bl b) none
  | int (i : Int) : Parts K H (.int i) none
  | str (z : Str) : Parts K H (.str z) none
  | dct {a : Addr} {es : List (Key × V)} : H a = some (.dK es) → Parts K H (.ref a) none
section
variable {X : Cx} {pins : List (Addr × Obj)} {σ : L2.St} {H : Hp} {s : Shared} {v : V} {u : Value}
theorem fits63 {n : Nat} (h : n ≤ sizeLine) : (n : Int) < 2 ^ 63 := by rw [sizeLine_eq] at h; omega
theorem pat2 (hh : X.A.handled = none) {p q : Pattern} {pos : Pos} {o : Option (List V)} (I : Inv X pins σ H s) (rv : RelV v u) (pv : Parts X.K H v o) {Q : Option (List (Str × Value)) → Shared → Prop}
    (hwild : (([p, q] : List Pattern).all fun p => p.isWildcard || (p.isStar && p.names.isEmpty)) = false) (hstar : ([p, q] : List Pattern).findIdx? (·.isStar) = none)
    (miss : (∀ xs, o = some xs → xs.length ≠ 2) → ∀ s', Inv X pins σ H s' → Q none s')
    (hit : ∀ x y, o = some [x, y] → ∀ a b s', Inv X pins σ H s' → RelV x a → RelV y b → wpAny (model X.prog X.w) X.A (matchEach [p, q] X.env [a, b]) Q X.xe s') :
    wpAny (model X.prog X.w) X.A (matchPattern (.MatchSequence [p, q] pos) X.env u) Q X.xe s := by
  have flat : ∀ T : String, s.TypeIs u T → flagOfType true (.type T) = pure false → o = none → wpAny (model X.prog X.w) X.A (matchPattern (.MatchSequence [p, q] pos) X.env u) Q X.xe s := by
    intro T hT hf ho
    refine wpAny_matchPattern_Sequence (wpAny_collectionFlag hT hf ?_) hstar hwild
    rw [if_neg (by decide)]
    exact miss (fun xs e => by rw [ho] at e; cases e) s I
  cases pv with
  | non => cases rv; exact flat "NoneType" rfl flag_seq_None rfl
  | bl b => cases rv; exact flat "bool" rfl flag_seq_bool rfl
  | int i => obtain ⟨t, rfl⟩ := rv; exact flat "int" rfl flag_seq_int rfl
  | str z => obtain ⟨t, rfl⟩ := rv; exact flat "str" rfl flag_seq_str rfl
  | dct ha =>
    cases rv
    obtain ⟨_, _, _, _, ob, en, ep, ho, hx, hdt, _⟩ := dk_of I.hok ha
    exact flat "dict" ⟨_, ho, hx.1⟩ flag_seq_dict rfl
  | @lst a xs hs =>
    cases rv
    obtain ⟨its, rv, pl, hz⟩ := I.list hs
    have hl := rv.length
    have hfit : ((its.toArray.size : Nat) : Int) < 2 ^ 63 := by rw [List.size_toArray]; exact fits63 (by omega)
    by_cases hn : xs.length = 2
    · refine matchSeq_list_hit pl.isList hfit (by rw [List.size_toArray, ← hl, hn]; rfl) ?_ hstar hwild
      have e2 : ([p, q] : List Pattern).length = its.toArray.size := by rw [List.size_toArray, ← hl, hn]; rfl
      rw [e2]
      refine PySem.W.kun_itemsOf hh pl.isList fun h' ext => ?_
      have I2 : Inv X pins σ H { s with heap := h', toks := s.toks + 1 + 1 } := I.kept (t' := s.toks + 1 + 1) fun b ob q => ext b ob (Nat.ne_of_lt (Heap.lt_size q)) q
      cases rv with
      | nil => cases hn
      | cons r1 rr => cases rr with
        | nil => cases hn
        | cons r2 rr2 => cases rr2 with
          | nil => exact hit _ _ rfl _ _ _ I2 r1 r2
          | cons _ _ => simp at hn
    · refine matchSeq_list_miss pl.isList hfit (by rw [List.size_toArray, ← hl]; exact hn) ?_ hstar hwild
      exact miss (fun ys e => by cases e; exact hn) _ (I.tok _)
  | @tup a xs hs =>
    cases rv
    obtain ⟨its, rv, pl, hz⟩ := I.tuple hs
    have hl := rv.length
    have hfit : ((its.toArray.size : Nat) : Int) < 2 ^ 63 := by rw [List.size_toArray]; exact fits63 (by omega)
    by_cases hn : xs.length = 2
    · refine matchSeq_tuple_hit pl hfit (by rw [List.size_toArray, ← hl, hn]; rfl) ?_ hstar hwild
      have e2 : ([p, q] : List Pattern).length = its.toArray.size := by rw [List.size_toArray, ← hl, hn]; rfl
      rw [e2]
      refine unpackItems_tuple hh pl fun h' ext => ?_
      have I2 : Inv X pins σ H { s with heap := h', toks := s.toks + 1 + 1 } := I.kept (t' := s.toks + 1 + 1) fun b ob q => ext b ob (Nat.ne_of_lt (Heap.lt_size q)) q
      cases rv with
      | nil => cases hn
      | cons r1 rr => cases rr with
        | nil => cases hn
        | cons r2 rr2 => cases rr2 with
          | nil => exact hit _ _ rfl _ _ _ I2 r1 r2
          | cons _ _ => simp at hn
    · refine matchSeq_tuple_miss pl hfit (by rw [List.size_toArray, ← hl]; exact hn) ?_ hstar hwild
      exact miss (fun ys e => by cases e; exact hn) _ (I.tok _)

/-- what the pattern ((x, y), z) misses -/
def Miss (K : PySem.W.Frag) (H : Hp) (v : V) : Prop := ∃ o, Parts K H v o ∧ ∀ p z, o = some [p, z] → ∃ o', Parts K H p o' ∧ ∀ x y, o' ≠ some [x, y]
def tMatch (K : PySem.W.Frag) (te : TE) (i j k : Nat) (tg : TT) (t1 t2 : TS) : TS := fun D σ H => te σ H fun v H1 =>
  (∃ p x y z, Parts K H1 v (some [p, z]) ∧ Parts K H1 p (some [x, y]) ∧
    tg (((σ.set i (some x)).set j (some y)).set k (some z)) H1 fun c H2 => if c = true then t1 D (((σ.set i (some x)).set j (some y)).set k (some z)) H2 else t2 D (((σ.set i (some x)).set j (some y)).set k (some z)) H2) ∨
  (Miss K H1 v ∧ t2 D σ H1)
theorem two_of {xs : List V} (h : xs.length = 2) : ∃ x y, xs = [x, y] := by
  match xs, h with
  | [x, y], _ => exact ⟨x, y, rfl⟩
theorem Parts.det {K : PySem.W.Frag} (I : Inv X pins σ H s) {o o' : Option (List V)} (h : Parts X.K H v o) (h' : Parts X.K H v o') : o = o' := by
  cases h with
  | non => cases h'; rfl
  | bl b => cases h'; rfl
  | int i => cases h'; rfl
  | str z => cases h'; rfl
  | dct ha =>
    obtain ⟨_, _, _, _, ob, en, ep, ho, hx, hdt, _⟩ := dk_of I.hok ha
    cases h' with
    | dct _ => rfl
    | lst hs =>
      obtain ⟨its, rv, ⟨o2, n, e, c, _, d⟩, hz⟩ := I.list hs
      rw [e] at ho; cases ho
      exact absurd (hx.1.symm.trans c) (by decide)
    | tup hs =>
      obtain ⟨its, rv, ⟨o2, e, c, _⟩, hz⟩ := I.tuple hs
      rw [e] at ho; cases ho
      exact absurd (hx.1.symm.trans c) (by decide)
  | lst hs =>
    obtain ⟨its, rv, ⟨o2, n, e, c, _, d⟩, hz⟩ := I.list hs
    cases h' with
    | dct ha =>
      obtain ⟨_, _, _, _, ob, en, ep, ho, hx, hdt, _⟩ := dk_of I.hok ha
      rw [e] at ho; cases ho
      exact absurd (hx.1.symm.trans c) (by decide)
    | lst hs' => rw [I.list_inj hs hs']
    | tup hs' =>
      obtain ⟨its', rv', ⟨o2', e', c', _⟩, hz'⟩ := I.tuple hs'
      rw [e] at e'; cases e'
      exact absurd (c.symm.trans c') (by decide)
  | tup hs =>
    obtain ⟨its, rv, ⟨o2, e, c, _⟩, hz⟩ := I.tuple hs
    cases h' with
    | dct ha =>
      obtain ⟨_, _, _, _, ob, en, ep, ho, hx, hdt, _⟩ := dk_of I.hok ha
      rw [e] at ho; cases ho
      exact absurd (hx.1.symm.trans c) (by decide)
    | tup hs' => rw [I.tuple_inj hs hs']
    | lst hs' =>
      obtain ⟨its', rv', ⟨o2', n', e', c', _⟩, hz'⟩ := I.list hs'
      rw [e] at e'; cases e'
      exact absurd (c.symm.trans c') (by decide)
end
section
variable {X : Cx}
theorem ps_match {e g : Expr} {b1 b2 : List Stmt} {x y z : Str} {i j k : Nat} {te : TE} {tg : TT} {t1 t2 : TS} {p1 p2 p3 p4 p5 p6 pos : Pos}
    (hc : X.calm = true) (hN : X.N.Nodup) (he : PE X e te)
    (hi : X.N[i]? = some x) (hj : X.N[j]? = some y) (hk : X.N[k]? = some z) (lx : Loc X.env.scope x) (ly : Loc X.env.scope y) (lz : Loc X.env.scope z)
    (hg : PT X g tg) (h1 : PSs X b1 t1) (h2 : PSs X b2 t2)
    (fx : X.fn x = true ∨ X.env.scope.names.lookup x = some .local := by first | exact .inl rfl | exact .inr rfl | assumption)
    (fy : X.fn y = true ∨ X.env.scope.names.lookup y = some .local := by first | exact .inl rfl | exact .inr rfl | assumption)
    (fz : X.fn z = true ∨ X.env.scope.names.lookup z = some .local := by first | exact .inl rfl | exact .inr rfl | assumption) :
    PS X (.Match e [⟨.MatchSequence [.MatchSequence [.MatchAs none (some x) p1, .MatchAs none (some y) p2] p3, .MatchAs none (some z) p4] p5, some g, b1⟩, ⟨.MatchAs none none p6, none, b2⟩] pos) (tMatch X.K te i j k tg t1 t2) := by
  refine ⟨fun pins s σ H D I h => ?_⟩
  refine wpAny_Match (thn (he.run pins s σ H _ I h) ?_)
  rintro u s1 ⟨v, H1, I1, rv, q⟩
  have hh := I1.ok.hd hc
  have last : ∀ (σ' : L2.St) (s' : Shared) (first : Bool) (H' : Hp), Inv X pins σ' H' s' → t2 D σ' H' → wpAny (model X.prog X.w) X.A (matchCases [⟨.MatchAs none none p6, none, b2⟩] X.env u first) (SP X pins D) X.xe s' := by
    intro σ' s' first H' I' q'
    refine wpAny_matchCases_cons (wpAny_matchPattern_Capture ?_)
    exact wpAny_assignInOrder_none (h2.run pins s' σ' H' D I' q')
  refine wpAny_matchCases_cons ?_
  rcases q with ⟨p, x0, y0, z0, hv, hp, q⟩ | ⟨⟨o, ho, mi⟩, q⟩
  · refine pat2 hh I1 rv hv rfl rfl (fun n => absurd rfl (n _ rfl)) ?_
    intro x' y' e a b s2 I2 r1 r2
    injection e with e
    injection e with e1 e
    injection e with e2 _
    subst e1 e2
    refine wpAny_matchEach_cons ?_
    refine pat2 hh I2 r1 hp rfl rfl (fun n => absurd rfl (n _ rfl)) ?_
    intro x'' y'' e a2 b2' s3 I3 r3 r4
    injection e with e
    injection e with e1 e
    injection e with e2 _
    subst e1 e2
    refine wpAny_matchEach_cons (wpAny_matchPattern_Capture (wpAny_matchEach_cons (wpAny_matchPattern_Capture (wpAny_matchEach_nil ?_))))
    refine wpAny_matchEach_cons (wpAny_matchPattern_Capture (wpAny_matchEach_nil ?_))
    show wpAny _ _ (assignInOrder [bindName X.env x, bindName X.env y, bindName X.env z] [a2, b2', b]) _ _ _
    refine wpAny_assignInOrder_more (wpAny_bindName (store_ok I3 hN hi lx r3 (fun s4 I4 => ?_) fx))
    refine wpAny_assignInOrder_more (wpAny_bindName (store_ok I4 hN hj ly r4 (fun s5 I5 => ?_) fy))
    refine wpAny_assignInOrder_more (wpAny_bindName (store_ok I5 hN hk lz r2 (fun s6 I6 => ?_) fz))
    refine wpAny_assignInOrder_none (thn (hg.run pins s6 _ _ _ I6 q) ?_)
    rintro c s7 ⟨H7, I7, q7⟩
    cases c with
    | true => exact h1.run pins s7 _ H7 D I7 q7
    | false => exact last _ s7 false H7 I7 q7
  · refine pat2 hh I1 rv ho rfl rfl (fun _ s2 I2 => last _ s2 false _ I2 q) ?_
    intro x' y' e a b s2 I2 r1 r2
    obtain ⟨o', ho', mi'⟩ := mi _ _ e
    refine wpAny_matchEach_cons ?_
    refine pat2 hh I2 r1 ho' rfl rfl (fun _ s3 I3 => last _ s3 false _ I3 q) ?_
    intro x'' y'' e' 
    exact absurd e' (mi' _ _)
theorem matchK (K : PySem.W.Frag) {te : TE} {i j k : Nat} {tg : TT} {t1 t2 : TS} {st : Stmt} (p : PS X st (tMatch X.K te i j k tg t1 t2)) (h : X.K = K := by rfl) : PS X st (tMatch K te i j k tg t1 t2) := h ▸ p
end
end Lay
namespace PySem.SeqAt
theorem gives_lt_bool_int (p : Bool) (b : Int) (u : Tok) : Gives (Builtin.«int.__lt__» ⟨[.bool p, .int b u], []⟩) (.val (Value.bool ((fun x1 x2 => decide (x1 < x2)) (if p = true then (1 : Int) else 0) b))) :=
  .of_wp fun M A E s Q h => by obtain ⟨hp, g, d, tk, os⟩ := s; wp_walk; exact ⟨_, rfl, h⟩
theorem gives_le_bool_int (p : Bool) (b : Int) (u : Tok) : Gives (Builtin.«int.__le__» ⟨[.bool p, .int b u], []⟩) (.val (Value.bool ((fun x1 x2 => decide (x1 ≤ x2)) (if p = true then (1 : Int) else 0) b))) :=
  .of_wp fun M A E s Q h => by obtain ⟨hp, g, d, tk, os⟩ := s; wp_walk; exact ⟨_, rfl, h⟩
end PySem.SeqAt
namespace Lay
open PySem PySem.Spec PyProof.Rows L2
section
variable {X : Cx}
def numV : V → Option Int
  | .int i => some i
  | .bl b => some (if b = true then 1 else 0)
  | _ => none
def rNum (f : Int → Int → Bool) : R2 := fun x y H Q => ∃ i j, numV x = some i ∧ y = .int j ∧ Q (.bl (f i j)) H
theorem op_ltN : OpR X (compareOp .Lt) (rNum fun i j => decide (i < j)) := by
  intro pins s σ H x y v u Q I rx ry h
  obtain ⟨i, j, hx, rfl, q⟩ := h
  obtain ⟨t, rfl⟩ := ry
  cases x with
  | int a =>
    obtain ⟨t2, rfl⟩ := rx
    cases hx
    exact PyProof.Rows.lt_int ⟨.bl _, H, I, rfl, q⟩
  | bl b =>
    cases rx
    cases hx
    exact SeqAt.rc_left_or (op := .Lt) rfl (typeIs_int s j t) (by decide) F.sub_int_bool F.slot_bool_lt
      (call_gives F.slot_bool_lt rfl F.entry_int_lt (F.args_int_lt_2 _ _) (SeqAt.gives_lt_bool_int b j t) ⟨nofun, ⟨.bl _, H, I, rfl, q⟩⟩) (.inl rfl)
  | _ => cases hx
theorem op_leN : OpR X (compareOp .LtE) (rNum fun i j => decide (i ≤ j)) := by
  intro pins s σ H x y v u Q I rx ry h
  obtain ⟨i, j, hx, rfl, q⟩ := h
  obtain ⟨t, rfl⟩ := ry
  cases x with
  | int a =>
    obtain ⟨t2, rfl⟩ := rx
    cases hx
    exact PyProof.Rows.le_int ⟨.bl _, H, I, rfl, q⟩
  | bl b =>
    cases rx
    cases hx
    exact SeqAt.rc_left_or (op := .LtE) rfl (typeIs_int s j t) (by decide) F.sub_int_bool F.slot_bool_le
      (call_gives F.slot_bool_le rfl F.entry_int_le (F.args_int_le_2 _ _) (SeqAt.gives_le_bool_int b j t) ⟨nofun, ⟨.bl _, H, I, rfl, q⟩⟩) (.inl rfl)
  | _ => cases hx
theorem ltTK (K : PySem.W.Frag) (hu : X.A.units < cLine) (h : X.K = K := by rfl) : OpR X (compareOp .Lt) (rLtT K) := h ▸ op_ltT hu
/-- text * 2 -/
def rRepS : R2 := fun x y H Q => ∃ z : Str, x = .str z ∧ y = .int 2 ∧ z.length ≤ 1000000 ∧ Q (.str (z ++ z)) H
theorem op_repS : OpR X (binaryOp .Mult) rRepS := by
  intro pins s σ H x y v u Q I rx ry h
  obtain ⟨z, rfl, rfl, hl, q⟩ := h
  obtain ⟨t, rfl⟩ := rx
  obtain ⟨t2, rfl⟩ := ry
  have e : (⟨(List.replicate (2 : Int).toNat z.cps).foldl (· ++ ·) #[]⟩ : Str) = z ++ z := by
    show (⟨(#[] ++ z.cps) ++ z.cps⟩ : Str) = ⟨z.cps ++ z.cps⟩
    rw [Array.empty_append]
  have small : Builtin.Str.tooLong (z.length * (2 : Int).toNat) = false := by
    unfold Builtin.Str.tooLong
    rw [sizeLine_eq]
    simp
    omega
  refine P.mul_str (by decide) (fun _ _ => ?_) (fun _ _ => small) ?_
  · have : ((2 : Int) ^ 63 - 1) / 2 = 4611686018427387903 := by decide +kernel
    rw [this]
    omega
  · rw [if_neg (by decide)]
    by_cases hz : ((2 : Int) == 1 || z.length == 0) = true
    · rw [if_pos hz]
      have h0 : z.length = 0 := by simpa using hz
      have : z ++ z = z := by
        have hc : z.cps = #[] := Array.eq_empty_of_size_eq_zero h0
        show (⟨z.cps ++ z.cps⟩ : Str) = z
        rw [hc]
        cases z
        simp only at hc
        subst hc
        rfl
      rw [this] at q
      exact ⟨.str _, H, I, ⟨t, rfl⟩, q⟩
    · rw [if_neg hz, e]
      refine ⟨?_, ⟨.str _, H, I.tok _, ⟨_, rfl⟩, q⟩⟩
      rw [Str.length_append, sizeLine_eq]
      omega
end
end Lay
namespace Lay
open PySem PySem.Spec PyProof.Rows L2
theorem sameT {K : PySem.W.Frag} {F G : Hp} {a : Addr} {xs : List V} (e : Same F G) (h : SqT K F a xs) : SqT K G a xs := by
  rcases h with h | h
  · rcases h with h | ⟨o, h⟩
    · exact .inl (.inl (e _ _ h))
    · exact .inl (.inr ⟨o, e _ _ h⟩)
  · exact .inr h
mutual
theorem Dx.sub {K : PySem.W.Frag} {F G : Hp} (s : Same F G) : ∀ {v : V} {d : PyData}, Dx K F v d → Dx K G v d
  | _, _, .non => .non
  | _, _, .bl b => .bl b
  | _, _, .int i => .int i
  | _, _, .str x => .str x
  | _, _, .lst h a => .lst (s.seq h) (DxAll.sub s a)
  | _, _, .tup h a => .tup (sameT s h) (DxAll.sub s a)
  | _, _, .dct h e a => .dct (s _ _ h) e (DxAll.sub s a)
theorem DxAll.sub {K : PySem.W.Frag} {F G : Hp} (s : Same F G) : ∀ {vs : List V} {ds : List PyData}, DxAll K F vs ds → DxAll K G vs ds
  | _, _, .nil => .nil
  | _, _, .cons h r => .cons (Dx.sub s h) (DxAll.sub s r)
end
theorem DxAll.snoc {K : PySem.W.Frag} {F : Hp} {v : V} {d : PyData} (h : Dx K F v d) : ∀ {vs : List V} {ds : List PyData}, DxAll K F vs ds → DxAll K F (vs ++ [v]) (ds ++ [d])
  | _, _, .nil => .cons h .nil
  | _, _, .cons a r => .cons a (r.snoc h)
theorem DxAll.len {K : PySem.W.Frag} {F : Hp} : ∀ {vs : List V} {ds : List PyData}, DxAll K F vs ds → vs.length = ds.length
  | _, _, .nil => rfl
  | _, _, .cons a r => by simp [r.len]
/-- what is new in H' -/
def new (H H' : Hp) : Hp := fun b => if H b = none then H' b else none
theorem new_sub (H H' : Hp) : Same (new H H') H' := by
  intro b o e
  unfold new at e
  split at e
  · exact e
  · cases e
theorem text_le : ∀ (ts : List Str) (k : Nat) (acc : Str), (textFrom k acc ts).length ≤ acc.length + piled ts
  | [], k, acc => by simp [textFrom, piled_nil]
  | t :: r, k, acc => by
    have ih := text_le r (k + 1) (acc ++ (if k > 0 then ", " else "" : String) ++ t)
    have e : (acc ++ (if k > 0 then ", " else "" : String) ++ t).length ≤ acc.length + 2 + t.length := by
      rw [strLen_append, strLen_append]
      split
      · exact Nat.le_refl _
      · show acc.length + 0 + t.length ≤ _
        omega
    rw [piled_cons]
    show (textFrom (k + 1) _ r).length ≤ _
    omega
theorem list_le (ts : List Str) : (listText ts).length ≤ piled ts + 2 := by
  unfold listText
  rw [strLen_append]
  have := text_le ts 0 "["
  have e : ("[" : Str).length = 1 := by decide +kernel
  have e2 : ("]" : Str).length = 1 := by decide +kernel
  omega
theorem join_le (ts : List Str) : (Str.join ", " ts).length ≤ piled ts := by
  cases ts with
  | nil => exact Nat.le_of_eq (by decide +kernel)
  | cons a r =>
    have := join_length_add (a :: r) (by simp)
    omega
theorem tuple_le (ts : List Str) : (tupleText ts).length ≤ piled ts + 3 := by
  unfold tupleText
  rw [strLen_append, strLen_append]
  have := join_le ts
  have e : ("(" : Str).length = 1 := by decide +kernel
  have e2 : (((if ts.length == 1 then ",)" else ")" : String)) : Str).length ≤ 2 := by
    split
    · exact Nat.le_of_eq (by decide +kernel)
    · exact Nat.le_trans (Nat.le_of_eq (show (")" : Str).length = 1 by decide +kernel)) (by decide)
  omega
theorem dict_le (ts : List Str) : (dictText ts).length ≤ piled ts + 2 := by
  unfold dictText
  rw [strLen_append, strLen_append]
  have := join_le ts
  have e : ("{" : Str).length = 1 := by decide +kernel
  have e2 : ("}" : Str).length = 1 := by decide +kernel
  omega
/-- data that is small: it can be told -/
structure Sm (n b : Nat) (d : PyData) : Prop where
  sh : d.showable = true
  dp : d.depth ≤ n
  ln : d.shown.length ≤ b
theorem Sm.all {n b : Nat} : ∀ {ds : List PyData}, (∀ d ∈ ds, Sm n b d) →
    PyData.showableAll ds = true ∧ PyData.depthAll ds ≤ n ∧ piled (PyData.shownAll ds) ≤ ds.length * (b + 2)
  | [], _ => ⟨by simp [PyData.showableAll], by simp [PyData.depthAll], by simp [PyData.shownAll, piled_nil]⟩
  | d :: r, h => by
    obtain ⟨a1, a2, a3⟩ := Sm.all (ds := r) (fun x hx => h x (List.mem_cons_of_mem _ hx))
    obtain ⟨h1, h2, h3⟩ := h d (List.mem_cons_self ..)
    refine ⟨by simp [PyData.showableAll, h1, a1], by simp only [PyData.depthAll]; omega, ?_⟩
    simp only [PyData.shownAll, piled_cons, List.length_cons]
    rw [Nat.add_mul]
    omega
theorem Sm.list {n b m c : Nat} {ds : List PyData} (h : ∀ d ∈ ds, Sm n b d) (hm : ds.length ≤ m) (hc : m * (b + 2) + 2 ≤ c) : Sm (n + 1) c (.list ds) := by
  obtain ⟨a1, a2, a3⟩ := Sm.all h
  have := list_le (PyData.shownAll ds)
  have := Nat.mul_le_mul_right (b + 2) hm
  refine ⟨by simp [PyData.showable, a1], by simp only [PyData.depth]; omega, ?_⟩
  simp only [PyData.shown]
  omega
theorem Sm.tuple {n b m c : Nat} {ds : List PyData} (h : ∀ d ∈ ds, Sm n b d) (hm : ds.length ≤ m) (hc : m * (b + 2) + 3 ≤ c) : Sm (n + 1) c (.tuple ds) := by
  obtain ⟨a1, a2, a3⟩ := Sm.all h
  have := tuple_le (PyData.shownAll ds)
  have := Nat.mul_le_mul_right (b + 2) hm
  refine ⟨by simp [PyData.showable, a1], by simp only [PyData.depth]; omega, ?_⟩
  simp only [PyData.shown]
  omega
theorem Sm.mono {n b n' b' : Nat} {d : PyData} (h : Sm n b d) (hn : n ≤ n') (hb : b ≤ b') : Sm n' b' d := ⟨h.sh, Nat.le_trans h.dp hn, Nat.le_trans h.ln hb⟩
/-- {k: x, i: None} -/
theorem Sm.dict {n b c : Nat} {x : PyData} {k i : PyData} (h : Sm n b x) (hk : Sm 0 3 k) (hi : Sm 0 3 i) (hc : b + 30 ≤ c) : Sm (n + 1) c (.dict [(k, x), (i, .none)]) := by
  obtain ⟨h1, h2, h3⟩ := h
  obtain ⟨k1, k2, k3⟩ := hk
  obtain ⟨i1, i2, i3⟩ := hi
  refine ⟨by simp [PyData.showable, PyData.showableKv, h1, k1, i1], ?_, ?_⟩
  · simp only [PyData.depth, PyData.depthKv]
    omega
  · simp only [PyData.shown, PyData.shownKv]
    have := dict_le [k.shown ++ ": " ++ x.shown, i.shown ++ ": " ++ ("None" : Str)]
    simp only [piled_cons, piled_nil, strLen_append] at this
    have e1 : (": " : Str).length = 2 := by decide +kernel
    have e2 : ("None" : Str).length = 4 := by decide +kernel
    omega
end Lay
/-! tuple(xs) whose object is known; dict(pairs) with tuples for keys, pairs in such a tuple. -/
namespace LT
open PySem PySem.Spec PyProof.Rows L2 Lay
section
variable {X : Cx}
/-- a new tuple of a list's items, with the very object that it is -/
def rTupF (K : PySem.W.Frag) : List V → Hp → VK → Prop := fun xs H Q => ∃ a ys, xs = [.ref a] ∧ SqL K H a ys ∧ ∀ l ob, H l = none → ob.dict = none → Q (.ref l) (upd H l (.frz ob (.tup ys)))
theorem call_tupF : CallR X (.type "tuple") (rTupF X.K) := by
  intro pins s σ H xs us Q I rel hyp
  obtain ⟨a, ys, rfl, seq, next⟩ := hyp
  obtain ⟨u, rfl, ru⟩ := vals1 rel
  cases ru
  obtain ⟨ws, rw', plain, small⟩ := I.list seq
  have same := rw'.length
  refine call_tuple_list plain.isList (fun g kp => ?_) (by simp only [List.size_toArray]; omega)
  have J : Inv X pins σ H { s with heap := g } := I.kept (t' := s.toks) kp
  let ob : Obj := { cls := .type "tuple", data := .seq ws.toArray }
  have ok : ObjOk X.prog X.w (upd H g.objs.size (.frz ob (.tup ys))) (g.push ob) g.objs.size (.frz ob (.tup ys)) :=
    ⟨Heap.get?_push_size _ rfl, small, ws, rw', IsTup.new _ _⟩
  have J2 : Inv X pins σ (upd H g.objs.size (.frz ob (.tup ys))) { s with heap := g.push ob } := J.laid (t' := s.toks) (fun b v e => Heap.get?_push_of_some _ e) (Nat.le_refl _) ok
  exact ⟨.ref g.objs.size, _, J2, rfl, next _ ob (J.hok.fresh (Nat.le_refl _)) rfl⟩
/-- a pair at an address: its key, where the key stands, its value -/
abbrev PairRow := Addr × List Key × Addr × V
abbrev RowIs (h : Heap) (r : PairRow) (q : List Key × Addr × Value) : Prop := q.1 = r.2.1 ∧ q.2.1 = r.2.2.1 ∧ RelV r.2.2.2 q.2.2 ∧ PairAt h r.1 (.ref r.2.2.1) q.2.2
theorem rows_of {pins : List (Addr × Obj)} {σ : L2.St} {H : Hp} {s : Shared} (I : Inv X pins σ H s) : ∀ {rs : List PairRow},
    (∀ r ∈ rs, SqT X.K H r.1 [.ref r.2.2.1, r.2.2.2] ∧ H r.2.2.1 = some (.tup (r.2.1.map kV))) → ∃ qs, Paired (RowIs s.heap) rs qs
  | [], _ => ⟨[], .nil⟩
  | r :: rs, hyp => by
    obtain ⟨qs, rest⟩ := rows_of I fun q hq => hyp q (List.mem_cons_of_mem _ hq)
    obtain ⟨its, rel, there, _⟩ := I.tuple (hyp r (List.mem_cons_self ..)).1
    obtain ⟨u, y, rfl, ru, ry⟩ := vals2 rel
    cases ru
    obtain ⟨ob, h1, h2, n, h3⟩ := there
    exact ⟨(r.2.1, r.2.2.1, y) :: qs, .cons ⟨rfl, rfl, ry, .inl ⟨ob, h1, h2, n, h3⟩⟩ rest⟩
theorem paired_at {α β : Type} {R : α → β → Prop} : ∀ {xs : List α} {ys : List β}, Paired R xs ys → xs.length = ys.length ∧ ∀ (j : Nat) (y : β), ys[j]? = some y → ∃ x, xs[j]? = some x ∧ R x y
  | _, _, .nil => ⟨rfl, fun j y e => by simp at e⟩
  | _, _, .cons h t => by
    obtain ⟨len, each⟩ := paired_at t
    refine ⟨by simp [len], fun j y e => ?_⟩
    cases j with
    | zero => exact ⟨_, rfl, by have := Option.some.inj e; exact this ▸ h⟩
    | succ j => simpa using each j y (by simpa using e)
theorem stored_app {κ : Type} [DecidableEq κ] : ∀ (ps acc : List (κ × Addr × Value)), ((acc ++ ps).map (·.1)).Nodup → storedAllH acc ps = acc ++ ps
  | [], acc, _ => by simp [storedAllH]
  | p :: ps, acc, nd => by
    have none' : atKey acc p.1 = none := by
      unfold atKey
      rw [Option.map_eq_none_iff, List.find?_eq_none]
      intro q hq
      rw [decide_eq_true_eq]
      intro e
      rw [List.map_append, List.map_cons] at nd
      have := (List.nodup_append.mp nd).2.2 q.1 (List.mem_map.mpr ⟨q, hq, rfl⟩) p.1 (List.mem_cons_self ..)
      exact this e
    have one : storedH acc p.1 p.2.1 p.2.2 = acc ++ [p] := by
      unfold storedH
      rw [none', if_neg (by simp)]
    have e : acc ++ p :: ps = (acc ++ [p]) ++ ps := by simp
    show storedAllH (storedH acc p.1 p.2.1 p.2.2) ps = _
    rw [one, stored_app ps (acc ++ [p]) (by rw [← e]; exact nd), e]
theorem kt_of {H : Hp} {h : Heap} : ∀ {rs : List PairRow} {qs : List (List Key × Addr × Value)}, Paired (RowIs h) rs qs → (∀ r ∈ rs, H r.2.2.1 = some (.tup (r.2.1.map kV))) →
    Paired (fun (p : List Key × V) (q : List Key × Addr × Value) => p.1 = q.1 ∧ H q.2.1 = some (.tup (p.1.map kV)) ∧ RelV p.2 q.2.2) (rs.map fun r => (r.2.1, r.2.2.2)) qs
  | _, _, .nil, _ => .nil
  | _, _, .cons (a := r) h t, hyp => .cons ⟨h.1.symm, by rw [h.2.1]; exact hyp r (List.mem_cons_self ..), h.2.2.1⟩ (kt_of t fun q hq => hyp q (List.mem_cons_of_mem _ hq))
/-- dict(t) of a tuple whose object is known, of pairs whose first items are tracked tuples, all of them distinct -/
def rDictT (K : PySem.W.Frag) : List V → Hp → VK → Prop := fun xs H Q => ∃ (a : Addr) (ob : Obj) (rs : List PairRow), xs = [.ref a] ∧ H a = some (.frz ob (.tup (rs.map fun r => V.ref r.1))) ∧ ob.dict = none ∧
  (∀ r ∈ rs, SqT K H r.1 [.ref r.2.2.1, r.2.2.2] ∧ H r.2.2.1 = some (.tup (r.2.1.map kV))) ∧ (rs.map (·.2.1)).Nodup ∧
  ∀ l, H l = none → Q (.ref l) (upd H l (.dT (rs.map fun r => (r.2.1, r.2.2.2))))
theorem call_dictT (calm : X.calm = true) (hu : X.A.units + 3 < cLine) : CallR X (.type "dict") (rDictT X.K) := by
  intro pins s σ H xs us Q I rel hyp
  obtain ⟨a, ob, rs, rfl, ha, hdn, hrs, ndk, next⟩ := hyp
  obtain ⟨u, rfl, ru⟩ := vals1 rel
  cases ru
  obtain ⟨ga, small, its, rv, tp⟩ := (show ObjOk X.prog X.w H s.heap a (.frz ob (.tup (rs.map fun r => V.ref r.1))) from I.hok a _ ha)
  obtain ⟨ob', ga', cl, n, dat⟩ := tp
  have eo : ob' = ob := Option.some.inj (ga'.symm.trans ga)
  subst eo
  rw [List.length_map] at small
  obtain ⟨qs, pq⟩ := rows_of I hrs
  obtain ⟨ql, each⟩ := paired_at pq
  have keys : qs.map (·.1) = rs.map (·.2.1) := by
    clear each ql ndk next hrs ha rv small dat ga
    induction pq with
    | nil => rfl
    | cons h t ih => rw [List.map_cons, List.map_cons, ih, h.1]
  have key_ok : ∀ g : Heap, (∀ b o, b ≠ s.heap.objs.size → s.heap.get? b = some o → g.get? b = some o) → ∀ q ∈ qs, (tupleKind (mixKind X.prog X.w)).is g q.1 q.2.1 := by
    intro g kg q hq
    obtain ⟨j, hj⟩ := List.getElem?_of_mem hq
    obtain ⟨r, hr, e1, e2, _⟩ := each j q hj
    have := key_of I.hok (hrs r (List.mem_of_getElem? hr)).2
    rw [← e1, ← e2] at this
    obtain ⟨o, items, m, g1, g2, g3, g4⟩ := this
    exact ⟨o, items, m, kg _ _ (Nat.ne_of_lt (Heap.lt_size g1)) g1, g2, g3, g4⟩
  have P := PairArg.tuple (prog := X.prog) (w := X.w) a its.toArray (fun j => (rs.map (·.1)).getD j 0) (qs.map fun q => (Value.ref q.2.1, q.2.2))
  refine call_dict_pairsH (knd := tupleKind (mixKind X.prog X.w)) (ps := qs) P (I.ok.hd calm) ?_ ⟨⟨_, n, ga, cl, hdn, dat⟩, ?_, ?_⟩ ⟨by rw [List.length_map], ?_⟩ ?_ ?_ ?_
  · show X.A.units + 1 + 1 < cLine
    omega
  · have := rv.length
    rw [List.length_map] at this
    rw [List.size_toArray, List.length_map, ← this, ql]
  · intro j k v e
    rw [List.getElem?_map] at e
    obtain ⟨q, hq, e'⟩ := Option.map_eq_some_iff.mp e
    obtain ⟨r, hr, e1, e2, e3, e4⟩ := each j q hq
    have at1 : (rs.map fun r => V.ref r.1)[j]? = some (V.ref r.1) := by rw [List.getElem?_map, hr]; rfl
    obtain ⟨u, h1, h2⟩ := rv.get at1
    cases h2
    have t : (rs.map (·.1)).getD j 0 = r.1 := by rw [List.getD_eq_getElem?_getD, List.getElem?_map, hr]; rfl
    have ek := Prod.mk.inj e'
    show its.toArray[j]? = some (Value.ref ((rs.map (·.1)).getD j 0)) ∧ PairAt s.heap ((rs.map (·.1)).getD j 0) k v
    rw [t, ← ek.1, ← ek.2, e2]
    exact ⟨by simpa using h1, e4⟩
  · intro j k v e
    have e0 : (qs.map fun q => (Value.ref q.2.1, q.2.2))[j]? = some (k, v) := e
    rw [List.getElem?_map] at e0
    obtain ⟨q, hq, e'⟩ := Option.map_eq_some_iff.mp e0
    have ek := Prod.mk.inj e'
    exact ⟨q.1, q.2.1, by rw [hq, ← ek.2], ek.1.symm⟩
  · intro g kg q hq
    exact key_ok g (fun b o hb e => kg b o hb (by simp) e) q hq
  · rw [List.length_map, ← ql]
    exact small
  · intro g tk hd' kg
    have nd : ((([] : List (List Key × Addr × Value)) ++ qs).map (fun q => q.1)).Nodup := by rw [List.nil_append, keys]; exact ndk
    rw [stored_app qs [] nd, List.nil_append] at hd'
    obtain ⟨o, es, ep, h1, h2, h3, h4, _, h6⟩ := hd'
    have hm : (s.heap.objs.size == sysModules) = false := beq_eq_false_iff_ne.mpr (Nat.ne_of_gt I.big)
    have fresh := I.hok.fresh (Nat.le_refl s.heap.objs.size)
    have kt : Paired (fun (p : List Key × V) (q : List Key × Addr × Value) => p.1 = q.1 ∧ upd H s.heap.objs.size (.dT (rs.map fun r => (r.2.1, r.2.2.2))) q.2.1 = some (.tup (p.1.map kV)) ∧ RelV p.2 q.2.2) (rs.map fun r => (r.2.1, r.2.2.2)) qs := by
      refine kt_of pq fun r hr => ?_
      have hk := (hrs r hr).2
      rw [upd_ne (ne_of_none hk fresh)]
      exact hk
    exact ⟨.ref s.heap.objs.size, _, I.laid (t' := tk) (fun b v e => kg b v (by simp) e) (Nat.le_refl _) (show ObjOk X.prog X.w _ _ _ (.dT (rs.map fun r => (r.2.1, r.2.2.2))) from ⟨by rw [List.length_map]; exact small, hm, qs, kt, o, es, ep, h1, h2, h3, h4, h6⟩), rfl, next _ fresh⟩
theorem tupFK (K : PySem.W.Frag) (h : X.K = K := by rfl) : CallR X (.type "tuple") (rTupF K) := h ▸ call_tupF
theorem dictTK (K : PySem.W.Frag) (calm : X.calm = true) (hu : X.A.units + 3 < cLine) (h : X.K = K := by rfl) : CallR X (.type "dict") (rDictT K) := h ▸ call_dictT calm hu
theorem key_any {pins : List (Addr × Obj)} {σ : L2.St} {H : Hp} {s : Shared} {b : Addr} {ks : List Key} (I : Inv X pins σ H s) (h : SqT X.K H b (ks.map kV)) : (tupleKind (mixKind X.prog X.w)).is s.heap ks b := by
  obtain ⟨its, rel, ⟨o, h1, h2, n, h3⟩, _⟩ := I.tuple h
  exact ⟨o, its.toArray, n, h1, h2, h3, by simpa using items_are rel⟩
/-- d[t], t any tuple of ints and texts, also one of the program's text -/
def tDGetX (K : PySem.W.Frag) (td ty : TE) : TE := fun σ H Q => td σ H fun x H1 => ty σ H1 fun y H2 => ∃ a kvs k b v, x = .ref a ∧ Rd H2 a (.dT kvs) ∧ y = .ref b ∧ SqT K H2 b (List.map kV k) ∧ valV kvs k = some v ∧ Q v H2
theorem pe_dgetX {o i : Expr} {td ty : TE} {pos : Pos} (hu : X.A.units + 1 < cLine) (ho : PE X o td) (hi : PE X i ty) (hs : NoSl i) : PE X (.Subscript o i pos) (tDGetX X.K td ty) := by
  refine ⟨fun pins s σ H Q I hyp => ?_⟩
  refine subD_of PySem.F.slot_dict_getitem.lookup hs (thn (ho.run pins s σ H _ I hyp) fun u s1 ⟨x, H1, I1, rx, q1⟩ => thn (hi.run pins s1 σ H1 _ I1 q1) fun iv s2 ⟨y, H2, I2, ry, a, kvs, k, b, v, ex, e, ey, eb, l, q2⟩ => ?_)
  subst ex ey
  obtain rfl : u = Value.ref a := rx
  cases (show iv = Value.ref b from ry)
  obtain ⟨_, _, rows, rel, dd⟩ := dt_rd I2.hok e
  have ty : s2.TypeIs (.ref a) "dict" := by
    obtain ⟨ob, es, ep, h1, h2, _⟩ := dd
    exact ⟨ob, h1, h2.1⟩
  refine ⟨ty, ?_⟩
  obtain ⟨w', hw, rw'⟩ := RelO.some_of (v := v) (o := (atKey rows k).map (·.2)) (by rw [← l]; exact rel.val k)
  obtain ⟨p, hp, hp2⟩ := Option.map_eq_some_iff.mp hw
  refine wpAny_getItem_heap (tupleKind_room_in1 hu) (key_any I2 eb) dd hp ?_
  rw [hp2]
  exact ⟨v, H2, I2.tok _, rw', q2⟩
theorem dgetXK (K : PySem.W.Frag) {ex : Expr} {td ty : TE} (p : PE X ex (tDGetX X.K td ty)) (h : X.K = K := by rfl) : PE X ex (tDGetX K td ty) := h ▸ p
end
end LT
/-! New tuples with their objects: keys (ints and texts) are plain, all others are held with the object that they are. -/
namespace LA
open PySem PySem.Spec PyProof.Rows L2 Lay
def isKV : V → Bool
  | .int _ => true
  | .str _ => true
  | _ => false
/-- a tuple that may be a key of a dict -/
def keyV (xs : List V) : Bool := !xs.isEmpty && xs.all isKV
def tupO (ob : Obj) (xs : List V) : HO := if keyV xs = true then .tup xs else .frz ob (.tup xs)
def TupAt (F : Hp) (a : Addr) (xs : List V) : Prop := ∃ ob : Obj, ob.dict = none ∧ F a = some (tupO ob xs)
section
variable {X : Cx} {K : PySem.W.Frag} {F : Hp} {a : Addr} {xs : List V}
theorem TupAt.sq (h : TupAt F a xs) : SqT K F a xs := by
  obtain ⟨ob, _, h⟩ := h
  unfold tupO at h
  split at h
  · exact .inl (.inl h)
  · exact .inl (.inr ⟨ob, h⟩)
theorem TupAt.new {ob : Obj} (hd : ob.dict = none) (h : F a = some (tupO ob xs)) : TupAt F a xs := ⟨ob, hd, h⟩
theorem TupAt.key (h : TupAt F a xs) (hk : keyV xs = true) : F a = some (.tup xs) := by
  obtain ⟨ob, _, h⟩ := h
  unfold tupO at h
  rw [if_pos hk] at h
  exact h
theorem TupAt.held (h : TupAt F a xs) (hk : keyV xs = false) : ∃ ob, ob.dict = none ∧ F a = some (.frz ob (.tup xs)) := by
  obtain ⟨ob, hd, h⟩ := h
  unfold tupO at h
  rw [if_neg (by rw [hk]; decide)] at h
  exact ⟨ob, hd, h⟩
theorem tupO_ok {P : Program} {w : World} {G : Hp} {h : Heap} {its : List Value} (r : Vals xs its) (hz : xs.length ≤ sizeLine) : ObjOk P w G (h.push { cls := .type "tuple", data := .seq its.toArray }) h.objs.size (tupO { cls := .type "tuple", data := .seq its.toArray } xs) := by
  unfold tupO
  split
  · exact ⟨hz, its, r, IsTup.new _ _⟩
  · exact ⟨Heap.get?_push_size _ rfl, hz, its, r, IsTup.new _ _⟩
variable {es : List Expr} {t : TA} {pos : Pos}
def tTupF (t : TA) : TE := fun σ H Q => t σ H fun xs H1 => xs.length ≤ sizeLine ∧ ∀ p ob, H1 p = none → ob.dict = none → Q (.ref p) (upd H1 p (tupO ob xs))
theorem pe_tupF {x1} (h : PA X es t) : PE X (.Tuple es x1 pos) (tTupF t) := by
  refine ⟨fun pins s σ H Q I hq => ?_⟩
  refine wpAny_Tuple_spliced (thn (h.run pos pins s σ H _ I hq) fun us s1 ⟨xs, H1, I1, r, z, q⟩ => ⟨by rw [← r.length]; exact z, ?_⟩)
  have hf : H1 s1.heap.objs.size = none := I1.hok.fresh (Nat.le_refl _)
  exact ⟨.ref s1.heap.objs.size, upd H1 s1.heap.objs.size (tupO _ xs), I1.laid (t' := s1.toks) (fun b u e => Heap.get?_push_of_some _ e) (Nat.le_refl _) (tupO_ok r z), rfl, q _ _ hf rfl⟩
def rCatF (K : PySem.W.Frag) : R2 := fun x y H Q => ∃ a b xs ys, x = .ref a ∧ y = .ref b ∧ SqT K H a xs ∧ SqT K H b ys ∧ xs.length + ys.length ≤ sizeLine ∧
  (xs = [] → Q (.ref b) H) ∧ (xs ≠ [] → ys = [] → Q (.ref a) H) ∧ (xs ≠ [] → ys ≠ [] → ∀ p ob, H p = none → ob.dict = none → Q (.ref p) (upd H p (tupO ob (xs ++ ys))))
theorem op_catF : OpR X (binaryOp .Add) (rCatF X.K) := by
  intro pins s σ H x y v u Q I rx ry h
  obtain ⟨a, b, xs, ys, rfl, rfl, ha, hb, hz, q0, q1, q2⟩ := h
  cases rx
  cases ry
  obtain ⟨its, r1, p1, _⟩ := I.tuple ha
  obtain ⟨its2, r2, p2, _⟩ := I.tuple hb
  by_cases hx : xs = []
  · subst hx
    cases r1
    exact cat_tup0 p1 p2 ⟨.ref b, H, I, rfl, q0 rfl⟩
  · refine HT.cat_tup p1 p2 (fun z => hx (r1.nil_iff.mp z)) (fun z => ⟨.ref a, H, I, rfl, q1 hx (r2.nil_iff.mp z)⟩) (fun z => ?_) (by rw [← r1.length, ← r2.length]; exact hz)
    exact ⟨.ref s.heap.objs.size, _, I.laid (t' := s.toks) (o := tupO _ (xs ++ ys)) (fun b ob q => Heap.get?_push_of_some _ q) (Nat.le_refl _) (tupO_ok (r1.append r2) (by rw [List.length_append]; exact hz)), rfl,
      q2 hx (fun w => z (r2.nil_iff.mpr w)) _ _ (I.hok.fresh (Nat.le_refl _)) rfl⟩
def rSlF (K : PySem.W.Frag) : V → Option Int → Option Int → Hp → VK → Prop := fun x lo hi H Q => ∃ a xs, x = .ref a ∧ SqT K H a xs ∧
  (HT.sIx xs.length 0 lo = 0 ∧ HT.sIx xs.length xs.length hi = xs.length → Q (.ref a) H) ∧ (¬ (HT.sIx xs.length 0 lo = 0 ∧ HT.sIx xs.length xs.length hi = xs.length) → ∀ p ob, H p = none → ob.dict = none → Q (.ref p) (upd H p (tupO ob (cutV xs lo hi))))
theorem sl_tupF : SlR X (rSlF X.K) := by
  intro pins s σ H x v vl vu lo hi sl Q I rx hs pl pu h
  obtain ⟨a, xs, rfl, hx, q1, q2⟩ := h
  cases rx
  obtain ⟨its, r, ht, hz⟩ := I.tuple hx
  have hlen : its.toArray.size = xs.length := by rw [List.size_toArray]; exact r.length.symm
  refine ⟨"tuple", _, PyProof.Rows.slot_tuple_getitem.lookup, ht.typeIs, ?_⟩
  by_cases hw : HT.sIx xs.length 0 lo = 0 ∧ HT.sIx xs.length xs.length hi = xs.length
  · exact getItem_tuple_whole ht hs pl pu (by rw [hlen]; exact hw) ⟨.ref a, H, I, rfl, q1 hw⟩
  · refine HT.getItem_tuple_cut ht hs pl pu (by rw [hlen]; exact hw) ?_ (by rw [hlen]; exact hz)
    rw [hlen]
    exact ⟨.ref s.heap.objs.size, _, I.laid (t' := s.toks) (o := tupO _ (cutV xs lo hi)) (fun b ob q => Heap.get?_push_of_some _ q) (Nat.le_refl _)
      (tupO_ok ((r.drop (HT.sIx xs.length 0 lo)).take (HT.sIx xs.length xs.length hi - HT.sIx xs.length 0 lo)) (Nat.le_trans (cutV_length xs lo hi) hz)), rfl, q2 hw _ _ (I.hok.fresh (Nat.le_refl _)) rfl⟩
def rTupleF (K : PySem.W.Frag) : List V → Hp → VK → Prop := fun xs H Q => ∃ p ys, xs = [.ref p] ∧ ((SqL K H p ys ∧ ∀ l ob, H l = none → ob.dict = none → Q (.ref l) (upd H l (tupO ob ys))) ∨ (SqT K H p ys ∧ Q (.ref p) H))
theorem call_tupleF : CallR X (.type "tuple") (rTupleF X.K) := by
  intro pins s σ H xs us Q I r h
  obtain ⟨p, ys, rfl, h⟩ := h
  obtain ⟨u, rfl, rx⟩ := vals1 r
  cases rx
  rcases h with ⟨hq, q⟩ | ⟨hq, q⟩
  · obtain ⟨its, r', pl, hz⟩ := I.list hq
    have hlen := r'.length
    refine call_tuple_list pl.isList (fun h' kp => ?_) (by simp only [List.size_toArray] <;> omega)
    have I1 : Inv X pins σ H { s with heap := h' } := I.kept (t' := s.toks) kp
    exact ⟨.ref h'.objs.size, _, I1.laid (o := tupO _ ys) (t' := s.toks) (fun b o e => Heap.get?_push_of_some _ e) (Nat.le_refl _) (tupO_ok r' hz), rfl, q _ _ (I1.hok.fresh (Nat.le_refl _)) rfl⟩
  · obtain ⟨its, r', pl, hz⟩ := I.tuple hq
    exact call_tuple_same pl ⟨.ref p, H, I, rfl, q⟩
end
end LA
/-! A layer without the heap: values are data, what changes stands in a memory of its own, all else never changes. -/
namespace LA
open PySem PySem.Spec PyProof.Rows L2 Lay
/-- a value, whole -/
inductive D where
  | non | bl (b : Bool) | int (i : Int) | str (x : Str) | ty (n : String) | ref (a : Addr)
  | lst (ds : List D) | tup (ds : List D) | par (ds : List D) | scr (ds : List D) | dK (kvs : List (Key × D)) | dT (kvs : List (List Key × D)) | ins (C : Addr) (fs : List (Str × D))
mutual
inductive Rep (K : PySem.W.Frag) (F : Hp) : V → D → Prop
  | non : Rep K F .non .non
  | bl (b : Bool) : Rep K F (.bl b) (.bl b)
  | int (i : Int) : Rep K F (.int i) (.int i)
  | str (x : Str) : Rep K F (.str x) (.str x)
  | ty (n : String) : Rep K F (.ty n) (.ty n)
  | ref (a : Addr) : Rep K F (.ref a) (.ref a)
  | lst {a : Addr} {xs : List V} {ds : List D} : F a = some (.lst xs) → RepA K F xs ds → Rep K F (.ref a) (.lst ds)
  | scr {a : Addr} {xs : List V} {ds : List D} : SqL K F a xs → RepA K F xs ds → Rep K F (.ref a) (.scr ds)
  | tup {a : Addr} {xs : List V} {ds : List D} : TupAt F a xs → RepA K F xs ds → Rep K F (.ref a) (.tup ds)
  | par {a : Addr} {xs : List V} {ds : List D} : SqT K F a xs → RepA K F xs ds → Rep K F (.ref a) (.par ds)
  | dK {a : Addr} {es : List (Key × V)} {kvs : List (Key × D)} : Rd F a (.dK es) → es.map (·.1) = kvs.map (·.1) → RepA K F (es.map (·.2)) (kvs.map (·.2)) → Rep K F (.ref a) (.dK kvs)
  | dT {a : Addr} {es : List (List Key × V)} {kvs : List (List Key × D)} : Rd F a (.dT es) → es.map (·.1) = kvs.map (·.1) → RepA K F (es.map (·.2)) (kvs.map (·.2)) → Rep K F (.ref a) (.dT kvs)
  | ins {a C dx : Addr} {es : List (Str × V)} {fs : List (Str × D)} : F a = some (.ins C dx es) → es.map (·.1) = fs.map (·.1) → RepA K F (es.map (·.2)) (fs.map (·.2)) → Rep K F (.ref a) (.ins C fs)
inductive RepA (K : PySem.W.Frag) (F : Hp) : List V → List D → Prop
  | nil : RepA K F [] []
  | cons {v : V} {vs : List V} {d : D} {ds : List D} : Rep K F v d → RepA K F vs ds → RepA K F (v :: vs) (d :: ds)
end
section
variable {K : PySem.W.Frag} {F G : Hp}
/-- a dict that a loop walks, as it is otherwise -/
def strip : HO → HO
  | .frz _ (.dK k) => .dK k
  | .frz _ (.dT k) => .dT k
  | u => u
/-- all stays, but for dicts that a loop walks -/
def Sam (F G : Hp) : Prop := ∀ b u, F b = some u → ∃ u', G b = some u' ∧ strip u' = strip u
theorem Sam.of (h : Same F G) : Sam F G := fun b u e => ⟨u, h b u e, rfl⟩
theorem Sam.refl : Sam F F := .of (Same.refl _)
theorem Sam.trans {E : Hp} (h : Sam E F) (k : Sam F G) : Sam E G := fun b u e => by
  obtain ⟨u1, h1, h2⟩ := h b u e
  obtain ⟨u2, h3, h4⟩ := k b u1 h1
  exact ⟨u2, h3, h4.trans h2⟩
def isD : HO → Bool
  | .dK _ => true
  | .dT _ => true
  | _ => false
theorem strip_eq {u w : HO} (h : strip u = w) (hw : isD w = false) : u = w := by
  unfold strip at h
  split at h
  · subst h; cases hw
  · subst h; cases hw
  · exact h
theorem strip_id {w : HO} (hw : ∀ o k, w ≠ .frz o (.dK k)) (hw2 : ∀ o k, w ≠ .frz o (.dT k)) : strip w = w := by
  unfold strip
  split
  · exact absurd rfl (hw _ _)
  · exact absurd rfl (hw2 _ _)
  · rfl
theorem Sam.at (s : Sam F G) {a : Addr} {w : HO} (h : F a = some w) (hw : isD w = false) (h1 : ∀ o k, w ≠ .frz o (.dK k)) (h2 : ∀ o k, w ≠ .frz o (.dT k)) : G a = some w := by
  obtain ⟨u, h3, h4⟩ := s a w h
  rw [strip_id h1 h2] at h4
  rw [h3, strip_eq h4 hw]
theorem seqP (e : Sam F G) {a : Addr} {xs : List V} (h : F a = some (.lst xs)) : G a = some (.lst xs) := e.at h rfl (fun _ _ z => nomatch z) (fun _ _ z => nomatch z)
theorem seqL (e : Sam F G) {a : Addr} {xs : List V} (h : SqL K F a xs) : SqL K G a xs := by
  rcases h with (h | ⟨o, h⟩) | h
  · exact .inl (.inl (seqP e h))
  · exact .inl (.inr ⟨o, e.at h rfl (fun _ _ z => nomatch z) (fun _ _ z => nomatch z)⟩)
  · exact .inr h
theorem seqT (e : Sam F G) {a : Addr} {xs : List V} (h : SqT K F a xs) : SqT K G a xs := by
  rcases h with (h | ⟨o, h⟩) | h
  · exact .inl (.inl (e.at h rfl (fun _ _ z => nomatch z) (fun _ _ z => nomatch z)))
  · exact .inl (.inr ⟨o, e.at h rfl (fun _ _ z => nomatch z) (fun _ _ z => nomatch z)⟩)
  · exact .inr h
theorem TupAt.sub (s : Sam F G) {a : Addr} {xs : List V} (h : TupAt F a xs) : TupAt G a xs := by
  obtain ⟨ob, hd, h⟩ := h
  refine ⟨ob, hd, ?_⟩
  unfold tupO at h ⊢
  split at h
  · rename_i z
    rw [if_pos z]
    exact s.at h rfl (fun _ _ z => nomatch z) (fun _ _ z => nomatch z)
  · rename_i z
    rw [if_neg z]
    exact s.at h rfl (fun _ _ z => nomatch z) (fun _ _ z => nomatch z)
theorem rdK (e : Sam F G) {a : Addr} {k : List (Key × V)} (h : Rd F a (.dK k)) : Rd G a (.dK k) := by
  have : ∃ u, G a = some u ∧ strip u = .dK k := by
    rcases h with h | ⟨o, h⟩
    · exact e a _ h
    · exact e a _ h
  obtain ⟨u, h1, h2⟩ := this
  unfold strip at h2
  split at h2
  · rename_i o k' _
    injection h2 with h2
    subst h2
    exact .inr ⟨_, h1⟩
  · cases h2
  · subst h2
    exact .inl h1
theorem rdT (e : Sam F G) {a : Addr} {k : List (List Key × V)} (h : Rd F a (.dT k)) : Rd G a (.dT k) := by
  have : ∃ u, G a = some u ∧ strip u = .dT k := by
    rcases h with h | ⟨o, h⟩
    · exact e a _ h
    · exact e a _ h
  obtain ⟨u, h1, h2⟩ := this
  unfold strip at h2
  split at h2
  · cases h2
  · rename_i o k' _
    injection h2 with h2
    subst h2
    exact .inr ⟨_, h1⟩
  · subst h2
    exact .inl h1
mutual
theorem Rep.sub (s : Sam F G) : ∀ {v : V} {d : D}, Rep K F v d → Rep K G v d
  | _, _, .non => .non
  | _, _, .bl b => .bl b
  | _, _, .int i => .int i
  | _, _, .str x => .str x
  | _, _, .ty n => .ty n
  | _, _, .ref a => .ref a
  | _, _, .lst h r => .lst (seqP s h) (RepA.sub s r)
  | _, _, .scr h r => .scr (seqL s h) (RepA.sub s r)
  | _, _, .tup h r => .tup (TupAt.sub s h) (RepA.sub s r)
  | _, _, .par h r => .par (seqT s h) (RepA.sub s r)
  | _, _, .dK h e r => .dK (rdK s h) e (RepA.sub s r)
  | _, _, .dT h e r => .dT (rdT s h) e (RepA.sub s r)
  | _, _, .ins h e r => .ins (s.at h rfl (fun _ _ z => nomatch z) (fun _ _ z => nomatch z)) e (RepA.sub s r)
theorem RepA.sub (s : Sam F G) : ∀ {vs : List V} {ds : List D}, RepA K F vs ds → RepA K G vs ds
  | _, _, .nil => .nil
  | _, _, .cons h r => .cons (Rep.sub s h) (RepA.sub s r)
end
theorem RepA.len : ∀ {vs : List V} {ds : List D}, RepA K F vs ds → vs.length = ds.length
  | _, _, .nil => rfl
  | _, _, .cons _ r => by rw [List.length_cons, List.length_cons, r.len]
theorem RepA.get : ∀ {vs : List V} {ds : List D} {i : Nat} {v : V}, RepA K F vs ds → vs[i]? = some v → ∃ d, ds[i]? = some d ∧ Rep K F v d
  | _, _, _, _, .nil, e => by simp at e
  | v0 :: _, _, 0, v, .cons h r, e => by
    have : v0 = v := by simpa using e
    exact ⟨_, rfl, this ▸ h⟩
  | _, _, i + 1, v, .cons h r, e => by
    obtain ⟨d, h1, h2⟩ := r.get (i := i) (v := v) (by simpa using e)
    exact ⟨d, by simpa using h1, h2⟩
theorem RepA.get' : ∀ {vs : List V} {ds : List D} {i : Nat} {d : D}, RepA K F vs ds → ds[i]? = some d → ∃ v, vs[i]? = some v ∧ Rep K F v d
  | _, _, _, _, .nil, e => by simp at e
  | _, d0 :: _, 0, v, .cons h r, e => by
    have : d0 = v := by simpa using e
    exact ⟨_, rfl, this ▸ h⟩
  | _, _, i + 1, v, .cons h r, e => by
    obtain ⟨d, h1, h2⟩ := r.get' (i := i) (d := v) (by simpa using e)
    exact ⟨d, by simpa using h1, h2⟩
theorem RepA.app : ∀ {vs ws : List V} {ds es : List D}, RepA K F vs ds → RepA K F ws es → RepA K F (vs ++ ws) (ds ++ es)
  | _, _, _, _, .nil, h => h
  | _, _, _, _, .cons h r, h2 => .cons h (r.app h2)
theorem RepA.snoc {vs : List V} {ds : List D} {v : V} {d : D} (h : RepA K F vs ds) (h2 : Rep K F v d) : RepA K F (vs ++ [v]) (ds ++ [d]) := h.app (.cons h2 .nil)
theorem RepA.take : ∀ (n : Nat) {vs : List V} {ds : List D}, RepA K F vs ds → RepA K F (vs.take n) (ds.take n)
  | 0, _, _, _ => .nil
  | n + 1, _, _, .nil => .nil
  | n + 1, _, _, .cons h r => .cons h (RepA.take n r)
theorem RepA.drop : ∀ (n : Nat) {vs : List V} {ds : List D}, RepA K F vs ds → RepA K F (vs.drop n) (ds.drop n)
  | 0, _, _, h => h
  | n + 1, _, _, .nil => .nil
  | n + 1, _, _, .cons h r => RepA.drop n r
theorem RepA.rev {vs : List V} {ds : List D} (h : RepA K F vs ds) : RepA K F vs.reverse ds.reverse := by
  cases h with
  | nil => exact .nil
  | cons a r =>
    rw [List.reverse_cons, List.reverse_cons]
    exact (RepA.rev r).snoc a
termination_by vs.length
decreasing_by simp
end
/-- what may change, at its address -/
inductive Mo where
  | lst (ds : List D) | dK (kvs : List (Key × D)) | dT (kvs : List (List Key × D)) | ins (C : Addr) (fs : List (Str × D))
abbrev Mem := Addr → Option Mo
def noM : Mem := fun _ => none
def put (M : Mem) (a : Addr) (o : Mo) : Mem := fun b => if b = a then some o else M b
theorem put_same {M : Mem} {a : Addr} {o : Mo} : put M a o a = some o := by unfold put; rw [if_pos rfl]
theorem put_ne {M : Mem} {a b : Addr} {o : Mo} (h : b ≠ a) : put M a o b = M b := by unfold put; rw [if_neg h]
theorem put_put {M : Mem} {a : Addr} {o u : Mo} : put (put M a o) a u = put M a u := by
  funext b; unfold put; split <;> rfl
/-- dropped: it never changes any more -/
def drop (M : Mem) (a : Addr) : Mem := fun b => if b = a then none else M b
theorem drop_same {M : Mem} {a : Addr} : drop M a a = none := by unfold drop; rw [if_pos rfl]
theorem drop_ne {M : Mem} {a b : Addr} (h : b ≠ a) : drop M a b = M b := by unfold drop; rw [if_neg h]
theorem drop_put {M : Mem} {a : Addr} {o : Mo} (h : M a = none) : drop (put M a o) a = M := by
  funext b
  unfold drop put
  split
  · rename_i e
    rw [e, h]
  · rfl
/-- what never changes: neither hidden nor of the memory -/
noncomputable def imm (N : Addr → Prop) (M : Mem) (H : Hp) : Hp := fun b => open Classical in if N b ∨ M b ≠ none then none else H b
section
variable {K : PySem.W.Frag} {N : Addr → Prop} {M M' M2 : Mem} {H H' H2 : Hp}
theorem imm_some {b : Addr} {o : HO} (h : imm N M H b = some o) : ¬ N b ∧ M b = none ∧ H b = some o := by
  unfold imm at h
  split at h
  · cases h
  · rename_i n
    rw [not_or] at n
    exact ⟨n.1, Classical.not_not.mp n.2, h⟩
theorem imm_of {b : Addr} {o : HO} (h1 : ¬ N b) (h2 : M b = none) (h : H b = some o) : imm N M H b = some o := by
  unfold imm
  rw [if_neg (not_or.mpr ⟨h1, fun z => z h2⟩)]
  exact h
theorem imm_sub : Same (imm N M H) H := fun _ _ h => (imm_some h).2.2
def MoAt (K : PySem.W.Frag) (F H : Hp) (a : Addr) : Mo → Prop
  | .lst ds => ∃ vs, H a = some (.lst vs) ∧ RepA K F vs ds
  | .dK kvs => ∃ es : List (Key × V), H a = some (.dK es) ∧ es.map (·.1) = kvs.map (·.1) ∧ RepA K F (es.map (·.2)) (kvs.map (·.2))
  | .dT kvs => ∃ es : List (List Key × V), H a = some (.dT es) ∧ es.map (·.1) = kvs.map (·.1) ∧ RepA K F (es.map (·.2)) (kvs.map (·.2))
  | .ins C fs => ∃ (dx : Addr) (es : List (Str × V)), H a = some (.ins C dx es) ∧ es.map (·.1) = fs.map (·.1) ∧ RepA K F (es.map (·.2)) (fs.map (·.2))
theorem MoAt.there {F : Hp} {a : Addr} {o : Mo} (h : MoAt K F H a o) : ∃ u, H a = some u := by
  cases o with
  | lst ds => obtain ⟨_, h, _⟩ := h; exact ⟨_, h⟩
  | dK ds => obtain ⟨_, h, _⟩ := h; exact ⟨_, h⟩
  | dT ds => obtain ⟨_, h, _⟩ := h; exact ⟨_, h⟩
  | ins C ds => obtain ⟨_, _, h, _⟩ := h; exact ⟨_, h⟩
theorem MoAt.sub {F F' : Hp} {a : Addr} {o : Mo} (h : MoAt K F H a o) (s : Sam F F') (e : H' a = H a) : MoAt K F' H' a o := by
  cases o with
  | lst ds => obtain ⟨vs, h, r⟩ := h; exact ⟨vs, e.trans h, r.sub s⟩
  | dK ds => obtain ⟨vs, h, k, r⟩ := h; exact ⟨vs, e.trans h, k, r.sub s⟩
  | dT ds => obtain ⟨vs, h, k, r⟩ := h; exact ⟨vs, e.trans h, k, r.sub s⟩
  | ins C ds => obtain ⟨dx, vs, h, k, r⟩ := h; exact ⟨dx, vs, e.trans h, k, r.sub s⟩
/-- the memory as it stands -/
structure MOk (K : PySem.W.Frag) (N : Addr → Prop) (M : Mem) (H : Hp) : Prop where
  mo : ∀ a o, M a = some o → MoAt K (imm N M H) H a o
  nn : ∀ b, N b → H b ≠ none
  nm : ∀ b, N b → M b = none
/-- from here to there: what never changes stays, what is hidden stays -/
structure Ext (N : Addr → Prop) (M : Mem) (H : Hp) (M' : Mem) (H' : Hp) : Prop where
  im : Sam (imm N M H) (imm N M' H')
  hid : ∀ b, N b → H' b = H b
theorem Ext.refl : Ext N M H M H := ⟨Sam.refl, fun _ _ => rfl⟩
theorem Ext.trans (a : Ext N M H M' H') (b : Ext N M' H' M2 H2) : Ext N M H M2 H2 := ⟨a.im.trans b.im, fun c n => (b.hid c n).trans (a.hid c n)⟩
theorem MOk.there (m : MOk K N M H) {a : Addr} (h : M a ≠ none) : H a ≠ none := by
  cases e : M a with
  | none => exact absurd e h
  | some o =>
    obtain ⟨u, e2⟩ := (m.mo a o e).there
    rw [e2]
    exact fun z => by cases z
theorem MOk.freshM (m : MOk K N M H) {q : Addr} (hq : H q = none) : M q = none := by
  cases e : M q with
  | none => rfl
  | some o => exact absurd hq (m.there (by rw [e]; exact fun z => by cases z))
theorem MOk.freshN (m : MOk K N M H) {q : Addr} (hq : H q = none) : ¬ N q := fun z => m.nn q z hq
/-- a new thing that never changes -/
theorem MOk.new (m : MOk K N M H) {q : Addr} (hq : H q = none) (o : HO) : MOk K N M (upd H q o) ∧ Ext N M H M (upd H q o) ∧ imm N M (upd H q o) q = some o := by
  have s : Same (imm N M H) (imm N M (upd H q o)) := fun b u e => by
    obtain ⟨h1, h2, h3⟩ := imm_some e
    exact imm_of h1 h2 (by rw [upd_ne (ne_of_none h3 hq)]; exact h3)
  have ne : ∀ b, N b → b ≠ q := fun b n e => m.nn b n (by rw [e]; exact hq)
  refine ⟨⟨fun a u e => ?_, fun b n => ?_, m.nm⟩, ⟨.of s, fun b n => upd_ne (ne b n)⟩, imm_of (m.freshN hq) (m.freshM hq) upd_same⟩
  · have h := m.mo a u e
    refine h.sub (.of s) (upd_ne ?_)
    intro z
    subst z
    rw [m.freshM hq] at e
    cases e
  · rw [upd_ne (ne b n)]
    exact m.nn b n
/-- a new thing of the memory -/
theorem MOk.newM (m : MOk K N M H) {q : Addr} (hq : H q = none) {o : HO} {u : Mo} (hu : ∀ F' H', Sam (imm N M H) F' → H' q = some o → MoAt K F' H' q u) : MOk K N (put M q u) (upd H q o) ∧ Ext N M H (put M q u) (upd H q o) := by
  have s : Same (imm N M H) (imm N (put M q u) (upd H q o)) := fun b w e => by
    obtain ⟨h1, h2, h3⟩ := imm_some e
    have nb := ne_of_none h3 hq
    exact imm_of h1 (by rw [put_ne nb]; exact h2) (by rw [upd_ne nb]; exact h3)
  have ne : ∀ b, N b → b ≠ q := fun b n e => m.nn b n (by rw [e]; exact hq)
  refine ⟨⟨fun a w e => ?_, fun b n => ?_, fun b n => ?_⟩, ⟨.of s, fun b n => upd_ne (ne b n)⟩⟩
  · by_cases z : a = q
    · subst z
      rw [put_same] at e
      cases e
      exact hu _ _ (.of s) upd_same
    · rw [put_ne z] at e
      exact (m.mo a w e).sub (.of s) (upd_ne z)
  · rw [upd_ne (ne b n)]
    exact m.nn b n
  · rw [put_ne (ne b n)]
    exact m.nm b n
/-- a thing of the memory changes -/
theorem MOk.set (m : MOk K N M H) {q : Addr} {u0 : Mo} (hq : M q = some u0) {o : HO} {u : Mo} (hu : ∀ H', H' q = some o → MoAt K (imm N M H) H' q u) : MOk K N (put M q u) (upd H q o) ∧ Ext N M H (put M q u) (upd H q o) := by
  have e : imm N (put M q u) (upd H q o) = imm N M H := by
    funext b
    unfold imm
    by_cases z : b = q
    · subst z
      rw [put_same, hq, if_pos (.inr (fun z => by cases z)), if_pos (.inr (fun z => by cases z))]
    · rw [put_ne z, upd_ne z]
  have ne : ∀ b, N b → b ≠ q := fun b n z => by
    have := m.nm b n
    rw [z, hq] at this
    cases this
  refine ⟨⟨fun a w h => ?_, fun b n => ?_, fun b n => ?_⟩, ⟨by rw [e]; exact Sam.refl, fun b n => upd_ne (ne b n)⟩⟩
  · rw [e]
    by_cases z : a = q
    · subst z
      rw [put_same] at h
      cases h
      exact hu _ upd_same
    · rw [put_ne z] at h
      exact (m.mo a w h).sub Sam.refl (upd_ne z)
  · rw [upd_ne (ne b n)]
    exact m.nn b n
  · rw [put_ne (ne b n)]
    exact m.nm b n
theorem imm_drop (a : Addr) : Sam (imm N M H) (imm N (drop M a) H) := .of fun b o e => by
  obtain ⟨h1, h2, h3⟩ := imm_some e
  refine imm_of h1 ?_ h3
  unfold drop
  split
  · rfl
  · exact h2
/-- from now on it never changes -/
theorem MOk.freeze (m : MOk K N M H) (a : Addr) : MOk K N (drop M a) H ∧ Ext N M H (drop M a) H := by
  refine ⟨⟨fun b o e => ?_, m.nn, fun b n => ?_⟩, ⟨imm_drop a, fun _ _ => rfl⟩⟩
  · unfold drop at e
    split at e
    · cases e
    · exact (m.mo b o e).sub (imm_drop a) rfl
  · unfold drop
    split
    · rfl
    · exact m.nm b n
theorem MOk.lst (m : MOk K N M H) {a : Addr} {ds : List D} (h : M a = some (.lst ds)) : Rep K (imm N (drop M a) H) (.ref a) (.lst ds) := by
  obtain ⟨vs, h1, h2⟩ := m.mo a _ h
  refine .lst (imm_of (fun n => ?_) drop_same h1) (h2.sub (imm_drop a))
  rw [m.nm a n] at h
  cases h
end
end LA
/-! Readings without the heap, and the rules that give them. -/
namespace LA
open PySem PySem.Spec PyProof.Rows L2 Lay
abbrev Sl := List (Option D)
abbrev AE := Sl → Mem → (D → Mem → Prop) → Prop
abbrev AT := Sl → Mem → (Bool → Mem → Prop) → Prop
abbrev AA := Sl → Mem → (List D → Mem → Prop) → Prop
structure AEnds where
  nx : Sl → Mem → Prop
  bk : Sl → Mem → Prop
  ct : Sl → Mem → Prop
  rt : D → Mem → Prop
abbrev AS := AEnds → Sl → Mem → Prop
def SlotOk (K : PySem.W.Frag) (F : Hp) : Option V → Option D → Prop
  | _, none => True
  | some v, some d => Rep K F v d
  | none, some _ => False
structure Ok (K : PySem.W.Frag) (N : Addr → Prop) (M : Mem) (H : Hp) (σ : L2.St) (Γ : Sl) : Prop where
  m : MOk K N M H
  sl : Paired (SlotOk K (imm N M H)) σ Γ
section
variable {K : PySem.W.Frag} {N : Addr → Prop} {M M' M2 : Mem} {H H' H2 : Hp} {σ : L2.St} {Γ : Sl}
theorem SlotOk.sub {F G : Hp} (s : Sam F G) {a : Option V} {b : Option D} (h : SlotOk K F a b) : SlotOk K G a b := by
  cases b with
  | none => cases a <;> trivial
  | some d => cases a with
    | none => exact h
    | some v => exact Rep.sub s h
theorem paired_sub {F G : Hp} (s : Sam F G) : ∀ {σ : L2.St} {Γ : Sl}, Paired (SlotOk K F) σ Γ → Paired (SlotOk K G) σ Γ
  | _, _, .nil => .nil
  | _, _, .cons h r => .cons (SlotOk.sub s h) (paired_sub s r)
theorem Ok.go (o : Ok K N M H σ Γ) (e : Ext N M H M' H') (m : MOk K N M' H') : Ok K N M' H' σ Γ := ⟨m, paired_sub e.im o.sl⟩
theorem paired_get {F : Hp} : ∀ {σ : L2.St} {Γ : Sl} {i : Nat} {d : D}, Paired (SlotOk K F) σ Γ → Γ[i]? = some (some d) → ∃ v, σ[i]? = some (some v) ∧ Rep K F v d
  | _, _, _, _, .nil, e => by simp at e
  | some v :: _, some d0 :: _, 0, d, .cons h r, e => by
    have : d0 = d := by simpa using e
    exact ⟨v, rfl, this ▸ h⟩
  | none :: _, some d0 :: _, 0, d, .cons h r, e => by exact absurd h (by simp [SlotOk])
  | _ :: _, none :: _, 0, d, .cons h r, e => by simp at e
  | _ :: _, _ :: _, i + 1, d, .cons h r, e => by
    obtain ⟨v, h1, h2⟩ := paired_get (i := i) (d := d) r (by simpa using e)
    exact ⟨v, by simpa using h1, h2⟩
theorem paired_set {F : Hp} {v : V} {d : D} (h : Rep K F v d) : ∀ {σ : L2.St} {Γ : Sl} (i : Nat), Paired (SlotOk K F) σ Γ → Paired (SlotOk K F) (σ.set i (some v)) (Γ.set i (some d))
  | _, _, _, .nil => .nil
  | _ :: _, _ :: _, 0, .cons _ r => .cons h r
  | _ :: _, _ :: _, i + 1, .cons a r => .cons a (paired_set h i r)
theorem Ok.set (o : Ok K N M H σ Γ) {v : V} {d : D} (h : Rep K (imm N M H) v d) (i : Nat) : Ok K N M H (σ.set i (some v)) (Γ.set i (some d)) := ⟨o.m, paired_set h i o.sl⟩
end
/-! ### what a reading says of the heap -/
section
variable (K : PySem.W.Frag)
def kE (N : Addr → Prop) (M : Mem) (H : Hp) (Q' : D → Mem → Prop) (Q : VK) : Prop := ∀ v d H' M', Ext N M H M' H' → MOk K N M' H' → Rep K (imm N M' H') v d → Q' d M' → Q v H'
def kA (N : Addr → Prop) (M : Mem) (H : Hp) (Q' : List D → Mem → Prop) (Q : List V → Hp → Prop) : Prop := ∀ vs ds H' M', Ext N M H M' H' → MOk K N M' H' → RepA K (imm N M' H') vs ds → Q' ds M' → Q vs H'
def kT (N : Addr → Prop) (M : Mem) (H : Hp) (Q' : Bool → Mem → Prop) (Q : Bool → Hp → Prop) : Prop := ∀ b H' M', Ext N M H M' H' → MOk K N M' H' → Q' b M' → Q b H'
def cE (ae : AE) : TE := fun σ H Q => ∃ N M Γ Q', Ok K N M H σ Γ ∧ ae Γ M Q' ∧ kE K N M H Q' Q
def cA (aa : AA) : TA := fun σ H Q => ∃ N M Γ Q', Ok K N M H σ Γ ∧ aa Γ M Q' ∧ kA K N M H Q' Q
def cT (at' : AT) : TT := fun σ H Q => ∃ N M Γ Q', Ok K N M H σ Γ ∧ at' Γ M Q' ∧ kT K N M H Q' Q
structure EndsOk (N : Addr → Prop) (M : Mem) (H : Hp) (A : AEnds) (D : Ends) : Prop where
  nx : ∀ σ' H' Γ' M', Ext N M H M' H' → Ok K N M' H' σ' Γ' → A.nx Γ' M' → D.nx σ' H'
  bk : ∀ σ' H' Γ' M', Ext N M H M' H' → Ok K N M' H' σ' Γ' → A.bk Γ' M' → D.bk σ' H'
  ct : ∀ σ' H' Γ' M', Ext N M H M' H' → Ok K N M' H' σ' Γ' → A.ct Γ' M' → D.ct σ' H'
  rt : kE K N M H A.rt D.rt
def cS (as : AS) : TS := fun D σ H => ∃ N M Γ A, Ok K N M H σ Γ ∧ as A Γ M ∧ EndsOk K N M H A D
end
section
variable {K : PySem.W.Frag} {N : Addr → Prop} {M M' : Mem} {H H' : Hp} {A : AEnds} {D : Ends}
theorem EndsOk.go (e : EndsOk K N M H A D) (x : Ext N M H M' H') : EndsOk K N M' H' A D :=
  ⟨fun σ2 H2 Γ2 M2 y => e.nx σ2 H2 Γ2 M2 (x.trans y), fun σ2 H2 Γ2 M2 y => e.bk σ2 H2 Γ2 M2 (x.trans y), fun σ2 H2 Γ2 M2 y => e.ct σ2 H2 Γ2 M2 (x.trans y),
    fun v d H2 M2 y => e.rt v d H2 M2 (x.trans y)⟩
theorem kE.go {Q' : LA.D → Mem → Prop} {Q : VK} (k : kE K N M H Q' Q) (x : Ext N M H M' H') : kE K N M' H' Q' Q := fun v d H2 M2 y => k v d H2 M2 (x.trans y)
theorem kE.here {Q' : LA.D → Mem → Prop} {Q : VK} (k : kE K N M H Q' Q) (m : MOk K N M H) {v : V} {d : LA.D} (r : Rep K (imm N M H) v d) (q : Q' d M) : Q v H := k v d H M .refl m r q
/-- a new thing that never changes is the value -/
theorem kE.new {Q' : LA.D → Mem → Prop} {Q : VK} (k : kE K N M H Q' Q) (m : MOk K N M H) {p : Addr} (hp : H p = none) {o : HO} {d : LA.D} (r : ∀ F, Sam (imm N M H) F → F p = some o → Rep K F (.ref p) d) (q : Q' d M) : Q (.ref p) (upd H p o) := by
  obtain ⟨m1, e1, i1⟩ := m.new hp o
  exact k (.ref p) d _ M e1 m1 (r _ e1.im i1) q
/-- a new thing of the memory is the value -/
theorem kE.newM {Q' : LA.D → Mem → Prop} {Q : VK} (k : kE K N M H Q' Q) (m : MOk K N M H) {p : Addr} (hp : H p = none) {o : HO} {u : Mo} (r : ∀ F' H', Sam (imm N M H) F' → H' p = some o → MoAt K F' H' p u) (q : M p = none → Q' (.ref p) (put M p u)) : Q (.ref p) (upd H p o) := by
  obtain ⟨m1, e1⟩ := m.newM hp r
  exact k (.ref p) (.ref p) _ _ e1 m1 (.ref p) (q (m.freshM hp))
end
section
variable {X : Cx}
theorem PE.to {e : Expr} {t t' : TE} (h : PE X e t) (m : ∀ σ H Q, t' σ H Q → t σ H Q) : PE X e t' := ⟨fun pins s σ H Q I w => h.run pins s σ H Q I (m σ H Q w)⟩
theorem PT.to {e : Expr} {t t' : TT} (h : PT X e t) (m : ∀ σ H Q, t' σ H Q → t σ H Q) : PT X e t' := ⟨fun pins s σ H Q I w => h.run pins s σ H Q I (m σ H Q w)⟩
theorem PW.to {e : Expr} {t t' : TT} (h : PW X e t) (m : ∀ σ H Q, t' σ H Q → t σ H Q) : PW X e t' := ⟨fun wh pins s σ H Q I w => h.run wh pins s σ H Q I (m σ H Q w)⟩
theorem PA.to {es : List Expr} {t t' : TA} (h : PA X es t) (m : ∀ σ H Q, t' σ H Q → t σ H Q) : PA X es t' := ⟨fun pos pins s σ H Q I w => h.run pos pins s σ H Q I (m σ H Q w)⟩
theorem PS.to {st : Stmt} {t t' : TS} (h : PS X st t) (m : ∀ D σ H, t' D σ H → t D σ H) : PS X st t' := ⟨fun pins s σ H D I w => h.run pins s σ H D I (m D σ H w)⟩
theorem PSs.to {st : List Stmt} {t t' : TS} (h : PSs X st t) (m : ∀ D σ H, t' D σ H → t D σ H) : PSs X st t' := ⟨fun pins s σ H D I w => h.run pins s σ H D I (m D σ H w)⟩
end
/-! ### names, constants -/
def aVar (i : Nat) : AE := fun Γ M Q => ∃ d, Γ[i]? = some (some d) ∧ Q d M
def aC (d : D) : AE := fun _ M Q => Q d M
section
variable {X : Cx} {K : PySem.W.Frag} {pos : Pos} {x : Str}
theorem av (i : Nat) (hN : X.N[i]? = some x := by rfl) (hv : Vis X.env.scope x := by first | exact Or.inl rfl | exact Or.inr (Or.inl rfl) | exact Or.inr (Or.inr rfl)) (hd : (x == ("__debug__" : Str)) = false := by decide)
    (hcd : (x == ("__classdict__" : Str)) = false := by decide) : PE X (.Name x pos) (cE K (aVar i)) :=
  PE.to (pv i hN hv hd hcd) fun σ H Q ⟨N, M, Γ, Q', o, ⟨d, hd, q⟩, k⟩ => by
    obtain ⟨v, h1, h2⟩ := paired_get o.sl hd
    exact ⟨v, h1, k.here o.m h2 q⟩
theorem ae_c0 {e : Expr} {v : V} {d : D} (h : PE X e (tC v)) (r : ∀ F, Rep K F v d) : PE X e (cE K (aC d)) :=
  PE.to h fun σ H Q ⟨N, M, Γ, Q', o, q, k⟩ => k.here o.m (r _) q
theorem ae_int {i : Int} {j : Nat} : PE X (.Constant (.int i) j pos) (cE K (aC (.int i))) := ae_c0 pe_int fun _ => .int i
theorem ae_bl {b : Bool} {j : Nat} : PE X (.Constant (.bool b) j pos) (cE K (aC (.bl b))) := ae_c0 pe_bl fun _ => .bl b
theorem ae_non {j : Nat} : PE X (.Constant .none j pos) (cE K (aC .non)) := ae_c0 pe_non fun _ => .non
theorem ae_str {z : Str} {j : Nat} : PE X (.Constant (.str z) j pos) (cE K (aC (.str z))) := ae_c0 pe_str fun _ => .str z
theorem ae_ty {n : String} (hm : X.mg x = none) (hv : bootBuiltins x = some (.type n)) (hg : Gl X x := by rfl) (hn : x ≠ "__name__" := by decide) (hd : (x == ("__debug__" : Str)) = false := by decide) : PE X (.Name x pos) (cE K (aC (.ty n))) :=
  ae_c0 (pe_bltn (v := .ty n) hg hm hv rfl hn hd) fun _ => .ty n
theorem ae_gI {z : Int} {t : Tok} (hm : X.mg x = some (.int z t)) (hg : Gl X x := by rfl) (hd : (x == ("__debug__" : Str)) = false := by decide) : PE X (.Name x pos) (cE K (aC (.int z))) := ae_c0 (pe_gI hm hg hd) fun _ => .int z
theorem ae_gS {z : Str} {t : Tok} (hm : X.mg x = some (.str z t)) (hg : Gl X x := by rfl) (hd : (x == ("__debug__" : Str)) = false := by decide) : PE X (.Name x pos) (cE K (aC (.str z))) := ae_c0 (pe_gS hm hg hd) fun _ => .str z
theorem ae_gR {a : Addr} (hm : X.mg x = some (.ref a)) (hg : Gl X x := by rfl) (hd : (x == ("__debug__" : Str)) = false := by decide) : PE X (.Name x pos) (cE K (aC (.ref a))) := ae_c0 (pe_gR hm hg hd) fun _ => .ref a
end
/-! ### operators -/
abbrev A2 := D → D → Mem → (D → Mem → Prop) → Prop
abbrev A1 := D → Mem → (D → Mem → Prop) → Prop
abbrev AL := List D → Mem → (D → Mem → Prop) → Prop
def S2 (K : PySem.W.Frag) (r : R2) (ρ : A2) : Prop := ∀ {N M H x y dx dy} {Q : VK} {Q' : D → Mem → Prop}, MOk K N M H → Rep K (imm N M H) x dx → Rep K (imm N M H) y dy → ρ dx dy M Q' → kE K N M H Q' Q → r x y H Q
def S1 (K : PySem.W.Frag) (r : V → Hp → VK → Prop) (ρ : A1) : Prop := ∀ {N M H x dx} {Q : VK} {Q' : D → Mem → Prop}, MOk K N M H → Rep K (imm N M H) x dx → ρ dx M Q' → kE K N M H Q' Q → r x H Q
def SL (K : PySem.W.Frag) (r : List V → Hp → VK → Prop) (ρ : AL) : Prop := ∀ {N M H xs ds} {Q : VK} {Q' : D → Mem → Prop}, MOk K N M H → RepA K (imm N M H) xs ds → ρ ds M Q' → kE K N M H Q' Q → r xs H Q
def aOp (ρ : A2) (aa ab : AE) : AE := fun Γ M Q => aa Γ M fun x M1 => ab Γ M1 fun y M2 => ρ x y M2 Q
def aUn (ρ : A1) (aa : AE) : AE := fun Γ M Q => aa Γ M fun x M1 => ρ x M1 Q
def aTest (ae : AE) : AT := fun Γ M Q => ae Γ M fun d M1 => ∃ b, d = .bl b ∧ Q b M1
section
variable {X : Cx} {K : PySem.W.Frag} {pos : Pos} {a b : Expr} {aa ab ac : AE} {r r' : R2} {ρ ρ' : A2}
theorem Rep.bl_inv {F : Hp} {v : V} {b : Bool} (h : Rep K F v (.bl b)) : v = .bl b := by cases h; rfl
theorem Rep.int_inv {F : Hp} {v : V} {b : Int} (h : Rep K F v (.int b)) : v = .int b := by cases h; rfl
theorem Rep.str_inv {F : Hp} {v : V} {b : Str} (h : Rep K F v (.str b)) : v = .str b := by cases h; rfl
theorem Rep.ty_inv {F : Hp} {v : V} {b : String} (h : Rep K F v (.ty b)) : v = .ty b := by cases h; rfl
theorem Rep.ref_inv {F : Hp} {v : V} {b : Addr} (h : Rep K F v (.ref b)) : v = .ref b := by cases h; rfl
theorem two_run {σ : L2.St} {H : Hp} {Q : VK} (s : S2 K r ρ) (h : cE K (aOp ρ aa ab) σ H Q) : tOp r (cE K aa) (cE K ab) σ H Q := by
  obtain ⟨N, M, Γ, Q', o, q, k⟩ := h
  exact ⟨N, M, Γ, _, o, q, fun x dx H1 M1 e1 m1 r1 q1 => ⟨N, M1, Γ, _, o.go e1 m1, q1, fun y dy H2 M2 e2 m2 r2 q2 => s m2 (r1.sub e2.im) r2 q2 (k.go (e1.trans e2))⟩⟩
theorem ae_op {op : Operator} (ho : OpR X (binaryOp op) r) (s : S2 K r ρ) (ha : PE X a (cE K aa)) (hb : PE X b (cE K ab)) : PE X (.BinOp a op b pos) (cE K (aOp ρ aa ab)) :=
  PE.to (pe_op ho ha hb) fun _ _ _ h => two_run s h
theorem ae_un {op : UnaryOp} {r : V → Hp → VK → Prop} {ρ : A1} (ho : UnR X (unaryOp op) r) (s : S1 K r ρ) (ha : PE X a (cE K aa)) : PE X (.UnaryOp op a pos) (cE K (aUn ρ aa)) :=
  PE.to (pe_un ho ha) fun σ H Q ⟨N, M, Γ, Q', o, q, k⟩ => ⟨N, M, Γ, _, o, q, fun x dx H1 M1 e1 m1 r1 q1 => s m1 r1 q1 (k.go e1)⟩
theorem ae_cmp {op : CmpOp} (ho : OpR X (compareOp op) r) (s : S2 K r ρ) (ha : PE X a (cE K aa)) (hb : PE X b (cE K ab)) (hm : behindInMarks op b = false) : PE X (.Compare a [op] [b] pos) (cE K (aOp ρ aa ab)) :=
  PE.to (pe_cmpR ho ha hb hm) fun _ _ _ h => two_run s h
theorem test_run {t : TE} {ae : AE} (h : ∀ σ H Q, cE K ae σ H Q → t σ H Q) (σ : L2.St) (H : Hp) (Q : Bool → Hp → Prop) (w : cT K (aTest ae) σ H Q) : t σ H (fun x H' => ∃ k, x = .bl k ∧ Q k H') := by
  obtain ⟨N, M, Γ, Q', o, q, k⟩ := w
  refine h σ H _ ⟨N, M, Γ, _, o, q, ?_⟩
  rintro v d H1 M1 e1 m1 r1 ⟨b, rfl, q1⟩
  exact ⟨b, r1.bl_inv, k b H1 M1 e1 m1 q1⟩
theorem at_cmp {op : CmpOp} (ho : OpR X (compareOp op) r) (s : S2 K r ρ) (ha : PE X a (cE K aa)) (hb : PE X b (cE K ab)) (hm : behindInMarks op b = false) : PT X (.Compare a [op] [b] pos) (cT K (aTest (aOp ρ aa ab))) :=
  PT.to (pt_cmpR ho ha hb hm) fun σ H Q w => test_run (fun _ _ _ h => two_run s h) σ H Q w
theorem at_val {e : Expr} {ae : AE} (h : PE X e (cE K ae)) (he : ∀ whole, isTrue e X.env whole = (do let v ← whole; standAt e.pos; holding [v] (truthy v)) := by intro _; rfl) : PT X e (cT K (aTest ae)) :=
  PT.to (pt_val h he) fun σ H Q w => test_run (fun _ _ _ h => h) σ H Q w
/-- a < b < c -/
def aChain (ρ ρ' : A2) (aa ab ac : AE) : AE := fun Γ M Q => aa Γ M fun x M1 => ab Γ M1 fun y M2 => ρ x y M2 fun z M3 => ∃ k, z = .bl k ∧ if k = true then ac Γ M3 fun w M4 => ρ' y w M4 Q else Q (.bl false) M3
theorem chain_run {σ : L2.St} {H : Hp} {Q : VK} (s : S2 K r ρ) (s' : S2 K r' ρ') (h : cE K (aChain ρ ρ' aa ab ac) σ H Q) : tChain r r' (cE K aa) (cE K ab) (cE K ac) σ H Q := by
  obtain ⟨N, M, Γ, Q', o, q, k⟩ := h
  refine ⟨N, M, Γ, _, o, q, fun x dx H1 M1 e1 m1 r1 q1 => ⟨N, M1, Γ, _, o.go e1 m1, q1, fun y dy H2 M2 e2 m2 r2 q2 => s m2 (r1.sub e2.im) r2 q2 ?_⟩⟩
  rintro v d H3 M3 e3 m3 r3 ⟨b, rfl, q3⟩
  refine ⟨b, r3.bl_inv, ?_⟩
  cases b with
  | true =>
    rw [if_pos rfl] at q3 ⊢
    exact ⟨N, M3, Γ, _, ((o.go e1 m1).go e2 m2).go e3 m3, q3, fun z dz H4 M4 e4 m4 r4 q4 => s' m4 ((r2.sub e3.im).sub e4.im) r4 q4 (((k.go e1).go e2).go e3 |>.go e4)⟩
  | false =>
    rw [if_neg (by decide)] at q3 ⊢
    exact (((k.go e1).go e2).go e3).here m3 (.bl false) q3
theorem ae_chain {op op' : CmpOp} {c : Expr} (ho : OpR X (compareOp op) r) (s : S2 K r ρ) (ho' : OpR X (compareOp op') r') (s' : S2 K r' ρ') (ha : PE X a (cE K aa)) (hb : PE X b (cE K ab)) (hc : PE X c (cE K ac))
    (hm : lastMarks [op, op'] [b, c] = false := by with_unfolding_all rfl) : PE X (.Compare a [op, op'] [b, c] pos) (cE K (aChain ρ ρ' aa ab ac)) :=
  PE.to (pe_chain ho ho' ha hb hc hm) fun _ _ _ h => chain_run s s' h
theorem at_chain {op op' : CmpOp} {c : Expr} (ho : OpR X (compareOp op) r) (s : S2 K r ρ) (ho' : OpR X (compareOp op') r') (s' : S2 K r' ρ') (ha : PE X a (cE K aa)) (hb : PE X b (cE K ab)) (hc : PE X c (cE K ac))
    (hm : lastMarks [op, op'] [b, c] = false := by with_unfolding_all rfl) : PT X (.Compare a [op, op'] [b, c] pos) (cT K (aTest (aChain ρ ρ' aa ab ac))) :=
  PT.to (pt_chain ho ho' ha hb hc hm) fun σ H Q w => test_run (fun _ _ _ h => chain_run s s' h) σ H Q w
end
/-! ### and, or, not, if -/
def aAnd (aa ab : AE) : AE := fun Γ M Q => aa Γ M fun x M1 => ∃ c, x = .bl c ∧ if c = true then ab Γ M1 Q else Q (.bl false) M1
def aOr (aa ab : AE) : AE := fun Γ M Q => aa Γ M fun x M1 => ∃ c, x = .bl c ∧ if c = true then Q (.bl true) M1 else ab Γ M1 Q
def aNot (aa : AE) : AE := fun Γ M Q => aa Γ M fun x M1 => ∃ c, x = .bl c ∧ Q (.bl (!c)) M1
def aIf (at' : AT) (aa ab : AE) : AE := fun Γ M Q => at' Γ M fun c M1 => if c = true then aa Γ M1 Q else ab Γ M1 Q
def aAndT (aa ab : AT) : AT := fun Γ M Q => aa Γ M fun c M1 => if c = true then ab Γ M1 Q else Q false M1
def aOrT (aa ab : AT) : AT := fun Γ M Q => aa Γ M fun c M1 => if c = true then Q true M1 else ab Γ M1 Q
def aNotT (aa : AT) : AT := fun Γ M Q => aa Γ M fun c M1 => Q (!c) M1
section
variable {X : Cx} {K : PySem.W.Frag} {pos : Pos} {a b : Expr} {rest : List Expr} {aa ab : AE} {ta tb : AT}
theorem ae_one {op : BoolOp} (h : PE X a (cE K aa)) : PE X (.BoolOp op [a] pos) (cE K aa) := pe_one h
theorem ae_and (ha : PE X a (cE K aa)) (hb : PE X (.BoolOp .And (b :: rest) pos) (cE K ab)) : PE X (.BoolOp .And (a :: b :: rest) pos) (cE K (aAnd aa ab)) :=
  PE.to (pe_and ha hb) fun σ H Q ⟨N, M, Γ, Q', o, q, k⟩ => ⟨N, M, Γ, _, o, q, fun x dx H1 M1 e1 m1 r1 ⟨c, ec, q1⟩ => by
    subst ec
    refine ⟨c, r1.bl_inv, ?_⟩
    cases c with
    | true => exact ⟨N, M1, Γ, Q', o.go e1 m1, q1, k.go e1⟩
    | false => exact (k.go e1).here m1 (.bl false) q1⟩
theorem ae_or (ha : PE X a (cE K aa)) (hb : PE X (.BoolOp .Or (b :: rest) pos) (cE K ab)) : PE X (.BoolOp .Or (a :: b :: rest) pos) (cE K (aOr aa ab)) :=
  PE.to (pe_or ha hb) fun σ H Q ⟨N, M, Γ, Q', o, q, k⟩ => ⟨N, M, Γ, _, o, q, fun x dx H1 M1 e1 m1 r1 ⟨c, ec, q1⟩ => by
    subst ec
    refine ⟨c, r1.bl_inv, ?_⟩
    cases c with
    | false => exact ⟨N, M1, Γ, Q', o.go e1 m1, q1, k.go e1⟩
    | true => exact (k.go e1).here m1 (.bl true) q1⟩
theorem ae_not (ha : PE X a (cE K aa)) : PE X (.UnaryOp .Not a pos) (cE K (aNot aa)) :=
  PE.to (pe_not ha) fun σ H Q ⟨N, M, Γ, Q', o, q, k⟩ => ⟨N, M, Γ, _, o, q, fun x dx H1 M1 e1 m1 r1 ⟨c, ec, q1⟩ => by
    subst ec
    exact ⟨c, r1.bl_inv, (k.go e1).here m1 (.bl (!c)) q1⟩⟩
theorem ae_if {c : Expr} (hc : PT X c (cT K ta)) (ha : PE X a (cE K aa)) (hb : PE X b (cE K ab)) : PE X (.IfExp c a b pos) (cE K (aIf ta aa ab)) :=
  PE.to (pe_ifExp hc ha hb) fun σ H Q ⟨N, M, Γ, Q', o, q, k⟩ => ⟨N, M, Γ, _, o, q, fun c H1 M1 e1 m1 q1 => by
    cases c with
    | true => exact ⟨N, M1, Γ, Q', o.go e1 m1, q1, k.go e1⟩
    | false => exact ⟨N, M1, Γ, Q', o.go e1 m1, q1, k.go e1⟩⟩
theorem at_not (ha : PT X a (cT K ta)) : PT X (.UnaryOp .Not a pos) (cT K (aNotT ta)) :=
  PT.to (pt_not ha) fun σ H Q ⟨N, M, Γ, Q', o, q, k⟩ => ⟨N, M, Γ, _, o, q, fun c H1 M1 e1 m1 q1 => k _ H1 M1 e1 m1 q1⟩
theorem kT.go {N : Addr → Prop} {M M' : Mem} {H H' : Hp} {Q' : Bool → Mem → Prop} {Q : Bool → Hp → Prop} (k : kT K N M H Q' Q) (x : Ext N M H M' H') : kT K N M' H' Q' Q := fun v H2 M2 y => k v H2 M2 (x.trans y)
theorem aw_and1 (ha : PT X a (cT K ta)) : PW X (.BoolOp .And [a] pos) (cT K ta) := pw_and1 ha
theorem aw_or1 (ha : PT X a (cT K ta)) : PW X (.BoolOp .Or [a] pos) (cT K ta) := pw_or1 ha
theorem aw_and (ha : PT X a (cT K ta)) (hb : PW X (.BoolOp .And (b :: rest) pos) (cT K tb)) : PW X (.BoolOp .And (a :: b :: rest) pos) (cT K (aAndT ta tb)) :=
  PW.to (pw_and ha hb) fun σ H Q ⟨N, M, Γ, Q', o, q, k⟩ => ⟨N, M, Γ, _, o, q, fun c H1 M1 e1 m1 q1 => by
    cases c with
    | true => exact ⟨N, M1, Γ, Q', o.go e1 m1, q1, k.go e1⟩
    | false => exact k false H1 M1 e1 m1 q1⟩
theorem aw_or (ha : PT X a (cT K ta)) (hb : PW X (.BoolOp .Or (b :: rest) pos) (cT K tb)) : PW X (.BoolOp .Or (a :: b :: rest) pos) (cT K (aOrT ta tb)) :=
  PW.to (pw_or ha hb) fun σ H Q ⟨N, M, Γ, Q', o, q, k⟩ => ⟨N, M, Γ, _, o, q, fun c H1 M1 e1 m1 q1 => by
    cases c with
    | false => exact ⟨N, M1, Γ, Q', o.go e1 m1, q1, k.go e1⟩
    | true => exact k true H1 M1 e1 m1 q1⟩
end
/-! ### arguments, displays -/
def aNil : AA := fun _ M Q => Q [] M
def aCons (ae : AE) (aa : AA) : AA := fun Γ M Q => ae Γ M fun x M1 => aa Γ M1 fun xs M2 => Q (x :: xs) M2
def aTup (aa : AA) : AE := fun Γ M Q => aa Γ M fun xs M1 => xs.length ≤ 1000000 ∧ Q (.tup xs) M1
/-- a list that never changes -/
def aLst (aa : AA) : AE := fun Γ M Q => aa Γ M fun xs M1 => xs.length ≤ 1000000 ∧ Q (.lst xs) M1
/-- a list that may change -/
def aLstM (aa : AA) : AE := fun Γ M Q => aa Γ M fun xs M1 => xs.length ≤ 1000000 ∧ ∀ a, M1 a = none → Q (.ref a) (put M1 a (.lst xs))
def aDictM (o : Mo) : AE := fun _ M Q => ∀ a, M a = none → Q (.ref a) (put M a o)
def aCB (ρ : AL) (aa : AA) : AE := fun Γ M Q => aa Γ M fun xs M1 => ρ xs M1 Q
section
variable {X : Cx} {K : PySem.W.Frag} {pos : Pos} {e : Expr} {es : List Expr} {ae : AE} {aa : AA} {x : Str} {p : Pos} {r : List V → Hp → VK → Prop} {ρ : AL}
theorem aa_nil : PA X [] (cA K aNil) := PA.to pa_nil fun σ H Q ⟨N, M, Γ, Q', o, q, k⟩ => k [] [] H M .refl o.m .nil q
theorem aa_cons (ha : PE X e (cE K ae)) (hr : PA X es (cA K aa)) (hs : starEach (e :: es) X.env = (false, eval e X.env) :: starEach es X.env := by rfl) : PA X (e :: es) (cA K (aCons ae aa)) :=
  PA.to (pa_cons ha hr hs) fun σ H Q ⟨N, M, Γ, Q', o, q, k⟩ => ⟨N, M, Γ, _, o, q, fun x dx H1 M1 e1 m1 r1 q1 => ⟨N, M1, Γ, _, o.go e1 m1, q1, fun xs ds H2 M2 e2 m2 r2 q2 => k _ _ H2 M2 (e1.trans e2) m2 (.cons (r1.sub e2.im) r2) q2⟩⟩
theorem ae_tup {x1 : Nat} (h : PA X es (cA K aa)) : PE X (.Tuple es x1 pos) (cE K (aTup aa)) :=
  PE.to (pe_tupF h) fun σ H Q ⟨N, M, Γ, Q', o, q, k⟩ => ⟨N, M, Γ, _, o, q, fun xs ds H1 M1 e1 m1 r1 ⟨l, q1⟩ => ⟨line _ (by rw [r1.len]; exact l), fun p ob hp hd => (k.go e1).new m1 hp (fun F s f => .tup (.new hd f) (r1.sub s)) q1⟩⟩
theorem ae_lst (h : PA X es (cA K aa)) : PE X (.List es pos) (cE K (aLst aa)) :=
  PE.to (pe_lst h) fun σ H Q ⟨N, M, Γ, Q', o, q, k⟩ => ⟨N, M, Γ, _, o, q, fun xs ds H1 M1 e1 m1 r1 ⟨l, q1⟩ => ⟨line _ (by rw [r1.len]; exact l), fun p hp => (k.go e1).new m1 hp (fun F s f => .lst f (r1.sub s)) q1⟩⟩
theorem ae_lstM (h : PA X es (cA K aa)) : PE X (.List es pos) (cE K (aLstM aa)) :=
  PE.to (pe_lst h) fun σ H Q ⟨N, M, Γ, Q', o, q, k⟩ => ⟨N, M, Γ, _, o, q, fun xs ds H1 M1 e1 m1 r1 ⟨l, q1⟩ => ⟨line _ (by rw [r1.len]; exact l), fun p hp => (k.go e1).newM (u := .lst ds) m1 hp (fun F H' s f => ⟨xs, f, r1.sub s⟩) fun z => q1 p z⟩⟩
theorem ae_dnewK : PE X (.Dict [] [] pos) (cE K (aDictM (.dK []))) :=
  PE.to pe_dnewK fun σ H Q ⟨N, M, Γ, Q', o, q, k⟩ => fun p hp => k.newM (u := .dK []) o.m hp (fun F H' s f => ⟨[], f, rfl, .nil⟩) fun z => q p z
theorem ae_dnewT : PE X (.Dict [] [] pos) (cE K (aDictM (.dT []))) :=
  PE.to pe_dnewT fun σ H Q ⟨N, M, Γ, Q', o, q, k⟩ => fun p hp => k.newM (u := .dT []) o.m hp (fun F H' s f => ⟨[], f, rfl, .nil⟩) fun z => q p z
theorem cb_run {σ : L2.St} {H : Hp} {Q : VK} (s : SL K r ρ) (h : cE K (aCB ρ aa) σ H Q) : tCB r (cA K aa) σ H Q := by
  obtain ⟨N, M, Γ, Q', o, q, k⟩ := h
  exact ⟨N, M, Γ, _, o, q, fun xs ds H1 M1 e1 m1 r1 q1 => s m1 r1 q1 (k.go e1)⟩
theorem ae_callB {id : String} (hc : CallR X (.builtin id) r) (s : SL K r ρ) (hm : X.mg x = none) (hv : bootBuiltins x = some (.builtin id)) (ha : PA X (e :: es) (cA K aa)) (hg : Gl X x := by rfl) (hn : x ≠ "__name__" := by decide) (hdb : (x == ("__debug__" : Str)) = false := by decide)
    (he : starEach (e :: es) X.env = (false, eval e X.env) :: starEach es X.env := by rfl) (hpl : (backTo pos (starEach es X.env)).any (·.1) = false := by rfl) : PE X (.Call (.Name x p) (e :: es) [] pos) (cE K (aCB ρ aa)) :=
  PE.to (pe_callB hc hg hm hv ha hn hdb he hpl) fun _ _ _ h => cb_run s h
theorem ae_callTy {T : String} (hc : CallR X (.type T) r) (s : SL K r ρ) (hm : X.mg x = none) (hv : bootBuiltins x = some (.type T)) (ha : PA X (e :: es) (cA K aa)) (hg : Gl X x := by rfl) (hn : x ≠ "__name__" := by decide) (hdb : (x == ("__debug__" : Str)) = false := by decide)
    (he : starEach (e :: es) X.env = (false, eval e X.env) :: starEach es X.env := by rfl) (hpl : (backTo pos (starEach es X.env)).any (·.1) = false := by rfl) : PE X (.Call (.Name x p) (e :: es) [] pos) (cE K (aCB ρ aa)) :=
  PE.to (pe_callTy hc hg hm hv ha hn hdb he hpl) fun _ _ _ h => cb_run s h
end
end LA
/-! Statements, targets, loops, comprehensions, defs. -/
namespace LA
open PySem PySem.Spec PyProof.Rows L2 Lay
/-! ### targets: names and tuples of names -/
abbrev AG := D → Sl → Mem → (Sl → Mem → Prop) → Prop
abbrev AGs := List D → Sl → Mem → (Sl → Mem → Prop) → Prop
def aGName (i : Nat) : AG := fun d Γ M Q => Q (Γ.set i (some d)) M
def aGNil : AGs := fun ds Γ M Q => ds = [] ∧ Q Γ M
def aGCons (g : AG) (u : AGs) : AGs := fun ds Γ M Q => ∃ d r, ds = d :: r ∧ g d Γ M fun Γ' M' => u r Γ' M' Q
def unTup : D → Option (List D)
  | .tup ds => some ds
  | .par ds => some ds
  | _ => none
def aGTup (n : Nat) (u : AGs) : AG := fun d Γ M Q => ∃ ds, unTup d = some ds ∧ ds.length = n ∧ u ds Γ M Q
def GOk (K : PySem.W.Frag) (g : TG) (ag : AG) (vs : List Nat) : Prop := ∀ {N M H σ Γ v d} {Q : L2.St → Hp → Prop} {Q' : Sl → Mem → Prop}, Ok K N M H σ Γ → Rep K (imm N M H) v d → ag d Γ M Q' →
  (∀ σ' Γ', (∀ ws, (∀ i ∈ vs, i ∈ ws) → L2.wipe σ' ws = L2.wipe σ ws) → Ok K N M H σ' Γ' → Q' Γ' M → Q σ' H) → g v σ H Q
def GsOk (K : PySem.W.Frag) (g : TGs) (ag : AGs) (vs : List Nat) : Prop := ∀ {N M H σ Γ xs ds} {Q : L2.St → Hp → Prop} {Q' : Sl → Mem → Prop}, Ok K N M H σ Γ → RepA K (imm N M H) xs ds → ag ds Γ M Q' →
  (∀ σ' Γ', (∀ ws, (∀ i ∈ vs, i ∈ ws) → L2.wipe σ' ws = L2.wipe σ ws) → Ok K N M H σ' Γ' → Q' Γ' M → Q σ' H) → g xs σ H Q
section
variable {K : PySem.W.Frag}
theorem wipe_set {i : Nat} {x : Option V} : ∀ {ws : List Nat} {σ : L2.St}, i ∈ ws → L2.wipe (σ.set i x) ws = L2.wipe σ ws := by
  have comm : ∀ (ws : List Nat) (σ : L2.St) (i : Nat) (x : Option V), i ∉ ws → L2.wipe (σ.set i x) ws = (L2.wipe σ ws).set i x := by
    intro ws
    induction ws with
    | nil => intros; rfl
    | cons w r ih =>
      intro σ i x h
      rw [List.mem_cons, not_or] at h
      show (L2.wipe (σ.set i x) r).set w none = ((L2.wipe σ r).set w none).set i x
      rw [ih σ i x h.2, List.set_comm _ _ (fun e => h.1 e)]
  intro ws
  induction ws with
  | nil => intro σ h; cases h
  | cons w r ih =>
    intro σ h
    show (L2.wipe (σ.set i x) r).set w none = (L2.wipe σ r).set w none
    by_cases hr : i ∈ r
    · rw [ih hr]
    · rcases List.mem_cons.mp h with e | e
      · subst e
        rw [comm r σ i x hr, List.set_set]
      · exact absurd e hr
theorem go_name (i : Nat) : GOk K (gName i) (aGName i) [i] := fun o r q k => k _ _ (fun ws h => wipe_set (h i (List.mem_singleton_self i))) (o.set r i) q
theorem gos_nil : GsOk K gNil aGNil [] := by
  rintro N M H σ Γ xs ds Q Q' o r ⟨rfl, q⟩ k
  cases r
  exact ⟨rfl, k σ Γ (fun _ _ => rfl) o q⟩
theorem gos_cons {g : TG} {u : TGs} {ag : AG} {au : AGs} {vs ws : List Nat} (h : GOk K g ag vs) (h2 : GsOk K u au ws) : GsOk K (gCons g u) (aGCons ag au) (vs ++ ws) := by
  rintro N M H σ Γ xs ds Q Q' o r ⟨d, ds', rfl, q⟩ k
  cases r with
  | cons r1 r2 =>
    refine ⟨_, _, rfl, h o r1 q fun σ1 Γ1 w1 o1 q1 => h2 o1 r2 q1 fun σ2 Γ2 w2 o2 q2 => k σ2 Γ2 (fun zs hz => ?_) o2 q2⟩
    rw [w2 zs fun i hi => hz i (List.mem_append_right _ hi), w1 zs fun i hi => hz i (List.mem_append_left _ hi)]
theorem go_tup {n : Nat} {u : TGs} {au : AGs} {vs : List Nat} (h : GsOk K u au vs) : GOk K (gTup K n u) (aGTup n au) vs := by
  rintro N M H σ Γ v d Q Q' o r ⟨ds, e, l, q⟩ k
  cases r <;> simp only [unTup, Option.some.injEq, reduceCtorEq] at e
  · rename_i hs ra
    subst e
    exact ⟨_, _, rfl, seqT (.of imm_sub) hs.sq, by rw [ra.len]; exact l, h o ra q k⟩
  · rename_i hs ra
    subst e
    exact ⟨_, _, rfl, seqT (.of imm_sub) hs, by rw [ra.len]; exact l, h o ra q k⟩
end
/-! ### statements -/
def aNext : AS := fun A Γ M => A.nx Γ M
def aBreak : AS := fun A Γ M => A.bk Γ M
def aCont : AS := fun A Γ M => A.ct Γ M
def aSeq (t u : AS) : AS := fun A Γ M => t { A with nx := u A } Γ M
def aAsg (ae : AE) (ag : AG) : AS := fun A Γ M => ae Γ M fun d M1 => ag d Γ M1 A.nx
def aDrop (ae : AE) : AS := fun A Γ M => ae Γ M fun _ M1 => A.nx Γ M1
def aRet (ae : AE) : AS := fun A Γ M => ae Γ M A.rt
def aRetN : AS := fun A _ M => A.rt .non M
def aIfS (c : AT) (t u : AS) : AS := fun A Γ M => c Γ M fun b M1 => if b = true then t A Γ M1 else u A Γ M1
/-- what a loop walks: the items, and what must stay of the memory -/
structure Walk where
  items : List D
  stay : Mem → Prop
abbrev AI := Sl → Mem → (Walk → Mem → Prop) → Prop
def ForB (w : Walk) (ag : AG) (ab : AS) (A : AEnds) (Γ : Sl) (M1 : Mem) : Prop := ∃ I : Nat → Sl → Mem → Prop, I 0 Γ M1 ∧ (∀ i Γ M, i ≤ w.items.length → I i Γ M → w.stay M) ∧
  (∀ i d Γ M, w.items[i]? = some d → I i Γ M → ag d Γ M fun Γ2 M2 => ab { A with nx := I (i + 1), ct := I (i + 1), bk := A.nx } Γ2 M2) ∧ ∀ Γ M, I w.items.length Γ M → A.nx Γ M
def aFor (ai : AI) (ag : AG) (ab : AS) : AS := fun A Γ M => ai Γ M fun w M1 => ForB w ag ab A Γ M1
def WhB (c : AT) (ab : AS) (A : AEnds) (Γ : Sl) (M : Mem) : Prop := ∃ I : Nat → Sl → Mem → Prop, (∃ m, I m Γ M) ∧ ∀ m Γ M, I m Γ M → c Γ M fun b M1 =>
  if b = true then ab { A with nx := fun Γ' M' => ∃ m', m' < m ∧ I m' Γ' M', ct := fun Γ' M' => ∃ m', m' < m ∧ I m' Γ' M', bk := A.nx } Γ M1 else A.nx Γ M1
def aWhile (c : AT) (ab : AS) : AS := fun A Γ M => WhB c ab A Γ M
def Walks (K : PySem.W.Frag) (N : Addr → Prop) (M0 : Mem) (H0 : Hp) (J : It) (w : Walk) : Prop := ∀ i N' M H, Sam (imm N M0 H0) (imm N' M H) → MOk K N' M H → w.stay M →
  (i < w.items.length → J.go i H ∧ ∀ x H', J.yld i H x H' → MOk K N' M H' ∧ Ext N' M H M H' ∧ ∃ d, w.items[i]? = some d ∧ Rep K (imm N' M H') x d) ∧ (w.items.length = i → J.stop i H)
def cI (K : PySem.W.Frag) (ai : AI) : TI := fun σ H R => ∃ N M Γ Wp, Ok K N M H σ Γ ∧ ai Γ M Wp ∧ ∀ J H' M' w, Ext N M H M' H' → MOk K N M' H' → Walks K N M' H' J w → Wp w M' → R J H'
section
variable {X : Cx} {K : PySem.W.Frag} {pos : Pos} {e : Expr} {ae : AE} {st : Stmt} {rest : List Stmt} {t u : AS} {tg : Expr} {g : TG} {ag : AG} {vs : List Nat}
theorem as_pass : PS X (.Pass pos) (cS K aNext) := PS.to ps_pass fun D σ H ⟨N, M, Γ, A, o, q, k⟩ => k.nx σ H Γ M .refl o q
theorem as_break : PS X (.Break pos) (cS K aBreak) := PS.to ps_break fun D σ H ⟨N, M, Γ, A, o, q, k⟩ => k.bk σ H Γ M .refl o q
theorem as_cont : PS X (.Continue pos) (cS K aCont) := PS.to ps_continue fun D σ H ⟨N, M, Γ, A, o, q, k⟩ => k.ct σ H Γ M .refl o q
theorem ass_nil : PSs X [] (cS K aNext) := PSs.to pss_nil fun D σ H ⟨N, M, Γ, A, o, q, k⟩ => k.nx σ H Γ M .refl o q
theorem ass_one (h : PS X st (cS K t)) : PSs X [st] (cS K t) := pss_one h
theorem ass_cons (h : PS X st (cS K t)) (h2 : PSs X rest (cS K u)) : PSs X (st :: rest) (cS K (aSeq t u)) :=
  PSs.to (pss_cons h h2) fun D σ H ⟨N, M, Γ, A, o, q, k⟩ => ⟨N, M, Γ, { A with nx := u A }, o, q, ⟨fun σ1 H1 Γ1 M1 e1 o1 q1 => ⟨N, M1, Γ1, A, o1, q1, k.go e1⟩, k.bk, k.ct, k.rt⟩⟩
theorem asg_run {te : TE} (ok : GOk K g ag vs) (hm : ∀ σ H Q, cE K ae σ H Q → te σ H Q) (D : Ends) (σ : L2.St) (H : Hp) (h : cS K (aAsg ae ag) D σ H) : tAsg te g D σ H := by
  obtain ⟨N, M, Γ, A, o, q, k⟩ := h
  exact hm _ _ _ ⟨N, M, Γ, _, o, q, fun v d H1 M1 e1 m1 r1 q1 => ok (o.go e1 m1) r1 q1 fun σ2 Γ2 _ o2 q2 => k.nx σ2 H1 Γ2 M1 e1 o2 q2⟩
theorem as_set {i : Nat} {x : Str} {pos' : Pos} (hN : X.N.Nodup) (hi : X.N[i]? = some x) (hx : Loc X.env.scope x) (he : PE X e (cE K ae)) (hs : swapsWith e (some (.Name x pos')) pos.line X.env = pure false := by rfl) (hf : X.fn x = true ∨ X.env.scope.names.lookup x = some .local := by first | exact .inl rfl | exact .inr rfl | assumption) :
    PS X (.Assign [.Name x pos'] e pos) (cS K (aAsg ae (aGName i))) := PS.to (ps_set hN hi hx he hs hf) (asg_run (go_name i) fun _ _ _ h => h)
/-- a, b = e, e a tuple -/
theorem as_asg (he : PE X e (cE K ae)) (hg : PG X tg g) (ok : GOk K g ag vs) (hs : swapsWithSole [tg] e pos.line X.env = pure false := by rfl) (hw : swappedStores [tg] e X.env = pure none := by rfl)
    (h1 : (assignEach [tg] X.env).map (·.2) = [assign tg X.env] := by rfl) : PS X (.Assign [tg] e pos) (cS K (aAsg ae ag)) := PS.to (ps_asg he hg hs hw h1) (asg_run ok fun _ _ _ h => h)
def aPar (i j : Nat) (aa : AA) : AS := fun A Γ M => aa Γ M fun ds M1 => ∃ d d', ds = [d, d'] ∧ A.nx ((Γ.set i (some d)).set j (some d')) M1
theorem as_par {i j : Nat} {x y : Str} {a b : Expr} {aa : AA} {px py pt : Pos} {kt k2 pt2} (hc : X.calm = true) (hN : X.N.Nodup) (hi : X.N[i]? = some x) (hj : X.N[j]? = some y) (hij : i ≠ j)
    (hx : X.env.scope.names.lookup x = some .local) (hy : X.env.scope.names.lookup y = some .local) (ha : PA X [a, b] (cA K aa))
    (hw : swappedStores [.Tuple [.Name x px, .Name y py] kt pt] (.Tuple [a, b] k2 pt2) X.env = pure (some [x, y]))
    (hs : swapsWithSole [.Tuple [.Name x px, .Name y py] kt pt] (.Tuple [a, b] k2 pt2) pos.line X.env = pure false := by rfl) :
    PS X (.Assign [.Tuple [.Name x px, .Name y py] kt pt] (.Tuple [a, b] k2 pt2) pos) (cS K (aPar i j aa)) :=
  PS.to (ps_par hc hN hi hj hij hx hy ha hw hs) fun D σ H ⟨N, M, Γ, A, o, q, k⟩ => ⟨N, M, Γ, _, o, q, by
    rintro vs ds H1 M1 e1 m1 r1 ⟨d, d', rfl, q1⟩
    cases r1 with
    | cons r2 r3 => cases r3 with
      | cons r4 r5 =>
        cases r5
        exact ⟨_, _, rfl, k.nx _ H1 _ M1 e1 (((o.go e1 m1).set r2 i).set r4 j) q1⟩⟩
theorem as_expr (he : PE X e (cE K ae)) (hs : swapsWith e none pos.line X.env = pure false := by rfl) : PS X (.Expr e pos) (cS K (aDrop ae)) :=
  PS.to (ps_expr he hs) fun D σ H ⟨N, M, Γ, A, o, q, k⟩ => ⟨N, M, Γ, _, o, q, fun v d H1 M1 e1 m1 r1 q1 => k.nx σ H1 Γ M1 e1 (o.go e1 m1) q1⟩
theorem as_ret (he : PE X e (cE K ae)) : PS X (.Return (some e) pos) (cS K (aRet ae)) :=
  PS.to (ps_ret he) fun D σ H ⟨N, M, Γ, A, o, q, k⟩ => ⟨N, M, Γ, _, o, q, k.rt⟩
theorem as_retN : PS X (.Return none pos) (cS K aRetN) :=
  PS.to ps_retN fun D σ H ⟨N, M, Γ, A, o, q, k⟩ => k.rt.here o.m .non q
theorem as_if {c : Expr} {a b : List Stmt} {at' : AT} (hc : PT X c (cT K at')) (ha : PSs X a (cS K t)) (hb : PSs X b (cS K u)) : PS X (.If c a b pos) (cS K (aIfS at' t u)) :=
  PS.to (ps_if hc ha hb) fun D σ H ⟨N, M, Γ, A, o, q, k⟩ => ⟨N, M, Γ, _, o, q, fun b H1 M1 e1 m1 q1 => by
    cases b with
    | true => exact ⟨N, M1, Γ, A, o.go e1 m1, q1, k.go e1⟩
    | false => exact ⟨N, M1, Γ, A, o.go e1 m1, q1, k.go e1⟩⟩
theorem as_for {iter : Expr} {body : List Stmt} {ai : AI} {ab : AS} (hp : PassesOwn (model X.prog X.w) X.A X.env X.xe) (hc : X.calm = true) (hi : PI X tg iter (cI K ai)) (hg : PG X tg g) (ok : GOk K g ag vs) (hb : PSs X body (cS K ab))
    (hs : ∀ x, foldedSetIterable iter X.env x = pure x := by intro _; rfl) : PS X (.For tg iter body [] pos) (cS K (aFor ai ag ab)) :=
  PS.to (ps_for hp hc hi hg hb hs) fun D σ H ⟨N, M, Γ, A, o, q, k⟩ => by
    refine ⟨N, M, Γ, _, o, q, ?_⟩
    rintro J H1 M1 w e1 m1 wk ⟨I, h0, hst, hstep, hend⟩
    refine ⟨fun i m σ' H' => m + i = w.items.length ∧ ∃ Γ' M', Ext N M1 H1 M' H' ∧ Ok K N M' H' σ' Γ' ∧ I i Γ' M', ⟨w.items.length, rfl, Γ, M1, .refl, o.go e1 m1, h0⟩, ?_⟩
    rintro i m σ2 H2 ⟨hm, Γ2, M2, e2, o2, i2⟩
    obtain ⟨go, stop⟩ := wk i N M2 H2 e2.im o2.m (hst i Γ2 M2 (by omega) i2)
    by_cases hlt : i < w.items.length
    · obtain ⟨g1, yl⟩ := go hlt
      refine .inr ⟨g1, fun σ' H' => ∃ Γ' M', Ext N M1 H1 M' H' ∧ Ok K N M' H' σ' Γ' ∧ I (i + 1) Γ' M', fun σ' H' z => ⟨m - 1, by omega, by omega, z⟩, fun x H3 y => ?_⟩
      obtain ⟨m3, e3, d, hd, rd⟩ := yl x H3 y
      have o3 := o2.go e3 m3
      refine ok o3 rd (hstep i d Γ2 M2 hd i2) fun σ4 Γ4 _ o4 q4 => ?_
      refine ⟨N, M2, Γ4, _, o4, q4, ⟨fun σ5 H5 Γ5 M5 e5 o5 i5 => ⟨Γ5, M5, (e2.trans e3).trans e5, o5, i5⟩, fun σ5 H5 Γ5 M5 e5 o5 i5 => k.nx σ5 H5 Γ5 M5 (((e1.trans e2).trans e3).trans e5) o5 i5, fun σ5 H5 Γ5 M5 e5 o5 i5 => ⟨Γ5, M5, (e2.trans e3).trans e5, o5, i5⟩, (((k.go e1).go e2).go e3).rt⟩⟩
    · have ei : i = w.items.length := by omega
      subst ei
      exact .inl ⟨stop rfl, k.nx σ2 H2 Γ2 M2 (e1.trans e2) o2 (hend Γ2 M2 i2)⟩
theorem as_while {c : Expr} {body : List Stmt} {at' : AT} {ab : AS} (hp : PassesOwn (model X.prog X.w) X.A X.env X.xe) (hc : PT X c (cT K at')) (hb : PSs X body (cS K ab)) : PS X (.While c body [] pos) (cS K (aWhile at' ab)) :=
  PS.to (ps_while hp hc hb) fun D σ H ⟨N, M, Γ, A, o, ⟨I, ⟨m0, h0⟩, step⟩, k⟩ => by
    refine ⟨fun m σ' H' => ∃ Γ' M', Ext N M H M' H' ∧ Ok K N M' H' σ' Γ' ∧ I m Γ' M', ⟨m0, Γ, M, .refl, o, h0⟩, ?_⟩
    rintro m σ2 H2 ⟨Γ2, M2, e2, o2, i2⟩
    refine ⟨N, M2, Γ2, _, o2, step m Γ2 M2 i2, fun b H3 M3 e3 m3 q3 => ?_⟩
    have o3 := o2.go e3 m3
    cases b with
    | true =>
      rw [if_pos rfl] at q3
      refine iteT ⟨fun σ' H' => ∃ m', m' < m ∧ ∃ Γ' M', Ext N M H M' H' ∧ Ok K N M' H' σ' Γ' ∧ I m' Γ' M', fun σ' H' z => z, N, M3, Γ2, _, o3, q3, ⟨?_, ?_, ?_, ((k.go e2).go e3).rt⟩⟩
      · rintro σ5 H5 Γ5 M5 e5 o5 ⟨m', hm, i5⟩
        exact ⟨m', hm, Γ5, M5, (e2.trans e3).trans e5, o5, i5⟩
      · exact fun σ5 H5 Γ5 M5 e5 o5 i5 => k.nx σ5 H5 Γ5 M5 ((e2.trans e3).trans e5) o5 i5
      · rintro σ5 H5 Γ5 M5 e5 o5 ⟨m', hm, i5⟩
        exact ⟨m', hm, Γ5, M5, (e2.trans e3).trans e5, o5, i5⟩
    | false =>
      rw [if_neg (by decide)] at q3
      exact iteF (k.nx σ2 H3 Γ2 M3 (e2.trans e3) o3 q3)
end
/-! ### comprehensions -/
def wipeA (Γ : Sl) : List Nat → Sl
  | [] => Γ
  | v :: vs => (wipeA Γ vs).set v none
def aYes : AT := fun _ M Q => Q true M
def LcB (w : Walk) (ag : AG) (at' : AT) (ae : AE) (vs : List Nat) (Γ : Sl) (M1 : Mem) (Q : D → Mem → Prop) : Prop := ∃ I : Nat → List D → Mem → Prop, I 0 [] M1 ∧ (∀ i acc M, i ≤ w.items.length → I i acc M → w.stay M) ∧
  (∀ i d acc M, w.items[i]? = some d → I i acc M → ag d (wipeA Γ vs) M fun Γ2 M2 => at' Γ2 M2 fun b M3 => if b = true then ae Γ2 M3 fun y M4 => acc.length < 1000000 ∧ I (i + 1) (acc ++ [y]) M4 else I (i + 1) acc M3) ∧
  ∀ acc M, I w.items.length acc M → Q (.lst acc) M
def aLc (ai : AI) (ag : AG) (at' : AT) (ae : AE) (vs : List Nat) : AE := fun Γ M Q => ai Γ M fun w M1 => LcB w ag at' ae vs Γ M1 Q
section
variable {X : Cx} {K : PySem.W.Frag} {pos : Pos} {N : Addr → Prop} {M M' : Mem} {H H' : Hp} {σ : L2.St} {Γ : Sl}
theorem paired_wipe {F : Hp} : ∀ {vs : List Nat} {σ : L2.St} {Γ : Sl}, Paired (SlotOk K F) σ Γ → Paired (SlotOk K F) (L2.wipe σ vs) (wipeA Γ vs) := by
  have one : ∀ {i : Nat} {σ : L2.St} {Γ : Sl}, Paired (SlotOk K F) σ Γ → Paired (SlotOk K F) (σ.set i none) (Γ.set i none) := by
    intro i
    induction i with
    | zero =>
      intro σ Γ h
      cases h with
      | nil => exact .nil
      | cons a r => exact .cons trivial r
    | succ i ih =>
      intro σ Γ h
      cases h with
      | nil => exact .nil
      | cons a r => exact .cons a (ih r)
  intro vs
  induction vs with
  | nil => intro σ Γ h; exact h
  | cons v r ih => intro σ Γ h; exact one (ih h)
/-- a thing is hidden while a comprehension fills it -/
theorem imm_hide {L : Addr} : imm (fun b => N b ∨ b = L) M H = fun b => if b = L then none else imm N M H b := by
  funext b
  unfold imm
  by_cases z : b = L
  · rw [if_pos (.inl (.inr z)), if_pos z]
  · rw [if_neg z]
    by_cases h : N b ∨ M b ≠ none
    · rw [if_pos h, if_pos (h.elim (fun n => .inl (.inl n)) .inr)]
    · rw [if_neg h, if_neg (fun y => h (y.elim (fun n => n.elim .inl (fun e => absurd e z)) .inr))]
theorem wipe_idem : ∀ {vs ws : List Nat} {σ : L2.St}, (∀ i ∈ vs, i ∈ ws) → L2.wipe (L2.wipe σ vs) ws = L2.wipe σ ws := by
  intro vs
  induction vs with
  | nil => intros; rfl
  | cons v r ih =>
    intro ws σ h
    show L2.wipe ((L2.wipe σ r).set v none) ws = _
    rw [wipe_set (h v (List.mem_cons_self ..)), ih fun i hi => h i (List.mem_cons_of_mem _ hi)]
theorem hide_sub {L : Addr} : Sam (imm (fun b => N b ∨ b = L) M H) (imm N M H) := .of fun b u e => by
  rw [imm_hide] at e
  by_cases z : b = L
  · simp only [z, if_true] at e
    cases e
  · simp only [z, if_false] at e
    exact e
/-- L is hidden: it may be filled -/
theorem MOk.hidden {L : Addr} {o : HO} (m : MOk K (fun b => N b ∨ b = L) M H) : MOk K (fun b => N b ∨ b = L) M (upd H L o) ∧ imm (fun b => N b ∨ b = L) M (upd H L o) = imm (fun b => N b ∨ b = L) M H := by
  have e : imm (fun b => N b ∨ b = L) M (upd H L o) = imm (fun b => N b ∨ b = L) M H := by
    rw [imm_hide, imm_hide]
    funext b
    by_cases z : b = L
    · rw [if_pos z, if_pos z]
    · rw [if_neg z, if_neg z]
      unfold imm
      rw [upd_ne z]
  refine ⟨⟨fun a u h => ?_, fun b n => ?_, m.nm⟩, e⟩
  · have na : a ≠ L := fun z => by
      have := m.nm L (.inr rfl)
      rw [← z, h] at this
      cases this
    rw [e]
    exact (m.mo a u h).sub Sam.refl (upd_ne na)
  · by_cases z : b = L
    · rw [z, upd_same]
      exact fun y => by cases y
    · rw [upd_ne z]
      exact m.nn b n
/-- a new thing is hidden -/
theorem MOk.hide {L : Addr} {o : HO} (m : MOk K N M H) (hL : H L = none) : MOk K (fun b => N b ∨ b = L) M (upd H L o) ∧ Sam (imm N M H) (imm (fun b => N b ∨ b = L) M (upd H L o)) := by
  have s : Sam (imm N M H) (imm (fun b => N b ∨ b = L) M (upd H L o)) := .of fun b u e => by
    obtain ⟨h1, h2, h3⟩ := imm_some e
    have nb := ne_of_none h3 hL
    exact imm_of (fun z => z.elim h1 nb) h2 (by rw [upd_ne nb]; exact h3)
  refine ⟨⟨fun a u h => ?_, fun b n => ?_, fun b n => ?_⟩, s⟩
  · refine (m.mo a u h).sub s (upd_ne ?_)
    intro z
    subst z
    rw [m.freshM hL] at h
    cases h
  · by_cases z : b = L
    · rw [z, upd_same]
      exact fun y => by cases y
    · rw [upd_ne z]
      exact m.nn b (n.resolve_right z)
  · rcases n with n | n
    · exact m.nm b n
    · rw [n]
      exact m.freshM hL
theorem MOk.unhide {L : Addr} (m : MOk K (fun b => N b ∨ b = L) M H) : MOk K N M H := ⟨fun a o h => (m.mo a o h).sub hide_sub rfl, fun b n => m.nn b (.inl n), fun b n => m.nm b (.inl n)⟩
theorem lc_run {ai : AI} {g : TG} {ag : AG} {at' : AT} {ae : AE} {vs tv : List Nat} (ok : GOk K g ag tv) (sub : ∀ i ∈ tv, i ∈ vs) {Q : VK} (h : cE K (aLc ai ag at' ae vs) σ H Q) : tLc (cI K ai) g (cT K at') (cE K ae) vs σ H Q := by
  obtain ⟨N, M, Γ, Q', o, q, k⟩ := h
  refine ⟨N, M, Γ, _, o, q, ?_⟩
  rintro J H1 M1 w e1 m1 wk ⟨I, h0, hst, hstep, hend⟩ L hL
  obtain ⟨m1', s1⟩ := m1.hide (o := .lst []) hL
  refine ⟨fun i m H2 => m + i = w.items.length ∧ ∃ acc vacc M2, I i acc M2 ∧ H2 L = some (.lst vacc) ∧ RepA K (imm (fun b => N b ∨ b = L) M2 H2) vacc acc ∧ MOk K (fun b => N b ∨ b = L) M2 H2 ∧
    Sam (imm N M1 H1) (imm (fun b => N b ∨ b = L) M2 H2) ∧ ∀ b, N b → H2 b = H1 b, ⟨w.items.length, rfl, [], [], M1, h0, upd_same, .nil, m1', s1, fun b n => upd_ne fun z => m1.nn b n (by rw [z]; exact hL)⟩, ?_⟩
  rintro i m H2 ⟨hm, acc, vacc, M2, i2, l2, r2, m2, s2, hid2⟩
  obtain ⟨go, stop⟩ := wk i (fun b => N b ∨ b = L) M2 H2 s2 m2 (hst i acc M2 (by omega) i2)
  by_cases hlt : i < w.items.length
  · obtain ⟨g1, yl⟩ := go hlt
    refine .inr ⟨g1, fun H' => m - 1 + (i + 1) = w.items.length ∧ ∃ acc vacc M2, I (i + 1) acc M2 ∧ H' L = some (.lst vacc) ∧ RepA K (imm (fun b => N b ∨ b = L) M2 H') vacc acc ∧ MOk K (fun b => N b ∨ b = L) M2 H' ∧
      Sam (imm N M1 H1) (imm (fun b => N b ∨ b = L) M2 H') ∧ ∀ b, N b → H' b = H1 b, fun H' z => ⟨m - 1, by omega, z⟩, fun x H3 y => ?_⟩
    obtain ⟨m3, e3, d, hd, rd⟩ := yl x H3 y
    have o3 : Ok K (fun b => N b ∨ b = L) M2 H3 (L2.wipe σ vs) (wipeA Γ vs) := ⟨m3, paired_wipe (paired_sub ((e1.im.trans s2).trans e3.im) o.sl)⟩
    refine ok o3 rd (hstep i d acc M2 hd i2) fun σ4 Γ4 hw o4 q4 => ⟨?_, ?_⟩
    · rw [hw vs sub, wipe_idem fun _ z => z]
    refine ⟨_, M2, Γ4, _, o4, q4, fun b H5 M5 e5 m5 q5 => ?_⟩
    have o5 := o4.go e5 m5
    have r5 := r2.sub (e3.im.trans e5.im)
    have s5 := s2.trans (e3.im.trans e5.im)
    have l5 : H5 L = some (.lst vacc) := by rw [e5.hid L (.inr rfl), e3.hid L (.inr rfl)]; exact l2
    have hid5 : ∀ b, N b → H5 b = H1 b := fun b n => by rw [e5.hid b (.inl n), e3.hid b (.inl n)]; exact hid2 b n
    cases b with
    | false =>
      rw [if_neg (by decide)] at q5
      exact iteF ⟨by omega, acc, vacc, M5, q5, l5, r5, m5, s5, hid5⟩
    | true =>
      rw [if_pos rfl] at q5
      refine iteT ⟨_, M5, Γ4, _, o5, q5, ?_⟩
      rintro v y H6 M6 e6 m6 r6 ⟨hl, q6⟩
      have l6 : H6 L = some (.lst vacc) := by rw [e6.hid L (.inr rfl)]; exact l5
      obtain ⟨m7, e7⟩ := m6.hidden (o := .lst (vacc ++ [v]))
      refine ⟨vacc, l6, ltline _ ?_, by omega, acc ++ [y], vacc ++ [v], M6, q6, upd_same, by rw [e7]; exact (r5.sub e6.im).snoc r6, m7, by rw [e7]; exact s5.trans e6.im, fun b n => ?_⟩
      · rw [r2.len]
        omega
      · rw [upd_ne (fun z => m1.nn b n (by rw [z]; exact hL)), e6.hid b (.inl n)]
        exact hid5 b n
  · have ei : i = w.items.length := by omega
    subst ei
    refine .inl ⟨stop rfl, ?_⟩
    have nL : ¬ N L := m1.freshN hL
    refine k (.ref L) (.lst acc) H2 M2 (e1.trans ⟨s2.trans hide_sub, hid2⟩) m2.unhide (.lst (imm_of nL (m2.nm L (.inr rfl)) l2) (r2.sub hide_sub)) (hend acc M2 i2)
theorem ats_nil : PTs X [] (cT K aYes) := ⟨fun pins s σ H Q I ⟨N, M, Γ, Q', o, q, k⟩ => pts_nil.run pins s σ H Q I (k true H M .refl o.m q)⟩
theorem ats_one {c : Expr} {at' : AT} (h : PT X c (cT K at')) : PTs X [c] (cT K at') := pts_one h
theorem ae_lc {elt tg iter : Expr} {ifs : List Expr} {scope : Scope} {own : List (Str × Nat)} {ai : AI} {g : TG} {ag : AG} {at' : AT} {ae : AE} {tv : List Nat} (hc : X.calm = true) (hN : X.N.Nodup) (hi : PI X tg iter (cI K ai)) (ok : BlkOk X.N X.env.scope scope own)
    (hg : ∀ (s : Shared) (H : Hp) (C : Addr) (cl : List (Str × Addr)) (fp : List Addr), PG (X.blk s H scope (compEnvC scope cl C X.env) fp) tg g) (gk : GOk K g ag tv) (sub : ∀ i ∈ tv, i ∈ own.map (·.2)) (ht : ∀ (s : Shared) (H : Hp) (C : Addr) (cl : List (Str × Addr)) (fp : List Addr), PTs (X.blk s H scope (compEnvC scope cl C X.env) fp) ifs (cT K at'))
    (he : ∀ (s : Shared) (H : Hp) (C : Addr) (cl : List (Str × Addr)) (fp : List Addr), PE (X.blk s H scope (compEnvC scope cl C X.env) fp) elt (cE K ae)) (hs : ∀ x, foldedSetIterable iter X.env x = pure x := by intro _; rfl) :
    PE X (.ListComp elt [⟨tg, iter, ifs, 0⟩] scope pos) (cE K (aLc ai ag at' ae (own.map (·.2)))) := PE.to (pe_lc hc hN hi ok hg ht he hs) fun _ _ _ h => lc_run gk sub h
theorem as_setLc {i : Nat} {y : Str} {py : Pos} {elt tg iter : Expr} {ifs : List Expr} {scope : Scope} {own : List (Str × Nat)} {pos spos : Pos} {ai : AI} {g : TG} {ag : AG} {at' : AT} {ae : AE} {tv : List Nat} (hc : X.calm = true) (hN : X.N.Nodup) (hy : X.N[i]? = some y) (hyl : X.env.scope.names.lookup y = some .local)
    (hsw : swapsWith (.ListComp elt [⟨tg, iter, ifs, 0⟩] scope pos) (some (.Name y py)) spos.line X.env = pure true) (hi : PI X tg iter (cI K ai)) (ok : BlkOk X.N X.env.scope scope own)
    (hg : ∀ (s : Shared) (H : Hp) (C : Addr) (cl : List (Str × Addr)) (fp : List Addr), PG (X.blk s H scope (compEnvC scope cl C X.env) fp) tg g) (gk : GOk K g ag tv) (sub : ∀ i ∈ tv, i ∈ own.map (·.2)) (ht : ∀ (s : Shared) (H : Hp) (C : Addr) (cl : List (Str × Addr)) (fp : List Addr), PTs (X.blk s H scope (compEnvC scope cl C X.env) fp) ifs (cT K at'))
    (he : ∀ (s : Shared) (H : Hp) (C : Addr) (cl : List (Str × Addr)) (fp : List Addr), PE (X.blk s H scope (compEnvC scope cl C X.env) fp) elt (cE K ae)) (hs : ∀ x, foldedSetIterable iter X.env x = pure x := by intro _; rfl) :
    PS X (.Assign [.Name y py] (.ListComp elt [⟨tg, iter, ifs, 0⟩] scope pos) spos) (cS K (aAsg (aLc ai ag at' ae (own.map (·.2))) (aGName i))) :=
  PS.to (ps_setLc hc hN hy hyl hsw hi ok hg ht he hs) (asg_run (go_name i) fun _ _ _ h => lc_run gk sub h)
end
/-! ### defs -/
abbrev ASp := List D → Mem → (D → Mem → Prop) → Prop
def spA (K : PySem.W.Frag) (A : ASp) : Sp := fun vs H Q _ => ∃ N M ds Q', MOk K N M H ∧ RepA K (imm N M H) vs ds ∧ A ds M Q' ∧ kE K N M H Q' Q
def aCall (A : ASp) (aa : AA) : AE := fun Γ M Q => aa Γ M fun ds M1 => A ds M1 Q
def startA (N : List Str) (ds : List D) : Sl := ds.map some ++ List.replicate (N.length - ds.length) none
def endsA (Q : D → Mem → Prop) : AEnds := { nx := fun _ M => Q .non M, bk := fun _ _ => False, ct := fun _ _ => False, rt := Q }
section
variable {X : Cx} {K : PySem.W.Frag} {k : Nat} {ps : List Str} {A : ASp} {x : Str} {p pos : Pos} {e : Expr} {es : List Expr} {aa : AA}
theorem ae_c (D : Has X.prog X.w X.K X.mg X.base k x ps (spA K A)) (hr : Room k X.A) (hq : Quiet X.A) (ha : PA X (e :: es) (cA K aa))
    (hg : Gl X x := by rfl)
    (hdb : (x == ("__debug__" : Str)) = false := by decide)
    (he : starEach (e :: es) X.env = (false, eval e X.env) :: starEach es X.env := by rfl)
    (hpl : (backTo pos (starEach es X.env)).any (·.1) = false := by rfl) :
    PE X (.Call (.Name x p) (e :: es) [] pos) (cE K (aCall A aa)) :=
  PE.to (pe_c D hr hq ha hg hdb he hpl) fun σ H Q ⟨N, M, Γ, Q', o, q, kk⟩ => ⟨N, M, Γ, _, o, q, fun vs ds H1 M1 e1 m1 r1 q1 => by
    show spA K A (vs ++ []) H1 Q E0
    rw [List.append_nil]
    exact ⟨N, M1, ds, Q', m1, r1, q1, kk.go e1⟩⟩
end
section
variable {P : Program} {w : World} {K : PySem.W.Frag} {mg : Str → Option Value} {base : Heap}
theorem slots_none {F : Hp} : ∀ n : Nat, Paired (SlotOk K F) (List.replicate n none) (List.replicate n none)
  | 0 => .nil
  | n + 1 => .cons trivial (slots_none n)
theorem slots_some {F : Hp} {σ : L2.St} {Γ : Sl} (h : Paired (SlotOk K F) σ Γ) : ∀ {vs : List V} {ds : List D}, RepA K F vs ds → Paired (SlotOk K F) (vs.map some ++ σ) (ds.map some ++ Γ)
  | _, _, .nil => h
  | _, _, .cons a r => .cons a (slots_some h r)
/-- a def by its body -/
theorem okA {x qual : Str} {st : Stmt} {f : Addr} {fd : FuncData} {N ps : List Str} {k : Nat} {A : ASp} {as : AS}
    (F : Fun K x qual st f fd) (S : FnScope N ps (defScope st)) (len : ∀ ds M Q, A ds M Q → ds.length = ps.length)
    (body : ∀ (cv : Value) (A : Around) (out : List Env) (t : Shared) (G : Hp) (Z : XK), Room k (A.deeper (envOfC qual (defScope st) t.heap.objs.size f cv)) → Quiet A →
      PSs (cxOf CX0 P w K mg base N qual (defScope st) f cv A out t G Z).nox (defBody st) (cS K as))
    (main : ∀ ds M Q, A ds M Q → as (endsA Q) (startA N ds) M) : FnG P w K mg base CX0 (k + 1) f fd ps (spA K A) := by
  refine okG F S (fun zs G R Z h => ?_) (fun cv A' out t G zs R Z hr hq h => ⟨_, body cv A' out t G Z hr hq, ?_⟩)
  · obtain ⟨_, M, ds, Q', _, r, a, _⟩ := h
    rw [r.len]
    exact len _ _ _ a
  · obtain ⟨Nh, M, ds, Q', m, r, a, kk⟩ := h
    refine ⟨Nh, M, startA N ds, endsA Q', ⟨m, ?_⟩, main _ _ _ a, ⟨fun σ' H' Γ' M' e1 o1 q1 => kk .non .non H' M' e1 o1.m .non q1, fun _ _ _ _ _ _ z => z.elim, fun _ _ _ _ _ _ z => z.elim, kk⟩⟩
    unfold startA L2.start
    rw [r.len]
    exact slots_some (slots_none _) r
end
end LA
namespace M02
open PySem PySem.Spec PyProof.Rows L2 Lay
/-! ### what is a cell, a content, a name, a change -/
def isInt : PyData → Bool
  | .int _ => true
  | _ => false
def isPair : PyData → Bool
  | .tuple [_, _] => true
  | _ => false
def isCell : PyData → Bool
  | .tuple [.int a, .int b] => decide (0 ≤ a) && decide (0 ≤ b)
  | _ => false
def isWrite : PyData → Bool
  | .tuple [c, v] => isCell c && isInt v
  | _ => false
/-- the content goes on, behind the cell (b, p) -/
def goesOn : Int → Int → List PyData → Bool
  | _, _, [] => true
  | lb, lp, .tuple [.tuple [.int b, .int p], .int _] :: r => decide (0 ≤ b) && decide (0 ≤ p) && (decide (lb < b) || (decide (b = lb) && decide (lp < p))) && goesOn b p r
  | _, _, _ :: _ => false
def isContent : PyData → Bool
  | .tuple ds => goesOn (-1) (-1) ds
  | _ => false
def okName (x : Str) : Bool := decide (1 ≤ x.length) && decide (x.length ≤ 8) && x.cps.toList.all fun c => decide (97 ≤ c) && decide (c ≤ 122)
def isName : PyData → Bool
  | .str x => okName x
  | _ => false
/-- the blocks of a content are all this one -/
def oneBlock (b : Int) : List PyData → Bool
  | [] => true
  | .tuple (.tuple (.int a :: _) :: _) :: r => decide (a = b) && oneBlock b r
  | _ :: r => oneBlock b r
def isChange : PyData → Bool
  | .tuple [n, .tuple (.tuple [.tuple [.int b, p], v] :: r)] => isName n && goesOn (-1) (-1) (.tuple [.tuple [.int b, p], v] :: r) && oneBlock b r
  | _ => false
/-! ### signs below 128 -/
theorem sign_tab : ∀ c, c < 128 → (Unicode.isLower c = (decide (97 ≤ c) && decide (c ≤ 122))) ∧ (Unicode.isAlpha c = ((decide (97 ≤ c) && decide (c ≤ 122)) || (decide (65 ≤ c) && decide (c ≤ 90)))) ∧
    ((Unicode.isUpper c || Unicode.isTitle c) = (decide (65 ≤ c) && decide (c ≤ 90))) ∧ ∃ d, Unicode.upperOf c = [d] ∧ d < 128 := by
  have h : ∀ c : _root_.Fin 128, (Unicode.isLower c.val = (decide (97 ≤ c.val) && decide (c.val ≤ 122))) ∧ (Unicode.isAlpha c.val = ((decide (97 ≤ c.val) && decide (c.val ≤ 122)) || (decide (65 ≤ c.val) && decide (c.val ≤ 90)))) ∧
    ((Unicode.isUpper c.val || Unicode.isTitle c.val) = (decide (65 ≤ c.val) && decide (c.val ≤ 90))) ∧ (Unicode.upperOf c.val).length = 1 ∧ (Unicode.upperOf c.val).all (· < 128) = true := by
    decide +kernel
  intro c hc
  obtain ⟨a, b, d, e, f⟩ := h ⟨c, hc⟩
  refine ⟨a, b, d, ?_⟩
  cases g : Unicode.upperOf c with
  | nil => rw [show Unicode.upperOf (⟨c, hc⟩ : _root_.Fin 128).val = Unicode.upperOf c from rfl, g] at e; cases e
  | cons y r =>
    rw [show Unicode.upperOf (⟨c, hc⟩ : _root_.Fin 128).val = Unicode.upperOf c from rfl, g] at e f
    cases r with
    | cons z r2 => simp at e
    | nil => exact ⟨y, rfl, by simpa using f⟩
theorem name_signs (x : Str) (h : 1 ≤ x.length) : (Txt.isascii x && (Txt.isalpha x && Txt.islower x)) = x.cps.toList.all fun c => decide (97 ≤ c) && decide (c ≤ 122) := by
  have lenx : x.length = x.cps.toList.length := by simp [Str.length]
  unfold Txt.isascii Txt.isalpha Txt.islower
  simp only [← Array.all_toList, ← Array.any_toList]
  rw [show decide (x.length > 0) = true from decide_eq_true (by omega), Bool.true_and]
  rw [lenx] at h
  generalize x.cps.toList = l at h
  by_cases ha : l.all (fun c => decide (c < 128)) = true
  · rw [ha, Bool.true_and]
    have hb : ∀ c ∈ l, c < 128 := fun c hc => of_decide_eq_true (List.all_eq_true.mp ha c hc)
    rw [Bool.eq_iff_iff, Bool.and_eq_true, Bool.and_eq_true, List.all_eq_true, List.all_eq_true, List.any_eq_true, Bool.not_eq_true', List.any_eq_false]
    constructor
    · rintro ⟨h1, _, h3⟩ c hc
      obtain ⟨t1, t2, t3, _⟩ := sign_tab c (hb c hc)
      have a1 := h1 c hc
      have a3 := h3 c hc
      rw [t2] at a1
      rw [t3] at a3
      rcases Bool.or_eq_true .. ▸ a1 with z | z
      · exact z
      · exact absurd z a3
    · intro h1
      refine ⟨?_, ?_, ?_⟩
      · intro c hc
        obtain ⟨t1, t2, t3, _⟩ := sign_tab c (hb c hc)
        rw [t2, h1 c hc]
        rfl
      · cases l with
        | nil => simp at h
        | cons c r =>
          refine ⟨c, List.mem_cons_self .., ?_⟩
          rw [(sign_tab c (hb c (List.mem_cons_self ..))).1]
          exact h1 c (List.mem_cons_self ..)
      · intro c hc
        obtain ⟨t1, t2, t3, _⟩ := sign_tab c (hb c hc)
        rw [t3]
        have := h1 c hc
        rw [Bool.and_eq_true, decide_eq_true_eq, decide_eq_true_eq] at this
        intro z
        rw [Bool.and_eq_true, decide_eq_true_eq, decide_eq_true_eq] at z
        omega
  · have hf : l.all (fun c => decide (c < 128)) = false := by simpa using ha
    rw [hf, Bool.false_and]
    symm
    rw [List.all_eq_false] at hf ⊢
    obtain ⟨c, hc, hn⟩ := hf
    refine ⟨c, hc, ?_⟩
    intro z
    rw [Bool.and_eq_true, decide_eq_true_eq, decide_eq_true_eq] at z
    exact hn (decide_eq_true (by omega))
/-! ### how long data is when it is told -/
def dictOk : List (PyData × PyData) → Bool
  | [] => true
  | [(.int i, .int j)] => i == 0 && j == 1
  | _ => false
theorem dictOk_cases {kvs : List (PyData × PyData)} (h : dictOk kvs = true) : kvs = [] ∨ kvs = [(.int 0, .int 1)] := by
  unfold dictOk at h
  split at h
  · exact .inl rfl
  · rw [Bool.and_eq_true, beq_iff_eq, beq_iff_eq] at h
    rw [h.1, h.2]
    exact .inr rfl
  · cases h
mutual
/-- its ints below B, its texts plain -/
def fine (B : Nat) : PyData → Bool
  | .none => true
  | .bool _ => true
  | .int i => decide (i.natAbs ≤ B)
  | .str x => x.cps.toList.all (fun c => decide (c < 128))
  | .list ds => fineAll B ds
  | .tuple ds => fineAll B ds
  | .dict kvs => dictOk kvs
def fineAll (B : Nat) : List PyData → Bool
  | [] => true
  | d :: r => fine B d && fineAll B r
end
mutual
def wt : PyData → Nat
  | .none => 6
  | .bool _ => 6
  | .int _ => 52
  | .str x => 10 * x.length + 4
  | .list ds => 4 + wtAll ds
  | .tuple ds => 4 + wtAll ds
  | .dict _ => 20
def wtAll : List PyData → Nat
  | [] => 0
  | d :: r => wt d + 2 + wtAll r
end
theorem wtAll_app : ∀ a b : List PyData, wtAll (a ++ b) = wtAll a + wtAll b
  | [], b => by simp [wtAll]
  | x :: r, b => by
    rw [List.cons_append]
    simp only [wtAll]
    rw [wtAll_app r b]
    omega
theorem fineAll_iff (B : Nat) : ∀ ds : List PyData, fineAll B ds = true ↔ ∀ d ∈ ds, fine B d = true
  | [] => by simp [fineAll]
  | d :: r => by simp [fineAll, fineAll_iff B r]
theorem wtAll_mem : ∀ (ds : List PyData) (d : PyData), d ∈ ds → wt d + 2 ≤ wtAll ds
  | [], d, h => by cases h
  | x :: r, d, h => by
    simp only [wtAll]
    rcases List.mem_cons.mp h with rfl | h
    · omega
    · have := wtAll_mem r d h
      omega
theorem wtAll_len : ∀ (ds : List PyData), 2 * ds.length ≤ wtAll ds
  | [] => by simp
  | x :: r => by
    have := wtAll_len r
    simp only [wtAll, List.length_cons]
    omega
mutual
theorem shown_le {B : Nat} (hB : B < 10 ^ 50) : ∀ d : PyData, fine B d = true → d.showable = true ∧ d.shown.length ≤ wt d
  | .none, _ => ⟨by simp [PyData.showable], by rw [PyData.shown_none]; exact by decide +kernel⟩
  | .bool b, _ => ⟨by simp [PyData.showable], by rw [PyData.shown_bool]; cases b <;> exact by decide +kernel⟩
  | .int i, h => by
    have hi : i.natAbs ≤ B := of_decide_eq_true (by simpa only [fine] using h)
    have hlt : i.natAbs < 10 ^ 50 := Nat.lt_of_le_of_lt hi hB
    refine ⟨?_, ?_⟩
    · have : i.natAbs.log2 < 1920 := by
        rcases Nat.eq_zero_or_pos i.natAbs with z | z
        · rw [z]; decide
        · rw [Nat.log2_lt (by omega)]
          exact Nat.lt_trans hlt (by decide +kernel)
      simpa [PyData.showable] using this
    · rw [PyData.shown_int]
      have := int_text_length_le10 (a := i) (k := 50) (by decide) hlt
      show (Str.ofString (toString i)).length ≤ 52
      rw [PySem.ofString_length]
      omega
  | .str x, h => by
    refine ⟨by simp [PyData.showable], ?_⟩
    rw [PyData.shown_str]
    have hx : ∀ c ∈ x.cps.toList, c < 16 ^ 8 := by
      intro c hc
      have hc' : x.cps.toList.all (fun c => decide (c < 128)) = true := by simpa only [fine] using h
      have := of_decide_eq_true (List.all_eq_true.mp hc' c hc)
      omega
    have := StrLaws.reprText_len x hx
    simp only [wt]
    omega
  | .list ds, h => by
    obtain ⟨a, b⟩ := shownAll_le hB ds (by simpa only [fine] using h)
    refine ⟨by simpa [PyData.showable] using a, ?_⟩
    have := list_le (PyData.shownAll ds)
    simp only [PyData.shown, wt]
    omega
  | .tuple ds, h => by
    obtain ⟨a, b⟩ := shownAll_le hB ds (by simpa only [fine] using h)
    refine ⟨by simpa [PyData.showable] using a, ?_⟩
    have := tuple_le (PyData.shownAll ds)
    simp only [PyData.shown, wt]
    omega
  | .dict kvs, h => by
    rcases dictOk_cases (by simpa only [fine] using h) with rfl | rfl
    · exact ⟨by simp [PyData.showable, PyData.showableKv], by simp only [PyData.shown, PyData.shownKv, wt]; decide +kernel⟩
    · refine ⟨?_, by simp only [PyData.shown, PyData.shownKv, wt]; decide +kernel⟩
      simp only [PyData.showable, PyData.showableKv]
      decide +kernel
theorem shownAll_le {B : Nat} (hB : B < 10 ^ 50) : ∀ ds : List PyData, fineAll B ds = true → PyData.showableAll ds = true ∧ piled (PyData.shownAll ds) ≤ wtAll ds
  | [], _ => ⟨by simp [PyData.showableAll], by simp [PyData.shownAll, piled_nil]⟩
  | d :: r, h => by
    have h' : fine B d = true ∧ fineAll B r = true := by simpa [fineAll] using h
    obtain ⟨a1, a2⟩ := shown_le hB d h'.1
    obtain ⟨b1, b2⟩ := shownAll_le hB r h'.2
    refine ⟨by simp [PyData.showableAll, a1, b1], ?_⟩
    simp only [PyData.shownAll, piled_cons, wtAll]
    omega
end
theorem pair_cases (d : PyData) : (isPair d = false ∧ ∀ a b, d ≠ .tuple [a, b]) ∨ ∃ a b, d = .tuple [a, b] := by
  by_cases h : ∃ a b, d = .tuple [a, b]
  · exact .inr h
  · refine .inl ⟨?_, fun a b e => h ⟨a, b, e⟩⟩
    unfold isPair
    split
    · rename_i a b
      exact absurd ⟨a, b, rfl⟩ h
    · rfl
theorem int_cases (d : PyData) : (isInt d = false ∧ ∀ i, d ≠ .int i) ∨ ∃ i, d = .int i := by
  cases d <;> first | exact .inr ⟨_, rfl⟩ | exact .inl ⟨rfl, fun i e => by cases e⟩
theorem _root_.Lay.Dx.pair {K : PySem.W.Frag} {H : Hp} {v : V} {a b : PyData} (h : Dx K H v (.tuple [a, b])) : ∃ t va vb, v = .ref t ∧ SqT K H t [va, vb] ∧ Dx K H va a ∧ Dx K H vb b := by
  cases h with
  | tup hs hd =>
    cases hd with
    | cons h1 r => cases r with
      | cons h2 r2 => cases r2 with
        | nil => exact ⟨_, _, _, rfl, hs, h1, h2⟩
theorem _root_.Lay.Dx.seq {K : PySem.W.Frag} {H : Hp} {v : V} {ds : List PyData} (h : Dx K H v (.tuple ds)) : ∃ t vs, v = .ref t ∧ SqT K H t vs ∧ DxAll K H vs ds := by
  cases h with
  | tup hs hd => exact ⟨_, _, rfl, hs, hd⟩
theorem _root_.Lay.Dx.int_inv {K : PySem.W.Frag} {H : Hp} {v : V} {i : Int} (h : Dx K H v (.int i)) : v = .int i := by cases h; rfl
theorem _root_.Lay.DxAll.get {K : PySem.W.Frag} {H : Hp} : ∀ {vs : List V} {ds : List PyData} (h : DxAll K H vs ds) (i : Nat) (v : V) (d : PyData), vs[i]? = some v → ds[i]? = some d → Dx K H v d
  | _, _, .nil, i, v, d, h, _ => by simp at h
  | _, _, .cons h1 r, 0, v, d, hv, hd => by
    rw [List.getElem?_cons_zero] at hv hd
    cases hv
    cases hd
    exact h1
  | _, _, .cons h1 r, i + 1, v, d, hv, hd => by
    rw [List.getElem?_cons_succ] at hv hd
    exact r.get i v d hv hd
theorem not_cell {d : PyData} (h : ∀ a b, d ≠ .tuple [a, b]) : isCell d = false := by
  unfold isCell
  split
  · exact absurd rfl (h _ _)
  · rfl
theorem not_write {d : PyData} (h : ∀ a b, d ≠ .tuple [a, b]) : isWrite d = false := by
  unfold isWrite
  split
  · exact absurd rfl (h _ _)
  · rfl
theorem not_change {d : PyData} (h : ∀ a b, d ≠ .tuple [a, b]) : isChange d = false := by
  unfold isChange
  split
  · exact absurd rfl (h _ _)
  · rfl
theorem wt_pair {a b : PyData} {n : Nat} (h : wt (.tuple [a, b]) ≤ n) : wt a ≤ n ∧ wt b ≤ n := by
  simp only [wt, wtAll] at h
  omega
theorem kit_tab : kitB "NoneType" "int" = some false ∧ kitB "bool" "int" = some true ∧ kitB "int" "int" = some true ∧ kitB "str" "int" = some false ∧ kitB "list" "int" = some false ∧ kitB "tuple" "int" = some false ∧ kitB "dict" "int" = some false ∧
    kitB "NoneType" "bool" = some false ∧ kitB "bool" "bool" = some true ∧ kitB "int" "bool" = some false ∧ kitB "str" "bool" = some false ∧ kitB "list" "bool" = some false ∧ kitB "tuple" "bool" = some false ∧ kitB "dict" "bool" = some false ∧
    kitB "NoneType" "tuple" = some false ∧ kitB "bool" "tuple" = some false ∧ kitB "int" "tuple" = some false ∧ kitB "str" "tuple" = some false ∧ kitB "list" "tuple" = some false ∧ kitB "tuple" "tuple" = some true ∧ kitB "dict" "tuple" = some false ∧
    kitB "NoneType" "str" = some false ∧ kitB "bool" "str" = some false ∧ kitB "int" "str" = some false ∧ kitB "str" "str" = some true ∧ kitB "list" "str" = some false ∧ kitB "tuple" "str" = some false ∧ kitB "dict" "str" = some false := by
  decide +kernel
def inInt : PyData → Bool
  | .int _ => true
  | .bool _ => true
  | _ => false
def isTup : PyData → Bool
  | .tuple _ => true
  | _ => false
def isStr : PyData → Bool
  | .str _ => true
  | _ => false
def isBool : PyData → Bool
  | .bool _ => true
  | _ => false
theorem kit_int (d : PyData) : kitB (tyName d) "int" = some (inInt d) := by
  obtain ⟨a, b, c, e, f, g, h, _⟩ := kit_tab
  cases d <;> assumption
theorem kit_bool (d : PyData) : kitB (tyName d) "bool" = some (isBool d) := by
  obtain ⟨_, _, _, _, _, _, _, a, b, c, e, f, g, h, _⟩ := kit_tab
  cases d <;> assumption
theorem kit_tup (d : PyData) : kitB (tyName d) "tuple" = some (isTup d) := by
  obtain ⟨_, _, _, _, _, _, _, _, _, _, _, _, _, _, a, b, c, e, f, g, h, _⟩ := kit_tab
  cases d <;> assumption
theorem kit_str (d : PyData) : kitB (tyName d) "str" = some (isStr d) := by
  obtain ⟨_, _, _, _, _, _, _, _, _, _, _, _, _, _, _, _, _, _, _, _, _, a, b, c, e, f, g, h⟩ := kit_tab
  cases d <;> assumption
theorem tup_cases (d : PyData) : (isTup d = false ∧ ∀ ds, d ≠ .tuple ds) ∨ ∃ ds, d = .tuple ds := by
  cases d <;> first | exact .inr ⟨_, rfl⟩ | exact .inl ⟨rfl, fun i e => by cases e⟩
theorem str_cases (d : PyData) : (isStr d = false ∧ isName d = false) ∨ ∃ x, d = .str x := by
  cases d <;> first | exact .inr ⟨_, rfl⟩ | exact .inl ⟨rfl, rfl⟩
end M02
/-! Data of any depth as the laws make it: what of the heap is left out, how long it is when told, what is written out in a law. -/
namespace LD
open PySem PySem.Spec PyProof.Rows L2 Lay M02
structure Gd (B N n : Nat) (d : PyData) : Prop where
  fi : fine B d = true
  wt : wt d ≤ N
  dp : d.depth ≤ n
def BB : Nat := 10 ^ 41
theorem Gd.told {B N n : Nat} {d : PyData} (h : Gd B N n d) (hB : B < 10 ^ 50) (hN : N ≤ 1000000) (hn : n ≤ 60) : d.showable = true ∧ d.depth ≤ 60 ∧ d.shown.length ≤ sizeLine := by
  obtain ⟨a, b⟩ := shown_le hB d h.fi
  exact ⟨a, Nat.le_trans h.dp hn, line _ (by have := h.wt; omega)⟩
theorem rep {K : PySem.W.Frag} {H : Hp} {v : V} {d : PyData} {Q : VK} (h : Dx K H v d) (g : d.showable = true ∧ d.depth ≤ 60 ∧ d.shown.length ≤ sizeLine) (q : Q (.str d.shown) H) : rReprX K [v] H Q := ⟨v, d, rfl, h, g.1, g.2.1, g.2.2, q⟩
theorem iteT' {x : V} {A B : Prop} (h : A) : if decide (x = x) = true then A else B := by
  rw [if_pos (by simp)]
  exact h
def off (S : List Addr) (H : Hp) : Hp := fun b => if b ∈ S then none else H b
theorem off_some {S : List Addr} {b : Addr} {H : Hp} {o : HO} (e : off S H b = some o) : b ∉ S ∧ H b = some o := by
  unfold off at e
  split at e
  · cases e
  · rename_i h
    exact ⟨h, e⟩
theorem off_of {S : List Addr} {b : Addr} {H : Hp} {o : HO} (h1 : b ∉ S) (h : H b = some o) : off S H b = some o := by
  unfold off
  rw [if_neg h1]
  exact h
theorem off_sub (S : List Addr) (H : Hp) : Same (off S H) H := fun b o e => (off_some e).2
theorem off_less {S T : List Addr} (H : Hp) (h : ∀ a ∈ T, a ∈ S) : Same (off S H) (off T H) := fun b o e => off_of (fun z => (off_some e).1 (h b z)) (off_some e).2
theorem _root_.Lay.Keep.off {p l : Addr} {S : List Addr} {H H' : Hp} (k : Keep p l H H') (hp : p ∈ S) (hl : l ∈ S) : Same (off S H) (off S H') := by
  intro b o e
  obtain ⟨h1, h3⟩ := off_some e
  exact off_of h1 (k b o h3 (fun z => h1 (by rw [z]; exact hp)) fun z => h1 (by rw [z]; exact hl))
theorem off_same {S : List Addr} {H H' : Hp} (s : Same H H') : Same (off S H) (off S H') := by
  intro b o e
  obtain ⟨h1, h3⟩ := off_some e
  exact off_of h1 (s b o h3)
theorem off_upd {S : List Addr} {H : Hp} {L : Addr} {o : HO} (h : L ∈ S) : off S (upd H L o) = off S H := by
  funext b
  unfold off
  split
  · rfl
  · rename_i z
    rw [upd_ne (fun e => z (by rw [e]; exact h))]
theorem keepU {H G : Hp} {p l q : Addr} {o : HO} (k : Keep p l H G) (hq : G q = none) : Keep p l H (upd G q o) := k.trans (.of (same_upd hq))
theorem keepW {H G : Hp} {p l q : Addr} {o : HO} (k : Keep p l H G) (hq : H q = none) : Keep p l H (upd G q o) := by
  intro b u e h1 h2
  rw [upd_ne (ne_of_none e hq)]
  exact k b u e h1 h2
theorem join_signs : ∀ (ys : List Str), (∀ y ∈ ys, ∀ c ∈ y.cps.toList, c < 128) → ∀ c ∈ (Str.join (Str.ofString "") ys).cps.toList, c < 128
  | [], _, c, h => by
    have : (Str.join (Str.ofString "") []).cps.toList = [] := by decide +kernel
    rw [this] at h
    cases h
  | [x], hx, c, h => hx x (List.mem_cons_self ..) c h
  | x :: y :: r, hx, c, h => by
    have e : (Str.join (Str.ofString "") (x :: y :: r)).cps.toList = x.cps.toList ++ (Str.join (Str.ofString "") (y :: r)).cps.toList := by
      show (x ++ Str.ofString "" ++ Str.join (Str.ofString "") (y :: r)).cps.toList = _
      have : ∀ a b : Str, (a ++ b).cps.toList = a.cps.toList ++ b.cps.toList := fun a b => by
        show (a.cps ++ b.cps).toList = _
        exact Array.toList_append
      rw [this, this]
      have : (Str.ofString "").cps.toList = [] := by decide +kernel
      rw [this, List.append_nil]
    rw [e] at h
    rcases List.mem_append.mp h with h | h
    · exact hx x (List.mem_cons_self ..) c h
    · exact join_signs (y :: r) (fun z hz => hx z (List.mem_cons_of_mem _ hz)) c h
theorem join_len (ys : List Str) (h : ∀ y ∈ ys, y.length = 1) : (Txt.join (Str.ofString "") ys).length ≤ ys.length := by
  unfold Txt.join
  rw [StrLaws.glued_eq_join]
  refine Nat.le_trans (StrLaws.join_length_le _ _) ?_
  have e : (Str.ofString "").length = 0 := by decide +kernel
  rw [e, Nat.mul_zero, Nat.add_zero]
  clear e
  induction ys with
  | nil => exact Nat.le_refl _
  | cons y r ih =>
    rw [List.map_cons, List.sum_cons, List.length_cons, h y (List.mem_cons_self ..)]
    have := ih (fun z hz => h z (List.mem_cons_of_mem _ hz))
    omega
theorem depthAll_app : ∀ (a b : List PyData) (m : Nat), PyData.depthAll a ≤ m → PyData.depthAll b ≤ m → PyData.depthAll (a ++ b) ≤ m
  | [], b, m, _, h => h
  | x :: r, b, m, h1, h2 => by
    simp only [List.cons_append, PyData.depthAll] at h1 ⊢
    have := depthAll_app r b m (by omega) h2
    omega
theorem fineAll_app {B : Nat} (a b : List PyData) : fineAll B (a ++ b) = (fineAll B a && fineAll B b) := by
  induction a with
  | nil => simp [fineAll]
  | cons x r ih => simp [fineAll, ih, Bool.and_assoc]
theorem dx_app {K : PySem.W.Frag} {F : Hp} {ws : List V} {es : List PyData} (b : DxAll K F ws es) : ∀ {vs : List V} {ds : List PyData}, DxAll K F vs ds → DxAll K F (vs ++ ws) (ds ++ es)
  | _, _, .nil => b
  | _, _, .cons h r => .cons h (dx_app b r)
theorem _root_.Lay.DxAll.app {K : PySem.W.Frag} {F : Hp} {vs ws : List V} {ds es : List PyData} (a : DxAll K F vs ds) (b : DxAll K F ws es) : DxAll K F (vs ++ ws) (ds ++ es) := dx_app b a
section
variable {K : PySem.W.Frag} {S : List Addr} {H0 : Hp} {σ : L2.St}
def Lit (K : PySem.W.Frag) (S : List Addr) (H0 : Hp) (σ : L2.St) (te : TE) (d : PyData) : Prop :=
  ∀ (H : Hp) (Q : VK), Same H0 H → (∀ v H', Same H H' → Dx K (off S H') v d → Q v H') → te σ H Q
def LitA (K : PySem.W.Frag) (S : List Addr) (H0 : Hp) (σ : L2.St) (ta : TA) (ds : List PyData) : Prop :=
  ∀ (H : Hp) (Q : List V → Hp → Prop), Same H0 H → (∀ vs H', Same H H' → DxAll K (off S H') vs ds → Q vs H') → ta σ H Q
theorem Lit.pure {te : TE} {v : V} {d : PyData} (h : ∀ H Q, Q v H → te σ H Q) (hd : ∀ G, Dx K G v d) : Lit K S H0 σ te d := fun H Q s q => h H Q (q v H (Same.refl H) (hd _))
theorem Lit.non : Lit K S H0 σ (tC .non) .none := .pure (fun _ _ q => q) fun _ => .non
theorem Lit.bl {b : Bool} : Lit K S H0 σ (tC (.bl b)) (.bool b) := .pure (fun _ _ q => q) fun _ => .bl b
theorem Lit.int {i : Int} : Lit K S H0 σ (tC (.int i)) (.int i) := .pure (fun _ _ q => q) fun _ => .int i
theorem Lit.str {x : Str} : Lit K S H0 σ (tC (.str x)) (.str x) := .pure (fun _ _ q => q) fun _ => .str x
theorem Lit.neg {i : Int} : Lit K S H0 σ (tUn (rU fun i => .int (-i)) (tC (.int i))) (.int (-i)) := .pure (fun _ _ q => ⟨i, rfl, q⟩) fun _ => .int _
theorem Lit.var {i : Nat} {v : V} {d : PyData} (h : σ[i]? = some (some v)) (hd : Dx K (off S H0) v d) : Lit K S H0 σ (tVar i) d := fun H Q s q => ⟨v, h, q v H (Same.refl H) (hd.sub (off_same s))⟩
theorem LitA.nil : LitA K S H0 σ tNil [] := fun H Q s q => q [] H (Same.refl H) .nil
theorem LitA.cons {te : TE} {ta : TA} {d : PyData} {ds : List PyData} (a : Lit K S H0 σ te d) (b : LitA K S H0 σ ta ds) : LitA K S H0 σ (tCons te ta) (d :: ds) := fun H Q s q =>
  a H _ s fun v H1 s1 hd => b H1 _ (s.trans s1) fun vs H2 s2 hds => q (v :: vs) H2 (s1.trans s2) (.cons (hd.sub (off_same s2)) hds)
theorem nS {H : Hp} (hS : ∀ a ∈ S, H0 a ≠ none) (s : Same H0 H) {q : Addr} (hq : H q = none) : q ∉ S := fun z => hS q z (s.free hq)
theorem Lit.tup {ta : TA} {ds : List PyData} (hS : ∀ a ∈ S, H0 a ≠ none) (h : LitA K S H0 σ ta ds) (hl : ds.length ≤ 1000 := by decide) : Lit K S H0 σ (tTup ta) (.tuple ds) := fun H Q s q =>
  h H _ s fun vs H1 s1 hds => ⟨line _ (by rw [hds.len]; omega), fun p hp => q _ _ (sameU s1 hp) (.tup (.inl (.inl (off_of (nS hS (s.trans s1) hp) upd_same))) (hds.sub (off_same (same_upd hp))))⟩
theorem Lit.lst {ta : TA} {ds : List PyData} (hS : ∀ a ∈ S, H0 a ≠ none) (h : LitA K S H0 σ ta ds) (hl : ds.length ≤ 1000 := by decide) : Lit K S H0 σ (tLst ta) (.list ds) := fun H Q s q =>
  h H _ s fun vs H1 s1 hds => ⟨line _ (by rw [hds.len]; omega), fun p hp => q _ _ (sameU s1 hp) (.lst (.inl (.inl (off_of (nS hS (s.trans s1) hp) upd_same))) (hds.sub (off_same (same_upd hp))))⟩
theorem Lit.dict0 (hS : ∀ a ∈ S, H0 a ≠ none) : Lit K S H0 σ tDNewK (.dict []) := fun H Q s q p hp =>
  q _ _ (same_upd hp) (.dct (es := []) (off_of (nS hS s hp) upd_same) rfl .nil)
theorem Lit.dict1 (hS : ∀ a ∈ S, H0 a ≠ none) : Lit K S H0 σ (tDisp [(tC (.int 0), tC (.int 1))]) (.dict [(.int 0, .int 1)]) := fun H Q s q p hp =>
  ⟨upd_same, [(.inl 0, .int 1)], rfl, by decide, q _ _ (sameU' (same_upd hp) hp) (by
    rw [upd_upd]
    exact .dct (es := [(.inl 0, .int 1)]) (off_of (nS hS s hp) upd_same) rfl (.cons (.int 1) .nil))⟩
/-- a list is written out: where it stands -/
theorem LitA.list {ta : TA} {ds : List PyData} {H : Hp} {Q : VK} (hS : ∀ a ∈ S, H0 a ≠ none) (h : LitA K S H0 σ ta ds) (s : Same H0 H) (hl : ds.length ≤ 1000)
    (q : ∀ p xs H', Same H H' → H p = none → H' p = some (.lst xs) → DxAll K (off S H') xs ds → Q (.ref p) H') : tLst ta σ H Q :=
  h H _ s fun vs H1 s1 hds => ⟨line _ (by rw [hds.len]; omega), fun p hp => q p vs _ (sameU s1 hp) (s1.free hp) upd_same (hds.sub (off_same (same_upd hp)))⟩
/-- xs + [..] -/
theorem LitA.cat {ta : TA} {ds es : List PyData} {H : Hp} {Q : VK} {i : Nat} {a : Addr} {xs : List V} (hS : ∀ a ∈ S, H0 a ≠ none) (h : LitA K S H0 σ ta ds) (s : Same H0 H) (hl : ds.length ≤ 1000)
    (hi : σ[i]? = some (some (.ref a))) (ha : H a = some (.lst xs)) (hx : DxAll K (off S H) xs es) (lx : es.length ≤ 1000)
    (q : ∀ p ys H', Same H H' → H p = none → H' p = some (.lst ys) → DxAll K (off S H') ys (es ++ ds) → Q (.ref p) H') : tOp rCat (tVar i) (tLst ta) σ H Q := by
  refine ⟨_, hi, LitA.list hS h s hl fun p ys H' s' hp g d => ⟨a, p, xs, ys, rfl, rfl, s' _ _ ha, g, line _ (by rw [hx.len, d.len]; omega), fun r hr => ?_⟩⟩
  refine q r _ _ (sameU s' hr) (s'.free hr) upd_same ?_
  exact ((hx.sub (off_same s')).sub (off_same (same_upd hr))).app (d.sub (off_same (same_upd hr)))
/-- xs + [..] * 3 -/
theorem LitA.cat3 {ta : TA} {ds es : List PyData} {H : Hp} {Q : VK} {i : Nat} {a : Addr} {xs : List V} (hS : ∀ a ∈ S, H0 a ≠ none) (h : LitA K S H0 σ ta ds) (s : Same H0 H) (hl : ds.length ≤ 100)
    (hi : σ[i]? = some (some (.ref a))) (ha : H a = some (.lst xs)) (hx : DxAll K (off S H) xs es) (lx : es.length ≤ 1000)
    (q : ∀ p ys H', Same H H' → H p = none → H' p = some (.lst ys) → DxAll K (off S H') ys (es ++ (ds ++ (ds ++ ds))) → Q (.ref p) H') : tOp rCat (tVar i) (tOp rRep (tLst ta) (tC (.int 3))) σ H Q := by
  refine ⟨_, hi, LitA.list hS h s (by omega) fun p ys H' s' hp g d => ⟨p, 3, ys, rfl, rfl, g, by decide, by decide, line _ (by rw [d.len]; show ds.length * 3 ≤ _; omega), fun r hr => ?_⟩⟩
  have e : (List.replicate (3 : Int).toNat ys).flatten = ys ++ (ys ++ ys) := by
    show (List.replicate 3 ys).flatten = _
    simp [List.replicate_succ]
  rw [e]
  have s2 := sameU (o := .lst (ys ++ (ys ++ ys))) s' hr
  have d2 := d.sub (off_same (S := S) (same_upd (o := .lst (ys ++ (ys ++ ys))) hr))
  refine ⟨a, r, xs, _, rfl, rfl, s2 _ _ ha, upd_same, line _ ?_, fun t ht => ?_⟩
  · have := d.len
    have := hx.len
    simp only [List.length_append]
    omega
  · refine q t _ _ (sameU s2 ht) (s2.free ht) upd_same ?_
    have d3 := d2.sub (off_same (same_upd (o := .lst (xs ++ (ys ++ (ys ++ ys)))) ht))
    exact ((hx.sub (off_same s2)).sub (off_same (same_upd ht))).app (d3.app (d3.app d3))
end
mutual
theorem fine_mono {A B : Nat} (h : A ≤ B) : ∀ d : PyData, fine A d = true → fine B d = true
  | .none, _ => rfl
  | .bool _, _ => rfl
  | .int i, z => by
    have : i.natAbs ≤ A := of_decide_eq_true (by simpa only [fine] using z)
    simp only [fine]
    exact decide_eq_true (by omega)
  | .str x, z => by simpa only [fine] using z
  | .list ds, z => by
    have := fineAll_mono h ds (by simpa only [fine] using z)
    simpa only [fine] using this
  | .tuple ds, z => by
    have := fineAll_mono h ds (by simpa only [fine] using z)
    simpa only [fine] using this
  | .dict kvs, z => by simpa only [fine] using z
theorem fineAll_mono {A B : Nat} (h : A ≤ B) : ∀ ds : List PyData, fineAll A ds = true → fineAll B ds = true
  | [], _ => rfl
  | d :: r, z => by
    have z' : fine A d = true ∧ fineAll A r = true := by simpa [fineAll] using z
    simp only [fineAll, fine_mono h d z'.1, fineAll_mono h r z'.2, Bool.and_self]
end
theorem Gd.mono {A N n B M m : Nat} {d : PyData} (g : Gd A N n d) (h1 : A ≤ B) (h2 : N ≤ M) (h3 : n ≤ m) : Gd B M m d := ⟨fine_mono h1 d g.fi, Nat.le_trans g.wt h2, Nat.le_trans g.dp h3⟩
def gd0 (d : PyData) : Bool := fine (10 ^ 39) d && decide (wt d ≤ 400) && decide (d.depth ≤ 2)
theorem gd0_ok {d : PyData} (h : gd0 d = true) : Gd (10 ^ 39) 400 2 d := by
  unfold gd0 at h
  rw [Bool.and_eq_true, Bool.and_eq_true, decide_eq_true_eq, decide_eq_true_eq] at h
  exact ⟨h.1.1, h.1.2, h.2⟩
theorem gd0_all {ds : List PyData} (h : ds.all gd0 = true) : ∀ d ∈ ds, Gd (10 ^ 39) 400 2 d := fun d hd => gd0_ok (List.all_eq_true.mp h d hd)
theorem int_signs (i : Int) : ∀ c ∈ (Str.ofString (toString i)).cps.toList, c < 128 := by
  intro c hc
  rcases Nat.lt_or_ge c 128 with h | h
  · exact h
  · exact absurd hc (int_text_free' c ⟨by omega, by omega⟩ i)
theorem upper_signs (x : Str) (h : ∀ c ∈ x.cps.toList, c < 128) : (Txt.upper x).length = x.length ∧ ∀ c ∈ (Txt.upper x).cps.toList, c < 128 := by
  rw [upper_ascii h]
  refine ⟨?_, ?_⟩
  · show (x.cps.map up1).size = x.cps.size
    exact Array.size_map ..
  · intro c hc
    rw [Array.toList_map] at hc
    obtain ⟨d, hd, rfl⟩ := List.mem_map.mp hc
    have := h d hd
    unfold up1
    split <;> omega
theorem cut_signs (x : Str) (lo hi : Option Int) (h : ∀ c ∈ x.cps.toList, c < 128) : (cutS x lo hi).length ≤ x.length ∧ ∀ c ∈ (cutS x lo hi).cps.toList, c < 128 := by
  rw [C8.cutS_slice]
  refine ⟨Txt.slice_le x lo hi, ?_⟩
  unfold Txt.slice
  split
  · exact h
  · intro c hc
    have hc' : c ∈ (Builtin.Str.strSliceIndices lo hi 1 x.length).filterMap (x.cps[·]?) := by simpa using hc
    obtain ⟨k, _, e⟩ := List.mem_filterMap.mp hc'
    obtain ⟨hk, e2⟩ := Array.getElem?_eq_some_iff.mp e
    refine h c ?_
    rw [← e2]
    exact Array.mem_toList_iff.mpr (Array.getElem_mem hk)
theorem app_signs (x y : Str) (hx : ∀ c ∈ x.cps.toList, c < 128) (hy : ∀ c ∈ y.cps.toList, c < 128) : ∀ c ∈ (x ++ y).cps.toList, c < 128 := by
  intro c hc
  have : (x ++ y).cps.toList = x.cps.toList ++ y.cps.toList := Array.toList_append
  rw [this] at hc
  rcases List.mem_append.mp hc with h | h
  · exact hx c h
  · exact hy c h
theorem str_gd {B N m : Nat} {x : Str} (h : ∀ c ∈ x.cps.toList, c < 128) (hl : 10 * x.length + 4 ≤ N) : Gd B N m (.str x) :=
  ⟨by simp only [fine]; exact List.all_eq_true.mpr fun c hc => decide_eq_true (h c hc), by simpa only [wt] using hl, by simp [PyData.depth]⟩
theorem str_in {B : Nat} {x : Str} (h : fine B (.str x) = true) : ∀ c ∈ x.cps.toList, c < 128 := by
  have : x.cps.toList.all (fun c => decide (c < 128)) = true := by simpa only [fine] using h
  exact fun c hc => of_decide_eq_true (List.all_eq_true.mp this c hc)
theorem seqSet {te : TE} {i : Nat} {u : TS} {D : Ends} {τ : L2.St} {H : Hp} (h : te τ H fun x H1 => u D (τ.set i (some x)) H1) : tSeq (tAsg te (gName i)) u D τ H := h
section
variable {K : PySem.W.Frag} {S : List Addr} {H0 H : Hp} {σ : L2.St} {Q : VK}
theorem DxAll.takeN {F : Hp} : ∀ (n : Nat) {vs : List V} {ds : List PyData}, DxAll K F vs ds → DxAll K F (vs.take n) (ds.take n)
  | 0, _, _, _ => .nil
  | n + 1, _, _, .nil => .nil
  | n + 1, _, _, .cons h r => .cons h (DxAll.takeN n r)
theorem DxAll.dropN {F : Hp} : ∀ (n : Nat) {vs : List V} {ds : List PyData}, DxAll K F vs ds → DxAll K F (vs.drop n) (ds.drop n)
  | 0, _, _, h => h
  | n + 1, _, _, .nil => .nil
  | n + 1, _, _, .cons h r => DxAll.dropN n r
theorem DxAll.rev {F : Hp} {vs : List V} {ds : List PyData} (h : DxAll K F vs ds) : DxAll K F vs.reverse ds.reverse := by
  cases h with
  | nil => exact .nil
  | cons a r =>
    rw [List.reverse_cons, List.reverse_cons]
    exact (DxAll.rev r).app (.cons a .nil)
termination_by vs.length
decreasing_by simp
def cutD (ds : List PyData) (lo hi : Option Int) : List PyData := (ds.drop (HT.sIx ds.length 0 lo)).take (HT.sIx ds.length ds.length hi - HT.sIx ds.length 0 lo)
theorem slA_dx {v : V} {ds : List PyData} {lo hi : Option Int} (hS : ∀ a ∈ S, H a ≠ none) (hd : Dx K (off S H) v (.tuple ds))
    (q : ∀ r H', Same H H' → Dx K (off S H') r (.tuple (cutD ds lo hi)) → Q r H') : rSlA K v lo hi H Q := by
  obtain ⟨a, xs, rfl, hs, ha⟩ := hd.seq
  have hl := ha.len
  have e : cutD ds lo hi = (ds.drop (HT.sIx xs.length 0 lo)).take (HT.sIx xs.length xs.length hi - HT.sIx xs.length 0 lo) := by
    unfold cutD
    rw [hl]
  rw [e] at q
  refine ⟨a, xs, rfl, sameT (off_sub _ _) hs, fun w => ?_, fun _ p hp => ?_⟩
  · refine q _ H (Same.refl H) ?_
    rw [w.1, w.2, Nat.sub_zero, List.drop_zero, hl, List.take_length]
    exact hd
  · refine q _ _ (same_upd hp) (.tup (.inl (.inl (off_of (fun z => hS p z hp) upd_same))) ?_)
    exact (DxAll.takeN _ (DxAll.dropN _ ha)).sub (off_same (same_upd hp))
theorem catA_dx {v u : V} {ds es : List PyData} (hS : ∀ a ∈ S, H a ≠ none) (hd : Dx K (off S H) v (.tuple ds)) (he : Dx K (off S H) u (.tuple es)) (hl : ds.length + es.length ≤ 1000000)
    (q : ∀ r H', Same H H' → Dx K (off S H') r (.tuple (ds ++ es)) → Q r H') : rCatA K v u H Q := by
  obtain ⟨a, xs, rfl, hs, ha⟩ := hd.seq
  obtain ⟨b, ys, rfl, ht, hb⟩ := he.seq
  have l1 := ha.len
  have l2 := hb.len
  refine ⟨a, b, xs, ys, rfl, rfl, sameT (off_sub _ _) hs, sameT (off_sub _ _) ht, line _ (by omega), fun z => ?_, fun _ z => ?_, fun _ _ p hp => ?_⟩
  · have : ds = [] := List.length_eq_zero_iff.mp (by rw [← l1, z]; rfl)
    rw [this] at q
    exact q _ H (Same.refl H) he
  · have : es = [] := List.length_eq_zero_iff.mp (by rw [← l2, z]; rfl)
    rw [this, List.append_nil] at q
    exact q _ H (Same.refl H) hd
  · refine q _ _ (same_upd hp) (.tup (.inl (.inl (off_of (fun z => hS p z hp) upd_same))) ?_)
    exact (ha.sub (off_same (same_upd hp))).app (hb.sub (off_same (same_upd hp)))
theorem thereS (hS : ∀ a ∈ S, H0 a ≠ none) (s : Same H0 H) : ∀ a ∈ S, H a ≠ none := by
  intro a ha z
  exact hS a ha (s.free z)
theorem Lit.sl {te : TE} {tl th : TO} {ds : List PyData} {lo hi : Option Int} (hS : ∀ a ∈ S, H0 a ≠ none) (h : Lit K S H0 σ te (.tuple ds)) (hl : ∀ H Q, Q lo H → tl σ H Q) (hh : ∀ H Q, Q hi H → th σ H Q) :
    Lit K S H0 σ (tSl (rSlA K) te tl th) (.tuple (cutD ds lo hi)) := fun H Q s q =>
  h H _ s fun v H1 s1 hd => hl _ _ (hh _ _ (slA_dx (thereS hS (s.trans s1)) hd fun r H' s' hr => q r H' (s1.trans s') hr))
theorem Lit.cat {ta tb : TE} {ds es : List PyData} (hS : ∀ a ∈ S, H0 a ≠ none) (h : Lit K S H0 σ ta (.tuple ds)) (h2 : Lit K S H0 σ tb (.tuple es)) (hl : ds.length + es.length ≤ 1000000) :
    Lit K S H0 σ (tOp (rCatA K) ta tb) (.tuple (ds ++ es)) := fun H Q s q =>
  h H _ s fun v H1 s1 hd => h2 H1 _ (s.trans s1) fun u H2 s2 he => catA_dx (thereS hS ((s.trans s1).trans s2)) (hd.sub (off_same s2)) he hl fun r H' s' hr => q r H' ((s1.trans s2).trans s') hr
theorem Lit.rev {ta : TE} {ds : List PyData} (hS : ∀ a ∈ S, H0 a ≠ none) (h : Lit K S H0 σ ta (.tuple ds)) : Lit K S H0 σ (tRevT K ta) (.tuple ds.reverse) := fun H Q s q =>
  h H _ s fun v H1 s1 hd => by
    obtain ⟨a, xs, rfl, hs, ha⟩ := hd.seq
    refine ⟨a, xs, rfl, sameT (off_sub _ _) hs, fun p hp => q _ _ (sameU s1 hp) (.tup (.inl (.inl (off_of (nS hS (s.trans s1) hp) upd_same))) ?_)⟩
    exact (DxAll.rev ha).sub (off_same (same_upd hp))
theorem Lit.copy {ta : TE} {ds : List PyData} (hS : ∀ a ∈ S, H0 a ≠ none) (h : Lit K S H0 σ ta (.tuple ds)) : Lit K S H0 σ (tCB (rCopyK K) (tCons ta tNil)) (.list ds) := fun H Q s q =>
  h H _ s fun v H1 s1 hd => by
    obtain ⟨a, xs, rfl, hs, ha⟩ := hd.seq
    refine ⟨a, xs, rfl, .inr (sameT (off_sub _ _) hs), fun p hp => q _ _ (sameU s1 hp) (.lst (.inl (.inl (off_of (nS hS (s.trans s1) hp) upd_same))) (ha.sub (off_same (same_upd hp))))⟩
end
theorem nextOf {D : Ends} {τ : L2.St} {H : Hp} (h : D.nx τ H) : tNext D τ H := h
theorem depthAll_le {m : Nat} : ∀ ds : List PyData, PyData.depthAll ds ≤ m ↔ ∀ d ∈ ds, d.depth ≤ m
  | [] => by simp [PyData.depthAll]
  | d :: r => by
    simp only [PyData.depthAll, List.mem_cons, forall_eq_or_imp]
    rw [← depthAll_le r]
    omega
/-- parts of ds in any order -/
theorem Gd.parts {B N m : Nat} {ds es : List PyData} (h : Gd B N (m + 1) (.tuple ds)) (hm : ∀ e ∈ es, e ∈ ds) {M : Nat} (hw : wtAll es + 4 ≤ M) : Gd B M (m + 1) (.tuple es) ∧ Gd B M (m + 1) (.list es) := by
  have h1 : fineAll B ds = true := by simpa only [fine] using h.fi
  have h2 : PyData.depthAll ds ≤ m := by
    have : PyData.depthAll ds + 1 ≤ m + 1 := h.dp
    omega
  have f : fineAll B es = true := (fineAll_iff B es).mpr fun e he => (fineAll_iff B ds).mp h1 e (hm e he)
  have g : PyData.depthAll es ≤ m := (depthAll_le es).mpr fun e he => (depthAll_le ds).mp h2 e (hm e he)
  exact ⟨⟨by simpa only [fine] using f, by show 4 + wtAll es ≤ M; omega, by show PyData.depthAll es + 1 ≤ m + 1; omega⟩, ⟨by simpa only [fine] using f, by show 4 + wtAll es ≤ M; omega, by show PyData.depthAll es + 1 ≤ m + 1; omega⟩⟩
theorem wt_split (ds : List PyData) (n : Nat) : wtAll (ds.take n) + wtAll (ds.drop n) = wtAll ds := by
  rw [← wtAll_app, List.take_append_drop]
theorem wt_rev (ds : List PyData) : wtAll ds.reverse = wtAll ds := by
  induction ds with
  | nil => rfl
  | cons d r ih =>
    rw [List.reverse_cons, wtAll_app, ih]
    simp only [wtAll]
    omega
end LD
/-! Cells (pairs of ints) at addresses, sorted. -/
namespace LC
open PySem PySem.Spec PyProof.Rows L2 Lay M02 LD
section
variable {K : PySem.W.Frag}
theorem sortPK {X : Cx} (K : PySem.W.Frag) (h : X.K = K := by rfl) : CallR X (.builtin "sorted") (rSortedPO K) := h ▸ cr_sortedPO
/-- cells at their addresses -/
def CellsAt (G : Hp) (ts : List (Addr × Int × Int)) : Prop := ∀ r ∈ ts, G r.1 = some (.tup [.int r.2.1, .int r.2.2])
theorem CellsAt.sub {G F : Hp} {ts : List (Addr × Int × Int)} (h : CellsAt G ts) (s : Same G F) : CellsAt F ts := fun r hr => s _ _ (h r hr)
theorem CellsAt.perm {G : Hp} {ts us : List (Addr × Int × Int)} (h : CellsAt G ts) (p : us.Perm ts) : CellsAt G us := fun r hr => h r (p.mem_iff.mp hr)
theorem cut_to (xs : List V) (k : Nat) : cutV xs none (some (k : Int)) = xs.take k := by
  unfold cutV
  rw [HT.sIx_none, HT.sIx_nat, List.drop_zero, Nat.sub_zero]
  rcases Nat.le_total k xs.length with h | h
  · rw [Nat.min_eq_left h]
  · rw [Nat.min_eq_right h, List.take_length, List.take_of_length_le h]
theorem off_grow {S : List Addr} {G : Hp} {L : Addr} {o : HO} (h : G L = none) : Same (off S G) (off (L :: S) (upd G L o)) := by
  intro b u e
  obtain ⟨h1, h2⟩ := off_some e
  have nL : b ≠ L := ne_of_none h2 h
  refine off_of ?_ (by rw [upd_ne nL]; exact h2)
  simp only [List.mem_cons, not_or]
  exact ⟨nL, h1⟩
/-- cells, sorted -/
theorem sorted_cells {G : Hp} {a : Addr} {ts : List (Addr × Int × Int)} {Q : VK} (ha : SqL K G a (ts.map fun r => V.ref r.1)) (hc : CellsAt G ts)
    (k : ∀ (q : Addr) (us : List (Addr × Int × Int)), us.Perm ts → us.Pairwise (fun r s => ¬ (s.2.1 < r.2.1 ∨ (s.2.1 = r.2.1 ∧ s.2.2 < r.2.2))) → G q = none → Q (.ref q) (upd G q (.lst (us.map fun r => V.ref r.1)))) :
    rSortedPO K [.ref a] G Q := by
  let key : V → Int × Int := fun v => match v with
    | .ref t => match G t with
      | some (.tup [.int a, .int b]) => (a, b)
      | _ => (0, 0)
    | _ => (0, 0)
  let ad : V → Addr := fun v => match v with | .ref t => t | _ => 0
  have kAt : ∀ r ∈ ts, key (.ref r.1) = r.2 := fun r hr => by
    show (match G r.1 with | some (.tup [.int a, .int b]) => (a, b) | _ => (0, 0)) = r.2
    rw [hc r hr]
  refine ⟨a, ts.map (fun r => V.ref r.1), key, rfl, ha, fun x hx => ?_, fun ys q srt stb hq => ?_⟩
  · obtain ⟨r, hr, rfl⟩ := List.mem_map.mp hx
    refine ⟨r.1, rfl, ?_⟩
    rw [kAt r hr]
    exact hc r hr
  · have pm := stb.perm
    let g : V → Addr × Int × Int := fun v => (ad v, key v)
    have gts : (ts.map fun r => V.ref r.1).map g = ts := by
      rw [List.map_map]
      conv => rhs; rw [← List.map_id ts]
      refine List.map_congr_left fun r hr => ?_
      show (r.1, key (.ref r.1)) = r
      rw [kAt r hr]
    have pm2 : (ys.map g).Perm ts := by
      have := pm.map g
      rwa [gts] at this
    have back : ys = (ys.map g).map fun r => V.ref r.1 := by
      rw [List.map_map]
      conv => lhs; rw [← List.map_id ys]
      refine List.map_congr_left fun x hx => ?_
      obtain ⟨r, _, rfl⟩ := List.mem_map.mp (pm.mem_iff.mp hx)
      rfl
    have := k q (ys.map g) pm2 ?_ hq
    · rwa [← back] at this
    · refine List.pairwise_map.mpr (srt.imp fun {x y} h => ?_)
      exact SrtO.lexB_no.mp h
theorem perm_out {α : Type} : ∀ (xs : List α) (k : Nat) (y : α), xs[k]? = some y → (y :: xs.eraseIdx k).Perm xs
  | [], k, y, h => by simp at h
  | x :: r, 0, y, h => by
    have : x = y := by simpa using h
    rw [this]
    exact List.Perm.refl _
  | x :: r, k + 1, y, h => by
    have h' : r[k]? = some y := by simpa using h
    have := perm_out r k y h'
    rw [List.eraseIdx_cons_succ]
    exact (List.Perm.swap x y _).trans (this.cons x)
/-- one more in front of a list that goes up, and has no two alike -/
theorem strictly {us : List (Addr × Int × Int)} (h : us.Pairwise (fun r s => ¬ (s.2.1 < r.2.1 ∨ (s.2.1 = r.2.1 ∧ s.2.2 < r.2.2)))) (nd : (us.map (·.2)).Nodup) :
    us.Pairwise fun r s => r.2.1 < s.2.1 ∨ (r.2.1 = s.2.1 ∧ r.2.2 < s.2.2) := by
  have nd' : us.Pairwise fun r s => r.2 ≠ s.2 := List.pairwise_map.mp nd
  refine (h.and nd').imp ?_
  rintro ⟨_, a, b⟩ ⟨_, c, d⟩ ⟨h1, h2⟩
  show a < c ∨ (a = c ∧ b < d)
  have h4 : ¬ (c < a ∨ (c = a ∧ d < b)) := h1
  have h5 : ¬ (a = c ∧ b = d) := fun e => h2 (by show (a, b) = (c, d); rw [e.1, e.2])
  omega
/-! ### a cell among cells -/
def dat (r : Addr × Int × Int) : PyData := .tuple [.int r.2.1, .int r.2.2]
theorem cells_dp {G : Hp} : ∀ {ts : List (Addr × Int × Int)}, CellsAt G ts → DpAll K G (ts.map fun r => V.ref r.1) (ts.map dat)
  | [], _ => .nil
  | r :: ts, h => .cons (.tup (.inl (.inl (h r (List.mem_cons_self ..)))) (.cons (.int _) (.cons (.int _) .nil))) (cells_dp fun q hq => h q (List.mem_cons_of_mem _ hq))
theorem cells_lay : ∀ ts : List (Addr × Int × Int), PyData.canLayAll0 (ts.map dat) = true
  | [] => by simp [PyData.canLayAll0]
  | r :: ts => by simp [PyData.canLayAll0, PyData.canLay0, dat, cells_lay ts]
theorem cells_deep : ∀ ts : List (Addr × Int × Int), PyData.depthAll (ts.map dat) ≤ 1
  | [] => by simp [PyData.depthAll]
  | r :: ts => by
    have := cells_deep ts
    simp only [List.map_cons, PyData.depthAll, PyData.depth, dat]
    omega
theorem cells_shaped (ts : List (Addr × Int × Int)) : SeqAt.shaped (.list (ts.map dat)) = true := by
  have := cells_deep ts
  unfold SeqAt.shaped
  rw [Bool.and_eq_true]
  exact ⟨by simp [PyData.canLay0, cells_lay], decide_eq_true (by show PyData.depthAll (ts.map dat) + 1 ≤ 64; omega)⟩
theorem cells_any (ts : List (Addr × Int × Int)) (a b : Int) : ((ts.map dat).any fun z => PyData.eqv z (.tuple [.int a, .int b])) = decide ((a, b) ∈ ts.map (·.2)) := by
  rw [List.any_map, Bool.eq_iff_iff, List.any_eq_true, decide_eq_true_eq]
  constructor
  · rintro ⟨r, hr, h⟩
    have : r.2.1 = a ∧ r.2.2 = b := by simpa [dat, PyData.eqv, PyData.eqvAll] using h
    exact List.mem_map.mpr ⟨r, hr, by rw [← this.1, ← this.2]⟩
  · intro h
    obtain ⟨r, hr, e⟩ := List.mem_map.mp h
    refine ⟨r, hr, ?_⟩
    have e1 : r.2.1 = a := by rw [e]
    have e2 : r.2.2 = b := by rw [e]
    simp [dat, PyData.eqv, PyData.eqvAll, e1, e2]
theorem cell_shaped (a b : Int) : SeqAt.shaped (.tuple [.int a, .int b]) = true := by simp [SeqAt.shaped, PyData.canLay0, PyData.canLayAll0, PyData.depth, PyData.depthAll]
theorem notInDK {X : Cx} (K : PySem.W.Frag) (hu : X.A.units + 65 < cLine) (h : X.K = K := by rfl) : OpR X (compareOp .NotIn) (rNotInD K) := h ▸ op_notInD hu
theorem inDK {X : Cx} (K : PySem.W.Frag) (hu : X.A.units + 65 < cLine) (h : X.K = K := by rfl) : OpR X (compareOp .In) (rInD K) := h ▸ op_inD hu
end
end LC
/-! Each of Python's operators as one: what it does is read off the data. -/
namespace LA
open PySem PySem.Spec PyProof.Rows L2 Lay
/-! ### data -/
mutual
def py : D → PyData
  | .non => .none
  | .bl b => .bool b
  | .int i => .int i
  | .str x => .str x
  | .lst ds => .list (pyL ds)
  | .scr ds => .list (pyL ds)
  | .tup ds => .tuple (pyL ds)
  | .dK kvs => .dict (pyK kvs)
  | _ => .none
def pyL : List D → List PyData
  | [] => []
  | d :: r => py d :: pyL r
def pyK : List (Key × D) → List (PyData × PyData)
  | [] => []
  | (k, d) :: r => (keyD k, py d) :: pyK r
end
mutual
/-- None, bools, ints, texts, lists and tuples of such -/
def plain : D → Bool
  | .non => true
  | .bl _ => true
  | .int _ => true
  | .str _ => true
  | .lst ds => plainL ds
  | .scr ds => plainL ds
  | .tup ds => plainL ds
  | _ => false
def plainL : List D → Bool
  | [] => true
  | d :: r => plain d && plainL r
end
theorem pyL_map : ∀ ds : List D, pyL ds = ds.map py
  | [] => rfl
  | d :: r => by rw [pyL, pyL_map r]; rfl
theorem plainL_all : ∀ ds : List D, plainL ds = ds.all plain
  | [] => rfl
  | d :: r => by rw [plainL, plainL_all r]; rfl
mutual
def ofPy : PyData → D
  | .none => .non
  | .bool b => .bl b
  | .int i => .int i
  | .str x => .str x
  | .list ds => .lst (ofPyL ds)
  | .tuple ds => .tup (ofPyL ds)
  | .dict kvs => .dK (ofPyK kvs)
def ofPyL : List PyData → List D
  | [] => []
  | d :: r => ofPy d :: ofPyL r
def ofPyK : List (PyData × PyData) → List (Key × D)
  | [] => []
  | (k, d) :: r => ((match k with | .int i => .inl i | .str x => .inr x | _ => .inl 0), ofPy d) :: ofPyK r
end
theorem ofPyL_map : ∀ ds : List PyData, ofPyL ds = ds.map ofPy
  | [] => rfl
  | d :: r => by rw [ofPyL, ofPyL_map r]; rfl
section
variable {K : PySem.W.Frag} {F : Hp}
mutual
theorem Rep.dp : ∀ {v : V} {d : D}, Rep K F v d → plain d = true → Dp K F v (py d)
  | _, _, .non, _ => .non
  | _, _, .bl b, _ => .bl b
  | _, _, .int i, _ => .int i
  | _, _, .str x, _ => .str x
  | _, _, .lst h r, p => .lst (.inl (.inl h)) (RepA.dp r p)
  | _, _, .scr h r, p => .lst h (RepA.dp r p)
  | _, _, .tup h r, p => .tup h.sq (RepA.dp r p)
  | _, _, .par _ _, p => nomatch p
  | _, _, .ty _, p => nomatch p
  | _, _, .ref _, p => nomatch p
  | _, _, .dK _ _ _, p => nomatch p
  | _, _, .dT _ _ _, p => nomatch p
  | _, _, .ins _ _ _, p => nomatch p
theorem RepA.dp : ∀ {vs : List V} {ds : List D}, RepA K F vs ds → plainL ds = true → DpAll K F vs (pyL ds)
  | _, _, .nil, _ => .nil
  | _, _, .cons h r, p => by
    rw [plainL, Bool.and_eq_true] at p
    exact .cons (Rep.dp h p.1) (RepA.dp r p.2)
end
end
/-! ### what is seen of a thing: its own items, also where it may change -/
def view (M : Mem) : D → D
  | .ref a => match M a with
    | some (.lst ds) => .lst ds
    | some (.dK k) => .dK k
    | some (.dT k) => .dT k
    | some (.ins C fs) => .ins C fs
    | none => .ref a
  | d => d
inductive See (K : PySem.W.Frag) (F H : Hp) : V → D → Prop
  | non : See K F H .non .non
  | bl (b : Bool) : See K F H (.bl b) (.bl b)
  | int (i : Int) : See K F H (.int i) (.int i)
  | str (x : Str) : See K F H (.str x) (.str x)
  | ty (n : String) : See K F H (.ty n) (.ty n)
  | ref (a : Addr) : See K F H (.ref a) (.ref a)
  | lst {a : Addr} {xs : List V} {ds : List D} : H a = some (.lst xs) → RepA K F xs ds → See K F H (.ref a) (.lst ds)
  | scr {a : Addr} {xs : List V} {ds : List D} : SqL K H a xs → RepA K F xs ds → See K F H (.ref a) (.scr ds)
  | tup {a : Addr} {xs : List V} {ds : List D} : TupAt H a xs → RepA K F xs ds → See K F H (.ref a) (.tup ds)
  | par {a : Addr} {xs : List V} {ds : List D} : SqT K H a xs → RepA K F xs ds → See K F H (.ref a) (.par ds)
  | dK {a : Addr} {es : List (Key × V)} {kvs : List (Key × D)} : Rd H a (.dK es) → es.map (·.1) = kvs.map (·.1) → RepA K F (es.map (·.2)) (kvs.map (·.2)) → See K F H (.ref a) (.dK kvs)
  | dT {a : Addr} {es : List (List Key × V)} {kvs : List (List Key × D)} : Rd H a (.dT es) → es.map (·.1) = kvs.map (·.1) → RepA K F (es.map (·.2)) (kvs.map (·.2)) → See K F H (.ref a) (.dT kvs)
  | ins {a C dx : Addr} {es : List (Str × V)} {fs : List (Str × D)} : H a = some (.ins C dx es) → es.map (·.1) = fs.map (·.1) → RepA K F (es.map (·.2)) (fs.map (·.2)) → See K F H (.ref a) (.ins C fs)
section
variable {K : PySem.W.Frag} {N : Addr → Prop} {M : Mem} {H F : Hp} {v : V} {d : D}
theorem see (m : MOk K N M H) (r : Rep K (imm N M H) v d) : See K (imm N M H) H v (view M d) := by
  cases r with
  | non => exact .non
  | bl b => exact .bl b
  | int b => exact .int b
  | str b => exact .str b
  | ty b => exact .ty b
  | lst h r => exact .lst (seqP (.of imm_sub) h) r
  | scr h r => exact .scr (seqL (.of imm_sub) h) r
  | tup h r => exact .tup (TupAt.sub (.of imm_sub) h) r
  | par h r => exact .par (seqT (.of imm_sub) h) r
  | dK h e r => exact .dK (rdK (.of imm_sub) h) e r
  | dT h e r => exact .dT (rdT (.of imm_sub) h) e r
  | ins h e r => exact .ins (imm_sub _ _ h) e r
  | ref a =>
    cases e : M a with
    | none =>
      have ev : view M (.ref a) = .ref a := by simp only [view, e]
      rw [ev]
      exact .ref a
    | some o =>
      have := m.mo a o e
      cases o with
      | lst ds =>
        have ev : view M (.ref a) = .lst ds := by simp only [view, e]
        rw [ev]
        obtain ⟨vs, h, r⟩ := this
        exact .lst h r
      | dK k =>
        have ev : view M (.ref a) = .dK k := by simp only [view, e]
        rw [ev]
        obtain ⟨vs, h, k', r⟩ := this
        exact .dK (.inl h) k' r
      | dT k =>
        have ev : view M (.ref a) = .dT k := by simp only [view, e]
        rw [ev]
        obtain ⟨vs, h, k', r⟩ := this
        exact .dT (.inl h) k' r
      | ins C k =>
        have ev : view M (.ref a) = .ins C k := by simp only [view, e]
        rw [ev]
        obtain ⟨dx, vs, h, k', r⟩ := this
        exact .ins h k' r
theorem See.dp (h : See K F H v d) (s : Sam F H) (p : plain d = true) : Dp K H v (py d) := by
  cases h with
  | non => exact .non
  | bl b => exact .bl b
  | int b => exact .int b
  | str b => exact .str b
  | lst h r => exact .lst (.inl (.inl h)) ((r.sub s).dp p)
  | scr h r => exact .lst h ((r.sub s).dp p)
  | tup h r => exact .tup h.sq ((r.sub s).dp p)
  | par h r => cases p
  | ty _ => cases p
  | ref _ => cases p
  | dK _ _ _ => cases p
  | dT _ _ _ => cases p
  | ins _ _ _ => cases p
end
section
variable {X : Cx} {K : PySem.W.Frag}
theorem OpR.or {f : Value → Value → Sem Value} {r r' : R2} (h : OpR X f r) (h' : OpR X f r') : OpR X f (fun x y H Q => r x y H Q ∨ r' x y H Q) :=
  fun pins s σ H x y v u Q I rx ry q => q.elim (h pins s σ H x y v u Q I rx ry) (h' pins s σ H x y v u Q I rx ry)
theorem CallR.or {f : Value} {r r' : List V → Hp → VK → Prop} (h : CallR X f r) (h' : CallR X f r') : CallR X f (fun x H Q => r x H Q ∨ r' x H Q) :=
  fun pins s σ H xs us Q I rx q => q.elim (h pins s σ H xs us Q I rx) (h' pins s σ H xs us Q I rx)
/-! ### + -/
def rCatL (K : PySem.W.Frag) : R2 := fun x y H Q => ∃ l b xs zs, x = .ref l ∧ y = .ref b ∧ SqL K H l xs ∧ SqL K H b zs ∧ xs.length + zs.length ≤ sizeLine ∧ ∀ p, H p = none → Q (.ref p) (upd H p (.lst (xs ++ zs)))
def rCatS : R2 := fun x y H Q => ∃ i j, x = .str i ∧ y = .str j ∧ i.length + j.length ≤ sizeLine ∧ Q (.str (i ++ j)) H
def rAdd (K : PySem.W.Frag) : R2 := fun x y H Q => rI0 (fun i j => .int (i + j)) x y H Q ∨ rCatS x y H Q ∨ rCat x y H Q ∨ rCatF K x y H Q
theorem op_addA (K : PySem.W.Frag) (h : X.K = K := by rfl) : OpR X (binaryOp .Add) (rAdd K) := op_add.or (op_add_str.or (op_cat.or (h ▸ op_catF)))
def aAdd : A2 := fun x y M Q => match view M x, view M y with
  | .int i, .int j => Q (.int (i + j)) M
  | .str a, .str b => a.length + b.length ≤ 1000000 ∧ Q (.str (a ++ b)) M
  | .lst a, .lst b => a.length + b.length ≤ 1000000 ∧ Q (.lst (a ++ b)) M
  | .tup a, .tup b => a.length + b.length ≤ 1000000 ∧ Q (.tup (a ++ b)) M
  | _, _ => False
theorem s_add : S2 K (rAdd K) aAdd := by
  intro N M H x y dx dy Q Q' m rx ry q k
  have sx := see m rx
  have sy := see m ry
  unfold aAdd at q
  split at q
  · rename_i i j e1 e2
    rw [e1] at sx
    rw [e2] at sy
    cases sx
    cases sy
    exact .inl ⟨i, j, rfl, rfl, k.here m (.int _) q⟩
  · rename_i i j e1 e2
    rw [e1] at sx
    rw [e2] at sy
    cases sx
    cases sy
    exact .inr (.inl ⟨i, j, rfl, rfl, line _ q.1, k.here m (.str _) q.2⟩)
  · rename_i i j e1 e2
    rw [e1] at sx
    rw [e2] at sy
    cases sx with
    | lst h1 r1 => cases sy with
      | lst h2 r2 => exact .inr (.inr (.inl ⟨_, _, _, _, rfl, rfl, h1, h2, line _ (by rw [r1.len, r2.len]; exact q.1), fun p hp => k.new m hp (fun F s f => .lst f ((r1.sub s).app (r2.sub s))) q.2⟩))
  · rename_i i j e1 e2
    rw [e1] at sx
    rw [e2] at sy
    cases sx with
    | tup h1 r1 => cases sy with
      | tup h2 r2 =>
        refine .inr (.inr (.inr ⟨_, _, _, _, rfl, rfl, h1.sq, h2.sq, line _ (by rw [r1.len, r2.len]; exact q.1), fun z => ?_, fun _ z => ?_, fun _ _ p ob hp hd => ?_⟩))
        · subst z
          cases r1
          rw [List.nil_append] at q
          have : view M dy = dy ∨ ∃ a, dy = .ref a := by unfold view; split <;> first | exact .inr ⟨_, rfl⟩ | exact .inl rfl
          refine k.here m ?_ q.2
          rcases this with e | ⟨a, rfl⟩
          · rw [e] at e2; rw [← e2]; exact ry
          · unfold view at e2
            dsimp only at e2
            split at e2 <;> cases e2
        · subst z
          cases r2
          rw [List.append_nil] at q
          have : view M dx = dx ∨ ∃ a, dx = .ref a := by unfold view; split <;> first | exact .inr ⟨_, rfl⟩ | exact .inl rfl
          refine k.here m ?_ q.2
          rcases this with e | ⟨a, rfl⟩
          · rw [e] at e1; rw [← e1]; exact rx
          · unfold view at e1
            dsimp only at e1
            split at e1 <;> cases e1
        · exact k.new m hp (fun F s f => .tup (.new hd f) ((r1.sub s).app (r2.sub s))) q.2
  · exact q.elim
/-! ### ints -/
def aI (C : Int → Int → Prop) (g : Int → Int → Int) : A2 := fun x y M Q => ∃ i j, x = .int i ∧ y = .int j ∧ C i j ∧ Q (.int (g i j)) M
theorem s_I {C : Int → Int → Prop} {g : Int → Int → Int} : S2 K (rI C fun i j => .int (g i j)) (aI C g) := by
  rintro N M H x y dx dy Q Q' m rx ry ⟨i, j, rfl, rfl, c, q⟩ k
  exact ⟨i, j, rx.int_inv, ry.int_inv, c, k.here m (.int _) q⟩
theorem s_I0 {g : Int → Int → Int} : S2 K (rI0 fun i j => .int (g i j)) (aI (fun _ _ => True) g) := by
  rintro N M H x y dx dy Q Q' m rx ry ⟨i, j, rfl, rfl, c, q⟩ k
  exact ⟨i, j, rx.int_inv, ry.int_inv, k.here m (.int _) q⟩
def aU (g : Int → Int) : A1 := fun x M Q => ∃ i, x = .int i ∧ Q (.int (g i)) M
theorem s_U {g : Int → Int} : S1 K (rU fun i => .int (g i)) (aU g) := by
  rintro N M H x dx Q Q' m rx ⟨i, rfl, q⟩ k
  exact ⟨i, rx.int_inv, k.here m (.int _) q⟩
/-! ### ==, != of data -/
def okE (d : D) : Prop := plain d = true ∧ SeqAt.shaped (py d) = true
def aEq (neg : Bool) : A2 := fun x y M Q => okE (view M x) ∧ okE (view M y) ∧ Q (.bl (if neg = true then !PyData.eqv (py (view M x)) (py (view M y)) else PyData.eqv (py (view M x)) (py (view M y)))) M
theorem s_eq : S2 K (rEqD K) (aEq false) := by
  rintro N M H x y dx dy Q Q' m rx ry ⟨⟨p1, s1⟩, ⟨p2, s2⟩, q⟩ k
  exact ⟨_, _, (see m rx).dp (.of imm_sub) p1, (see m ry).dp (.of imm_sub) p2, s1, s2, k.here m (.bl _) q⟩
theorem s_ne : S2 K (rNeD K) (aEq true) := by
  rintro N M H x y dx dy Q Q' m rx ry ⟨⟨p1, s1⟩, ⟨p2, s2⟩, q⟩ k
  exact ⟨_, _, (see m rx).dp (.of imm_sub) p1, (see m ry).dp (.of imm_sub) p2, s1, s2, k.here m (.bl _) q⟩
/-! ### < of data; <=, >, >= of ints and texts -/
def aLt : A2 := fun x y M Q => (plain (view M x) = true ∧ plain (view M y) = true) ∧ PySem.W.alike (py (view M x)) (py (view M y)) = true ∧ py (view M x) ≠ .none ∧ (py (view M x)).depth ≤ 60 ∧ Q (.bl (PySem.W.dataLt (py (view M x)) (py (view M y)))) M
theorem s_lt : S2 K (rLtD K) aLt := by
  rintro N M H x y dx dy Q Q' m rx ry ⟨⟨p1, p2⟩, s1, s2, s3, q⟩ k
  exact ⟨_, _, (see m rx).dp (.of imm_sub) p1, (see m ry).dp (.of imm_sub) p2, s1, s2, by omega, k.here m (.bl _) q⟩
def aB (g : Int → Int → Bool) (h : List Nat → List Nat → Bool) : A2 := fun x y M Q => match x, y with
  | .int i, .int j => Q (.bl (g i j)) M
  | .str a, .str b => Q (.bl (h a.cps.toList b.cps.toList)) M
  | _, _ => False
def rB (g : Int → Int → Bool) (h : List Nat → List Nat → Bool) : R2 := fun x y H Q => rI0 (fun i j => .bl (g i j)) x y H Q ∨ ∃ i j, x = .str i ∧ y = .str j ∧ Q (.bl (h i.cps.toList j.cps.toList)) H
theorem s_B {g : Int → Int → Bool} {h : List Nat → List Nat → Bool} : S2 K (rB g h) (aB g h) := by
  intro N M H x y dx dy Q Q' m rx ry q k
  unfold aB at q
  split at q
  · exact .inl ⟨_, _, rx.int_inv, ry.int_inv, k.here m (.bl _) q⟩
  · exact .inr ⟨_, _, rx.str_inv, ry.str_inv, k.here m (.bl _) q⟩
  · exact q.elim
abbrev aLe : A2 := aB (fun i j => decide (i ≤ j)) fun a b => !decide (b < a)
abbrev aGt : A2 := aB (fun i j => decide (j < i)) fun a b => decide (b < a)
abbrev aGe : A2 := aB (fun i j => decide (j ≤ i)) fun a b => !decide (a < b)
theorem op_leA : OpR X (compareOp .LtE) (rB (fun i j => decide (i ≤ j)) fun a b => !decide (b < a)) := op_le.or op_le_str
theorem op_gtA : OpR X (compareOp .Gt) (rB (fun i j => decide (j < i)) fun a b => decide (b < a)) := op_gt.or op_gt_str
theorem op_geA : OpR X (compareOp .GtE) (rB (fun i j => decide (j ≤ i)) fun a b => !decide (a < b)) := op_ge.or op_ge_str
/-! ### is None -/
def isNon : D → Bool
  | .non => true
  | _ => false
def aIsN (neg : Bool) : A2 := fun x y M Q => y = .non ∧ Q (.bl (if neg = true then !isNon x else isNon x)) M
theorem isNon_eq {F : Hp} {v : V} {d : D} (h : Rep K F v d) : decide (v = .non) = isNon d := by cases h <;> simp [isNon]
theorem s_isN : S2 K (fun x y H Q => y = .non ∧ Q (.bl (decide (x = .non))) H) (aIsN false) := by
  rintro N M H x y dx dy Q Q' m rx ry ⟨rfl, q⟩ k
  cases ry
  refine ⟨rfl, k.here m ?_ q⟩
  rw [isNon_eq rx]
  exact .bl _
theorem s_notN : S2 K (fun x y H Q => y = .non ∧ Q (.bl (!decide (x = .non))) H) (aIsN true) := by
  rintro N M H x y dx dy Q Q' m rx ry ⟨rfl, q⟩ k
  cases ry
  refine ⟨rfl, k.here m ?_ q⟩
  rw [isNon_eq rx]
  exact .bl _
/-! ### dicts: keys, what stands under a key -/
def keyOf : D → Option Key
  | .int i => some (.inl i)
  | .str x => some (.inr x)
  | _ => none
def keysOf : List D → Option (List Key)
  | [] => some []
  | d :: r => match keyOf d, keysOf r with
    | some k, some ks => some (k :: ks)
    | _, _ => none
def valD {κ : Type} [DecidableEq κ] : List (κ × D) → κ → Option D
  | [], _ => none
  | p :: r, k => if p.1 = k then some p.2 else valD r k
theorem key_v {F : Hp} {v : V} {d : D} {k : Key} (h : Rep K F v d) (e : keyOf d = some k) : v = kV k := by
  cases h <;> simp [keyOf] at e <;> subst e <;> rfl
theorem keys_v {F : Hp} : ∀ {vs : List V} {ds : List D} {ks : List Key}, RepA K F vs ds → keysOf ds = some ks → vs = ks.map kV
  | _, _, _, .nil, e => by
    simp [keysOf] at e
    subst e
    rfl
  | _, _, _, .cons h r, e => by
    unfold keysOf at e
    split at e
    · rename_i k ks e1 e2
      cases e
      rw [key_v h e1, keys_v r e2]
      rfl
    · cases e
theorem valV_D {F : Hp} {κ : Type} [DecidableEq κ] {k : κ} : ∀ {es : List (κ × V)} {kvs : List (κ × D)}, es.map (·.1) = kvs.map (·.1) → RepA K F (es.map (·.2)) (kvs.map (·.2)) → 
    (valD kvs k = none ∧ valV es k = none) ∨ ∃ v d, valD kvs k = some d ∧ valV es k = some v ∧ Rep K F v d
  | [], [], _, _ => .inl ⟨rfl, rfl⟩
  | [], _ :: _, e, _ => by simp at e
  | _ :: _, [], e, _ => by simp at e
  | p :: r, q :: s, e, h => by
    rw [List.map_cons, List.map_cons, List.cons.injEq] at e
    rw [List.map_cons, List.map_cons] at h
    cases h with
    | cons h1 h2 =>
      by_cases z : q.1 = k
      · refine .inr ⟨p.2, q.2, ?_, valV_pos (e.1.trans z), h1⟩
        unfold valD
        rw [if_pos z]
      · have z' : ¬ p.1 = k := fun y => z (e.1.symm.trans y)
        have := valV_D (k := k) e.2 h2
        unfold valD
        rw [if_neg z, valV_neg z']
        exact this
/-- what a dict has, or has not, under a value -/
def DGetA (K : PySem.W.Frag) (H : Hp) (a : Addr) (y : V) (r : Option V) : Prop :=
  (∃ kvs k, Rd H a (.dK kvs) ∧ y = kV k ∧ r = valV kvs k) ∨ ∃ kvs k b, Rd H a (.dT kvs) ∧ y = .ref b ∧ SqT K H b (List.map kV k) ∧ r = valV kvs k
section
variable {A : Around} {pins : List (Addr × Obj)} {σ : L2.St} {H : Hp} {s : Shared} {a : Addr} {y v : V} {o : Option V} {u : Value} {E : Value → Shared → Prop}
theorem dA_getItem {Q : Value → Shared → Prop} (hu : A.units + 1 < cLine) (I : Inv X pins σ H s) (g : DGetA X.K H a y (some v)) (ry : RelV y u) (h : ∀ w' s', Inv X pins σ H s' → RelV v w' → Q w' s') :
    wpAny (model X.prog X.w) A (getItem (.ref a) u) Q E s := by
  rcases g with ⟨kvs, k, e, ey, l⟩ | ⟨kvs, k, b, e, ey, eb, l⟩
  · subst ey
    obtain ⟨z, hd, vs, rel, dd⟩ := dk_rd I.hok e
    obtain ⟨w', hw, rw'⟩ := RelO.some_of (v := v) (o := valueAt vs k) (by rw [l]; exact rel.val k)
    exact wpAny_getItem_of (kV_is ry) dd.mapOf hw (h w' _ (I.tok _) rw')
  · subst ey
    cases (show u = Value.ref b from ry)
    obtain ⟨z, hd, xs, rel, dd⟩ := dt_rd I.hok e
    obtain ⟨w', hw, rw'⟩ := RelO.some_of (v := v) (o := (atKey xs k).map (·.2)) (by rw [l]; exact rel.val k)
    obtain ⟨p, hp, hp2⟩ := Option.map_eq_some_iff.mp hw
    refine wpAny_getItem_heap (tupleKind_room_in1 hu) (LT.key_any I eb) dd hp ?_
    rw [hp2]
    exact h w' _ (I.tok _) rw'
theorem dA_in {Q : Value → Shared → Prop} (hu : A.units + 1 < cLine) (I : Inv X pins σ H s) (g : DGetA X.K H a y o) (ry : RelV y u) (h : ∀ s', Inv X pins σ H s' → Q (.bool o.isSome) s') :
    wpAny (model X.prog X.w) A (compareOp .In u (.ref a)) Q E s := by
  rcases g with ⟨kvs, k, e, ey, l⟩ | ⟨kvs, k, b, e, ey, eb, l⟩
  · subst ey
    obtain ⟨z, hd, vs, rel, dd⟩ := dk_rd I.hok e
    refine wpAny_in_of (kV_is ry) hd dd.mapOf ?_
    rw [← (rel.val k).isSome_eq, ← l]
    exact h _ (I.tok _)
  · subst ey
    cases (show u = Value.ref b from ry)
    obtain ⟨z, hd, xs, rel, dd⟩ := dt_rd I.hok e
    refine wpAny_in_heap (tupleKind_room_in1 hu) (LT.key_any I eb) hd dd ?_
    have q := (rel.val k).isSome_eq
    rw [Option.isSome_map] at q
    rw [← q, ← l]
    exact h _ (I.tok _)
theorem dA_notIn {Q : Value → Shared → Prop} (hu : A.units + 1 < cLine) (I : Inv X pins σ H s) (g : DGetA X.K H a y o) (ry : RelV y u) (h : ∀ s', Inv X pins σ H s' → Q (.bool (!o.isSome)) s') :
    wpAny (model X.prog X.w) A (compareOp .NotIn u (.ref a)) Q E s := by
  rcases g with ⟨kvs, k, e, ey, l⟩ | ⟨kvs, k, b, e, ey, eb, l⟩
  · subst ey
    obtain ⟨z, hd, vs, rel, dd⟩ := dk_rd I.hok e
    refine wpAny_notIn_of (kV_is ry) hd dd.mapOf ?_
    rw [← (rel.val k).isSome_eq, ← l]
    exact h _ (I.tok _)
  · subst ey
    cases (show u = Value.ref b from ry)
    obtain ⟨z, hd, xs, rel, dd⟩ := dt_rd I.hok e
    refine wpAny_notIn_heap (tupleKind_room_in1 hu) (LT.key_any I eb) hd dd ?_
    have q := (rel.val k).isSome_eq
    rw [Option.isSome_map] at q
    rw [← q, ← l]
    exact h _ (I.tok _)
theorem typeD (I : Inv X pins σ H s) (g : DGetA X.K H a y o) : s.TypeIs (.ref a) "dict" := by
  rcases g with ⟨kvs, k, e, _⟩ | ⟨kvs, k, b, e, _⟩
  · obtain ⟨_, _, vs, rel, ob, es, ep, h1, h2, _⟩ := dk_rd I.hok e
    exact ⟨ob, h1, h2.1⟩
  · obtain ⟨_, _, rows, rel, ob, es, ep, h1, h2, _⟩ := dt_rd I.hok e
    exact ⟨ob, h1, h2.1⟩
end
/-- a dict's item by its operator -/
def rIxD (K : PySem.W.Frag) : R2 := fun x y H Q => ∃ a v, x = .ref a ∧ DGetA K H a y (some v) ∧ Q v H
theorem ix_dct (hu : X.A.units + 1 < cLine) : IxR X (rIxD X.K) := by
  intro value slice pins s σ H x y v u Q I rx ry h hs
  obtain ⟨a, z, rfl, g, q⟩ := h
  cases rx
  have hT := typeD I g
  unfold subscriptTail
  refine wpAny_bind ?_
  rw [getitemInPython_of_ne hT.not_modules]
  refine wpAny_bind (wpAny_specialOf hT PySem.F.slot_dict_getitem.lookup ?_)
  have fin : wpAny (model X.prog X.w) X.A (subscripted slice false (.ref a) u) (fun r s₃ => wpAny (model X.prog X.w) X.A (letTemporaryGo value (.ref a) r >>= fun _ => pure r) (EP X pins σ Q) X.xe s₃) X.xe s := by
    rw [hs]
    exact wpAny_operating (wpAny_mono (dA_getItem (E := X.xe) (Q := EP X pins σ Q) hu I g ry fun w' s3 I3 rw' => ⟨z, H, I3, rw', q⟩) (fun r s₃ h₃ => wpAny_bind (wpAny_letTemporaryGo (wpAny_pure h₃))) fun _ _ x => x)
  first
    | exact wpAny_pure (wpAny_bind fin)
    | exact wpAny_bind (wpAny_pure (wpAny_bind fin))
    | exact wpAny_bind fin
end
end LA
/-! in, items, slices, len, isinstance, list, tuple, all, any, sum, repr. -/
namespace LA
open PySem PySem.Spec PyProof.Rows L2 Lay
section
variable {X : Cx} {K : PySem.W.Frag}
/-! ### in, not in -/
def rInQ (K : PySem.W.Frag) (neg : Bool) : R2 := fun x y H Q => ∃ d ds, Dp K H x d ∧ (Dp K H y (.list ds) ∨ Dp K H y (.tuple ds)) ∧ SeqAt.shaped d = true ∧ PyData.canLayAll0 ds = true ∧ Q (.bl (if neg = true then !ds.any fun z => PyData.eqv z d else ds.any fun z => PyData.eqv z d)) H
theorem op_inQ (hu : X.A.units + 65 < cLine) : OpR X (compareOp .In) (rInQ X.K false) := by
  intro pins s σ H x y v u Q I rx ry h
  obtain ⟨d, ds, hd, he, sd, se, q⟩ := h
  obtain ⟨as, r1⟩ := Dp.reads I d x v hd rx
  rcases he with he | he
  · obtain ⟨bs, r2⟩ := Dp.reads I (.list ds) y u he ry
    exact SeqAt.in_list_reads r2 r1 se (SeqAt.canLay_of_shaped sd) (room_in_shaped sd hu) ⟨.bl _, H, I, rfl, q⟩
  · obtain ⟨bs, r2⟩ := Dp.reads I (.tuple ds) y u he ry
    exact SeqAt.in_tuple_reads r2 r1 se (SeqAt.canLay_of_shaped sd) (room_in_shaped sd hu) ⟨.bl _, H, I, rfl, q⟩
theorem op_notInQ (hu : X.A.units + 65 < cLine) : OpR X (compareOp .NotIn) (rInQ X.K true) := by
  intro pins s σ H x y v u Q I rx ry h
  obtain ⟨d, ds, hd, he, sd, se, q⟩ := h
  obtain ⟨as, r1⟩ := Dp.reads I d x v hd rx
  rcases he with he | he
  · obtain ⟨bs, r2⟩ := Dp.reads I (.list ds) y u he ry
    exact SeqAt.notIn_list_reads r2 r1 se (SeqAt.canLay_of_shaped sd) (room_in_shaped sd hu) ⟨.bl _, H, I, rfl, q⟩
  · obtain ⟨bs, r2⟩ := Dp.reads I (.tuple ds) y u he ry
    exact SeqAt.notIn_tuple_reads r2 r1 se (SeqAt.canLay_of_shaped sd) (room_in_shaped sd hu) ⟨.bl _, H, I, rfl, q⟩
def rInDct (K : PySem.W.Frag) (neg : Bool) : R2 := fun x y H Q => ∃ a o, y = .ref a ∧ DGetA K H a x o ∧ Q (.bl (if neg = true then !o.isSome else o.isSome)) H
theorem op_inDct (hu : X.A.units + 1 < cLine) : OpR X (compareOp .In) (rInDct X.K false) := by
  intro pins s σ H x y v u Q I rx ry h
  obtain ⟨a, o, rfl, g, q⟩ := h
  cases ry
  exact dA_in hu I g rx fun s3 I3 => ⟨.bl o.isSome, H, I3, rfl, q⟩
theorem op_notInDct (hu : X.A.units + 1 < cLine) : OpR X (compareOp .NotIn) (rInDct X.K true) := by
  intro pins s σ H x y v u Q I rx ry h
  obtain ⟨a, o, rfl, g, q⟩ := h
  cases ry
  exact dA_notIn hu I g rx fun s3 I3 => ⟨.bl (!o.isSome), H, I3, rfl, q⟩
def rInSign (neg : Bool) : R2 := fun x y H Q => ∃ (c : Nat) (z : Str), x = .str ⟨#[c]⟩ ∧ y = .str z ∧ Q (.bl (if neg = true then !decide (c ∈ z.cps.toList) else decide (c ∈ z.cps.toList))) H
def rInA (K : PySem.W.Frag) (neg : Bool) : R2 := fun x y H Q => rInQ K neg x y H Q ∨ rInDct K neg x y H Q ∨ rInSign neg x y H Q
theorem op_inA (K : PySem.W.Frag) (hu : X.A.units + 65 < cLine) (h : X.K = K := by rfl) : OpR X (compareOp .In) (rInA K false) := h ▸ (op_inQ hu).or ((op_inDct (by omega)).or op_in_sign)
theorem op_notInA (K : PySem.W.Frag) (hu : X.A.units + 65 < cLine) (h : X.K = K := by rfl) : OpR X (compareOp .NotIn) (rInA K true) := h ▸ (op_notInQ hu).or ((op_notInDct (by omega)).or op_notIn_sign)
def bn (neg b : Bool) : Bool := if neg = true then !b else b
def aIn (neg : Bool) : A2 := fun x y M Q => match view M y with
  | .lst ds => (okE (view M x) ∧ plainL ds = true ∧ PyData.canLayAll0 (pyL ds) = true) ∧ Q (.bl (bn neg (ds.any fun z => PyData.eqv (py z) (py (view M x))))) M
  | .tup ds => (okE (view M x) ∧ plainL ds = true ∧ PyData.canLayAll0 (pyL ds) = true) ∧ Q (.bl (bn neg (ds.any fun z => PyData.eqv (py z) (py (view M x))))) M
  | .dK kvs => ∃ k, keyOf x = some k ∧ Q (.bl (bn neg (valD kvs k).isSome)) M
  | .dT kvs => ∃ ds k, x = .tup ds ∧ keysOf ds = some k ∧ Q (.bl (bn neg (valD kvs k).isSome)) M
  | .str z => ∃ c, x = .str ⟨#[c]⟩ ∧ Q (.bl (bn neg (decide (c ∈ z.cps.toList)))) M
  | _ => False
theorem anyPy (ds : List D) (p : PyData) : (pyL ds).any (fun z => PyData.eqv z p) = ds.any fun z => PyData.eqv (py z) p := by
  rw [pyL_map, List.any_map]
  rfl
theorem getK {N : Addr → Prop} {M : Mem} {H : Hp} {a : Addr} {es : List (Key × V)} {kvs : List (Key × D)} {y : V} {dy : D} {k : Key} (ry : Rep K (imm N M H) y dy) (h : Rd H a (.dK es)) (e : es.map (·.1) = kvs.map (·.1)) (r : RepA K (imm N M H) (es.map (·.2)) (kvs.map (·.2))) (hk : keyOf dy = some k) :
    (valD kvs k = none ∧ DGetA K H a y none) ∨ ∃ v d, valD kvs k = some d ∧ DGetA K H a y (some v) ∧ Rep K (imm N M H) v d := by
  have ey := key_v ry hk
  rcases valV_D (k := k) e r with ⟨h1, h2⟩ | ⟨v, d, h1, h2, h3⟩
  · exact .inl ⟨h1, .inl ⟨es, k, h, ey, h2.symm⟩⟩
  · exact .inr ⟨v, d, h1, .inl ⟨es, k, h, ey, h2.symm⟩, h3⟩
theorem getT {N : Addr → Prop} {M : Mem} {H : Hp} {a : Addr} {es : List (List Key × V)} {kvs : List (List Key × D)} {y : V} {ds : List D} {k : List Key} (ry : Rep K (imm N M H) y (.tup ds)) (h : Rd H a (.dT es)) (e : es.map (·.1) = kvs.map (·.1)) (r : RepA K (imm N M H) (es.map (·.2)) (kvs.map (·.2))) (hk : keysOf ds = some k) :
    (valD kvs k = none ∧ DGetA K H a y none) ∨ ∃ v d, valD kvs k = some d ∧ DGetA K H a y (some v) ∧ Rep K (imm N M H) v d := by
  cases ry with
  | tup hs ra =>
    have ey := keys_v ra hk
    subst ey
    have hs' : SqT K H _ _ := seqT (.of imm_sub) hs.sq
    rcases valV_D (k := k) e r with ⟨h1, h2⟩ | ⟨v, d, h1, h2, h3⟩
    · exact .inl ⟨h1, .inr ⟨es, k, _, h, rfl, hs', h2.symm⟩⟩
    · exact .inr ⟨v, d, h1, .inr ⟨es, k, _, h, rfl, hs', h2.symm⟩, h3⟩
theorem s_in (neg : Bool) : S2 K (rInA K neg) (aIn neg) := by
  intro N M H x y dx dy Q Q' m rx ry q k
  have sy := see m ry
  have sx := see m rx
  unfold aIn at q
  split at q
  · rename_i ds e
    rw [e] at sy
    obtain ⟨⟨⟨p1, s1⟩, p2, s2⟩, q⟩ := q
    have dpy : Dp K H y (.list (pyL ds)) := sy.dp (.of imm_sub) p2
    refine .inl ⟨_, _, sx.dp (.of imm_sub) p1, .inl dpy, s1, s2, k.here m ?_ q⟩
    rw [anyPy]
    exact .bl _
  · rename_i ds e
    rw [e] at sy
    obtain ⟨⟨⟨p1, s1⟩, p2, s2⟩, q⟩ := q
    have dpy : Dp K H y (.tuple (pyL ds)) := sy.dp (.of imm_sub) p2
    refine .inl ⟨_, _, sx.dp (.of imm_sub) p1, .inr dpy, s1, s2, k.here m ?_ q⟩
    rw [anyPy]
    exact .bl _
  · rename_i kvs e
    rw [e] at sy
    obtain ⟨kk, hk, q⟩ := q
    cases sy with
    | dK h e1 r1 =>
      rcases getK rx h e1 r1 hk with ⟨h1, h2⟩ | ⟨v, d, h1, h2, _⟩
      · rw [h1] at q
        exact .inr (.inl ⟨_, none, rfl, h2, k.here m (.bl _) q⟩)
      · rw [h1] at q
        exact .inr (.inl ⟨_, some v, rfl, h2, k.here m (.bl _) q⟩)
  · rename_i kvs e
    rw [e] at sy
    obtain ⟨ds, kk, rfl, hk, q⟩ := q
    cases sy with
    | dT h e1 r1 =>
      rcases getT rx h e1 r1 hk with ⟨h1, h2⟩ | ⟨v, d, h1, h2, _⟩
      · rw [h1] at q
        exact .inr (.inl ⟨_, none, rfl, h2, k.here m (.bl _) q⟩)
      · rw [h1] at q
        exact .inr (.inl ⟨_, some v, rfl, h2, k.here m (.bl _) q⟩)
  · rename_i z e
    rw [e] at sy
    obtain ⟨c, rfl, q⟩ := q
    cases sy
    exact .inr (.inr ⟨c, z, rx.str_inv, rfl, k.here m (.bl _) q⟩)
  · exact q.elim
/-! ### an item -/
def ixD : D → D → Option D
  | .lst ds, .int i => atI ds i
  | .scr ds, .int i => atI ds i
  | .tup ds, .int i => atI ds i
  | .str z, .int i => if z.length ≤ 1000000 then (atI z.cps.toList i).map fun c => .str ⟨#[c]⟩ else none
  | .dK kvs, y => (keyOf y).bind (valD kvs)
  | .dT kvs, .tup ds => (keysOf ds).bind (valD kvs)
  | _, _ => none
def aIx : A2 := fun x y M Q => ∃ d, ixD (view M x) y = some d ∧ Q d M
def rIxA (K : PySem.W.Frag) : R2 := fun x y H Q => rIxL K x y H Q ∨ rIxT K x y H Q ∨ rIxS x y H Q ∨ rIxD K x y H Q
theorem ix_all (K : PySem.W.Frag) (hu : X.A.units + 1 < cLine) (h : X.K = K := by rfl) : IxR X (rIxA K) := h ▸ ix_list.or (ix_tup.or (ix_str.or (ix_dct hu)))
theorem atI_rep {F : Hp} {vs : List V} {ds : List D} {i : Int} {d : D} (r : RepA K F vs ds) (h : atI ds i = some d) : ∃ v, atI vs i = some v ∧ Rep K F v d := by
  unfold atI at h ⊢
  rw [r.len]
  cases e : ixN ds.length i with
  | none => rw [e] at h; cases h
  | some j =>
    rw [e] at h
    exact r.get' h
theorem s_ix : S2 K (rIxA K) aIx := by
  rintro N M H x y dx dy Q Q' m rx ry ⟨d, e, q⟩ k
  have sx := see m rx
  unfold ixD at e
  split at e
  · rename_i ds i e1
    rw [e1] at sx
    cases sx with
    | lst h r =>
      obtain ⟨v, h1, h2⟩ := atI_rep r e
      exact .inl ⟨_, _, i, v, rfl, ry.int_inv, .inl (.inl h), h1, k.here m h2 q⟩
  · rename_i ds i e1
    rw [e1] at sx
    cases sx with
    | scr h r =>
      obtain ⟨v, h1, h2⟩ := atI_rep r e
      exact .inl ⟨_, _, i, v, rfl, ry.int_inv, h, h1, k.here m h2 q⟩
  · rename_i ds i e1
    rw [e1] at sx
    cases sx with
    | tup h r =>
      obtain ⟨v, h1, h2⟩ := atI_rep r e
      exact .inr (.inl ⟨_, _, i, v, rfl, ry.int_inv, h.sq, h1, k.here m h2 q⟩)
  · rename_i z i e1
    rw [e1] at sx
    cases sx
    split at e
    · rename_i hl
      obtain ⟨c, h1, rfl⟩ := Option.map_eq_some_iff.mp e
      exact .inr (.inr (.inl ⟨z, i, c, rfl, ry.int_inv, line _ hl, h1, k.here m (.str _) q⟩))
    · cases e
  · rename_i kvs e1
    rw [e1] at sx
    obtain ⟨kk, hk, hv⟩ := Option.bind_eq_some_iff.mp e
    cases sx with
    | dK h e2 r1 =>
      rcases getK ry h e2 r1 hk with ⟨h1, h2⟩ | ⟨v, d', h1, h2, h3⟩
      · rw [h1] at hv
        cases hv
      · rw [h1] at hv
        cases hv
        exact .inr (.inr (.inr ⟨_, v, rfl, h2, k.here m h3 q⟩))
  · rename_i kvs ds e1
    rw [e1] at sx
    obtain ⟨kk, hk, hv⟩ := Option.bind_eq_some_iff.mp e
    cases sx with
    | dT h e2 r1 =>
      rcases getT ry h e2 r1 hk with ⟨h1, h2⟩ | ⟨v, d', h1, h2, h3⟩
      · rw [h1] at hv
        cases hv
      · rw [h1] at hv
        cases hv
        exact .inr (.inr (.inr ⟨_, v, rfl, h2, k.here m h3 q⟩))
  · cases e
theorem ae_ix {a b : Expr} {aa ab : AE} {pos : Pos} (hu : X.A.units + 1 < cLine) (ha : PE X a (cE K aa)) (hb : PE X b (cE K ab)) (hs : PlainIx b) (h : X.K = K := by rfl) : PE X (.Subscript a b pos) (cE K (aOp aIx aa ab)) :=
  PE.to (pe_ix (ix_all K hu h) ha hb hs) fun _ _ _ h => two_run s_ix h
/-! ### slices -/
def cutA (ds : List D) (lo hi : Option Int) : List D := (ds.drop (HT.sIx ds.length 0 lo)).take (HT.sIx ds.length ds.length hi - HT.sIx ds.length 0 lo)
abbrev AO := Sl → Mem → (Option Int → Mem → Prop) → Prop
def aNoPart : AO := fun _ M Q => Q none M
def aPart (ae : AE) : AO := fun Γ M Q => ae Γ M fun d M1 => ∃ i, d = .int i ∧ Q (some i) M1
def cO (K : PySem.W.Frag) (ao : AO) : TO := fun σ H Q => ∃ N M Γ Q', Ok K N M H σ Γ ∧ ao Γ M Q' ∧ ∀ i H' M', Ext N M H M' H' → MOk K N M' H' → Q' i M' → Q i H'
theorem PO.to {e : Option Expr} {t t' : TO} (h : PO X e t) (m : ∀ σ H Q, t' σ H Q → t σ H Q) : PO X e t' := ⟨fun pins s σ H Q I w => h.run pins s σ H Q I (m σ H Q w)⟩
theorem ao_none : PO X none (cO K aNoPart) := PO.to po_none fun σ H Q ⟨N, M, Γ, Q', o, q, k⟩ => k none H M .refl o.m q
theorem ao_some {e : Expr} {ae : AE} (h : PE X e (cE K ae)) : PO X (some e) (cO K (aPart ae)) := PO.to (po_some h) fun σ H Q ⟨N, M, Γ, Q', o, q, k⟩ => ⟨N, M, Γ, _, o, q, by
  rintro v d H1 M1 e1 m1 r1 ⟨i, rfl, q1⟩
  exact ⟨i, r1.int_inv, k (some i) H1 M1 e1 m1 q1⟩⟩
def slD (lo hi : Option Int) : D → Option D
  | .lst ds => some (.lst (cutA ds lo hi))
  | .scr ds => some (.lst (cutA ds lo hi))
  | .tup ds => some (.tup (cutA ds lo hi))
  | .str z => if z.length ≤ 1000000 then some (.str (cutS z lo hi)) else none
  | _ => none
def aSl (ae : AE) (al ah : AO) : AE := fun Γ M Q => ae Γ M fun x M1 => al Γ M1 fun lo M2 => ah Γ M2 fun hi M3 => ∃ d, slD lo hi (view M3 x) = some d ∧ Q d M3
def rSlall (K : PySem.W.Frag) : V → Option Int → Option Int → Hp → VK → Prop := fun x lo hi H Q => rSlL K x lo hi H Q ∨ rSlF K x lo hi H Q ∨ rSlS x lo hi H Q
theorem sl_all (K : PySem.W.Frag) (h : X.K = K := by rfl) : SlR X (rSlall K) := (slLK K h).or (SlR.or (h ▸ sl_tupF) sl_str)
theorem cut_rep {F : Hp} {vs : List V} {ds : List D} (r : RepA K F vs ds) (lo hi : Option Int) : RepA K F (cutV vs lo hi) (cutA ds lo hi) := by
  unfold cutV cutA
  rw [r.len]
  exact (r.drop _).take _
theorem sl_run {N : Addr → Prop} {M : Mem} {H : Hp} {x : V} {dx d : D} {lo hi : Option Int} {Q : VK} {Q' : D → Mem → Prop} (m : MOk K N M H) (rx : Rep K (imm N M H) x dx) (e : slD lo hi (view M dx) = some d) (q : Q' d M) (k : kE K N M H Q' Q) : rSlall K x lo hi H Q := by
  have sx := see m rx
  unfold slD at e
  split at e
  · rename_i ds e1
    cases e
    rw [e1] at sx
    cases sx with
    | lst h r => exact .inl ⟨_, _, rfl, .inl (.inl h), fun p hp => k.new m hp (fun F s f => .lst f (cut_rep (r.sub s) lo hi)) q⟩
  · rename_i ds e1
    cases e
    rw [e1] at sx
    cases sx with
    | scr h r => exact .inl ⟨_, _, rfl, h, fun p hp => k.new m hp (fun F s f => .lst f (cut_rep (r.sub s) lo hi)) q⟩
  · rename_i ds e1
    cases e
    rw [e1] at sx
    cases sx with
    | @tup a xs _ h r =>
      refine .inr (.inl ⟨a, xs, rfl, h.sq, fun w => ?_, fun _ p ob hp hd => k.new m hp (fun F s f => .tup (.new hd f) (cut_rep (r.sub s) lo hi)) q⟩)
      have ec : cutA ds lo hi = ds := by
        unfold cutA
        rw [← r.len, w.1, w.2, List.drop_zero, Nat.sub_zero, r.len, List.take_length]
      rw [ec] at q
      have : view M dx = dx ∨ ∃ a, dx = .ref a := by unfold view; split <;> first | exact .inr ⟨_, rfl⟩ | exact .inl rfl
      refine k.here m ?_ q
      rcases this with e | ⟨a, rfl⟩
      · rw [← e1, e]; exact rx
      · unfold view at e1
        dsimp only at e1
        split at e1 <;> cases e1
  · rename_i z e1
    rw [e1] at sx
    cases sx
    split at e
    · rename_i hl
      cases e
      exact .inr (.inr ⟨z, rfl, line _ hl, k.here m (.str _) q⟩)
    · cases e
  · cases e
theorem ae_sl {e : Expr} {lo hi : Option Expr} {p2 pos : Pos} {ae : AE} {al ah : AO} (he : PE X e (cE K ae)) (hl : PO X lo (cO K al)) (hh : PO X hi (cO K ah)) (h : X.K = K := by rfl) : PE X (.Subscript e (.Slice lo hi none p2) pos) (cE K (aSl ae al ah)) :=
  PE.to (pe_slice (sl_all K h) he hl hh) fun σ H Q ⟨N, M, Γ, Q', o, q, k⟩ => ⟨N, M, Γ, _, o, q, fun x dx H1 M1 e1 m1 r1 q1 => ⟨N, M1, Γ, _, o.go e1 m1, q1, fun lo H2 M2 e2 m2 q2 =>
    ⟨N, M2, Γ, _, (o.go e1 m1).go e2 m2, q2, by
      rintro hi H3 M3 e3 m3 ⟨d, ed, q3⟩
      exact sl_run m3 ((r1.sub e2.im).sub e3.im) ed q3 (((k.go e1).go e2).go e3)⟩⟩⟩
/-! ### len, isinstance, list, tuple -/
def lenD : D → Option Int
  | .lst ds => some ds.length
  | .scr ds => some ds.length
  | .tup ds => some ds.length
  | .str z => if z.length ≤ 1000000 then some z.length else none
  | .dK kvs => some kvs.length
  | .dT kvs => some kvs.length
  | _ => none
def aLen : AL := fun ds M Q => ∃ d n, ds = [d] ∧ lenD (view M d) = some n ∧ Q (.int n) M
def rLenDct : List V → Hp → VK → Prop := fun xs H Q => ∃ a n, xs = [V.ref a] ∧ ((∃ kvs, Rd H a (.dK kvs) ∧ n = kvs.length) ∨ ∃ kvs, Rd H a (.dT kvs) ∧ n = kvs.length) ∧ Q (.int (n : Nat)) H
end
end LA
/-! len, isinstance, list, tuple, all, any, sum, repr; fields, methods, new instances; what is walked. -/
namespace LA
open PySem PySem.Spec PyProof.Rows L2 Lay
section
variable {X : Cx} {K : PySem.W.Frag}
def rLenA (K : PySem.W.Frag) : List V → Hp → VK → Prop := fun xs H Q => rLenK K xs H Q ∨ (∃ z, xs = [.str z] ∧ z.length ≤ sizeLine ∧ Q (.int z.length) H) ∨ (∃ a kvs, xs = [V.ref a] ∧ Rd H a (.dK kvs) ∧ Q (.int kvs.length) H) ∨ ∃ a kvs, xs = [V.ref a] ∧ Rd H a (.dT kvs) ∧ Q (.int kvs.length) H
theorem call_lenDR : CallR X (.builtin "len") (fun xs H Q => ∃ a kvs, xs = [V.ref a] ∧ Rd H a (.dK kvs) ∧ Q (.int kvs.length) H) := by
  intro pins s σ H xs us Q I r h
  obtain ⟨a, kvs, rfl, ha, q⟩ := h
  obtain ⟨u, rfl, ru⟩ := vals1 r
  cases ru
  exact d_len I ha fun t s' I' => ⟨.int kvs.length, H, I', ⟨t, rfl⟩, q⟩
theorem call_lenTR : CallR X (.builtin "len") (fun xs H Q => ∃ a kvs, xs = [V.ref a] ∧ Rd H a (.dT kvs) ∧ Q (.int kvs.length) H) := by
  intro pins s σ H xs us Q I r h
  obtain ⟨a, kvs, rfl, ha, q⟩ := h
  obtain ⟨u, rfl, ru⟩ := vals1 r
  cases ru
  obtain ⟨z, hd, rows, rel, dd⟩ := dt_rd I.hok ha
  have hl : kvs.length = rows.length := Paired.length rel
  have hs : sizeLine = 16777216 := sizeLine_eq
  refine call_len_dictH hd dd (by omega) ?_
  rw [← hl]
  exact ⟨.int kvs.length, H, I.tok _, ⟨_, rfl⟩, q⟩
theorem c_len (K : PySem.W.Frag) (h : X.K = K := by rfl) : CallR X (.builtin "len") (rLenA K) := (lenK K h).or (call_len_str.or (call_lenDR.or call_lenTR))
theorem s_len : SL K (rLenA K) aLen := by
  rintro N M H xs ds Q Q' m r ⟨d, n, rfl, e, q⟩ k
  cases r with
  | cons rx r2 =>
    cases r2
    have sx := see m rx
    unfold lenD at e
    split at e
    · rename_i ds e1
      cases e
      rw [e1] at sx
      cases sx with
      | lst h r =>
        refine .inl ⟨_, _, rfl, .inl (.inl (.inl h)), k.here m ?_ q⟩
        rw [r.len]
        exact .int _
    · rename_i ds e1
      cases e
      rw [e1] at sx
      cases sx with
      | scr h r =>
        refine .inl ⟨_, _, rfl, .inl h, k.here m ?_ q⟩
        rw [r.len]
        exact .int _
    · rename_i ds e1
      cases e
      rw [e1] at sx
      cases sx with
      | tup h r =>
        refine .inl ⟨_, _, rfl, .inr h.sq, k.here m ?_ q⟩
        rw [r.len]
        exact .int _
    · rename_i z e1
      rw [e1] at sx
      cases sx
      split at e
      · rename_i hl
        cases e
        exact .inr (.inl ⟨z, rfl, line _ hl, k.here m (.int _) q⟩)
      · cases e
    · rename_i kvs e1
      cases e
      rw [e1] at sx
      cases sx with
      | dK h e2 r =>
        refine .inr (.inr (.inl ⟨_, _, rfl, h, k.here m ?_ q⟩))
        have := congrArg List.length e2
        rw [List.length_map, List.length_map] at this
        rw [this]
        exact .int _
    · rename_i kvs e1
      cases e
      rw [e1] at sx
      cases sx with
      | dT h e2 r =>
        refine .inr (.inr (.inr ⟨_, _, rfl, h, k.here m ?_ q⟩))
        have := congrArg List.length e2
        rw [List.length_map, List.length_map] at this
        rw [this]
        exact .int _
    · cases e
/-! ### isinstance -/
def tyD : D → Option String
  | .non => some "NoneType"
  | .bl _ => some "bool"
  | .int _ => some "int"
  | .str _ => some "str"
  | .lst _ => some "list"
  | .scr _ => some "list"
  | .tup _ => some "tuple"
  | .dK _ => some "dict"
  | _ => none
theorem See.tyx {F H : Hp} {v : V} {d : D} {T : String} (h : See K F H v d) (e : tyD d = some T) : TyX K H v (.type T) := by
  cases h with
  | non => cases e; exact .base .non
  | bl b => cases e; exact .base (.bl b)
  | int b => cases e; exact .base (.int b)
  | str b => cases e; exact .base (.str b)
  | lst h r => cases e; exact .base (.lst h)
  | scr h r =>
    cases e
    rcases h with (h | ⟨o, h⟩) | ⟨o, its, n, hk, hc, _⟩
    · exact .base (.lst h)
    · exact .base (.frz h)
    · exact .kList hk hc
  | tup h r =>
    cases e
    obtain ⟨ob, hd, h⟩ := h
    unfold tupO at h
    split at h
    · exact .base (.tup h)
    · exact .fTuple h
  | dK h e1 r =>
    cases e
    rcases h with h | ⟨o, h⟩
    · exact .base (.dK h)
    · exact .fDict h
  | par _ _ => cases e
  | ty _ => cases e
  | ref _ => cases e
  | dT _ _ _ => cases e
  | ins _ _ _ => cases e
def aIsi : AL := fun ds M Q => ∃ d T U b, ds = [d, .ty U] ∧ tyD (view M d) = some T ∧ kitB T U = some b ∧ Q (.bl b) M
theorem s_isi : SL K (rIsi K) aIsi := by
  rintro N M H xs ds Q Q' m r ⟨d, T, U, b, rfl, e, kb, q⟩ k
  cases r with
  | cons rx r2 => cases r2 with
    | cons ry r3 =>
      cases r3
      cases ry
      exact ⟨_, _, _, _, b, rfl, .ty U, (see m rx).tyx e, kit_ty kb, k.here m (.bl b) q⟩
/-! ### list(x), tuple(x) -/
def seqD : D → Option (List D)
  | .lst ds => some ds
  | .scr ds => some ds
  | .tup ds => some ds
  | _ => none
theorem See.seq {F H : Hp} {v : V} {d : D} {ds : List D} (h : See K F H v d) (e : seqD d = some ds) : ∃ a xs, v = .ref a ∧ (SqL K H a xs ∨ SqT K H a xs) ∧ RepA K F xs ds := by
  cases h <;> simp [seqD] at e
  case lst h r => subst e; exact ⟨_, _, rfl, .inl (.inl (.inl h)), r⟩
  case scr h r => subst e; exact ⟨_, _, rfl, .inl h, r⟩
  case tup h r => subst e; exact ⟨_, _, rfl, .inr h.sq, r⟩
def aList : AL := fun ds M Q => ∃ d es, ds = [d] ∧ seqD (view M d) = some es ∧ Q (.lst es) M
def aListM : AL := fun ds M Q => ∃ d es, ds = [d] ∧ seqD (view M d) = some es ∧ ∀ a, M a = none → Q (.ref a) (put M a (.lst es))
theorem s_list : SL K (rCopyK K) aList := by
  rintro N M H xs ds Q Q' m r ⟨d, es, rfl, e, q⟩ k
  cases r with
  | cons rx r2 =>
    cases r2
    obtain ⟨a, ys, rfl, h, ra⟩ := (see m rx).seq e
    exact ⟨a, ys, rfl, h, fun l hl => k.new m hl (fun F s f => .lst f (ra.sub s)) q⟩
theorem s_listM : SL K (rCopyK K) aListM := by
  rintro N M H xs ds Q Q' m r ⟨d, es, rfl, e, q⟩ k
  cases r with
  | cons rx r2 =>
    cases r2
    obtain ⟨a, ys, rfl, h, ra⟩ := (see m rx).seq e
    exact ⟨a, ys, rfl, h, fun l hl => k.newM (u := .lst es) m hl (fun F H' s f => ⟨_, f, ra.sub s⟩) (q l)⟩
def aTuple : AL := fun ds M Q => ∃ d es, ds = [d] ∧ seqD (view M d) = some es ∧ Q (.tup es) M
theorem view_tup {M : Mem} {d : D} {ds : List D} (e : view M d = .tup ds) : d = .tup ds := by
  cases d <;> simp [view] at e
  case tup => rw [e]
  case ref a => split at e <;> cases e
theorem s_tuple : SL K (rTupleF K) aTuple := by
  rintro N M H xs ds Q Q' m r ⟨d, es, rfl, e, q⟩ k
  cases r with
  | cons rx r2 =>
    cases r2
    have sx := see m rx
    unfold seqD at e
    split at e
    · rename_i ds e1
      cases e
      rw [e1] at sx
      cases sx with
      | lst h ra => exact ⟨_, _, rfl, .inl ⟨.inl (.inl h), fun l ob hl hd => k.new m hl (fun F s f => .tup (.new hd f) (ra.sub s)) q⟩⟩
    · rename_i ds e1
      cases e
      rw [e1] at sx
      cases sx with
      | scr h ra => exact ⟨_, _, rfl, .inl ⟨h, fun l ob hl hd => k.new m hl (fun F s f => .tup (.new hd f) (ra.sub s)) q⟩⟩
    · rename_i ds e1
      cases e
      have := view_tup e1
      subst this
      cases rx with
      | tup h ra => exact ⟨_, _, rfl, .inr ⟨seqT (.of imm_sub) h.sq, k.here m (.tup h ra) q⟩⟩
    · cases e
end
end LA
/-! enumerate(tuple). -/
namespace PySem
open Sem (wp)
open AutoSeq1 (wpAny_loadPart')
namespace LayE
theorem meets_enumerate_newT (l : Addr) (items : Array Value) (n : Nat) (dct : Option Addr) (sl : Array (Option Value)) :
    Meets (Builtin.«enumerate.__new__» ⟨[.type "enumerate", .ref l], []⟩) (fun _ R s => s.heap.get? l = some { cls := .type "tuple", dict := dct, data := .seq items n, slots := sl } ∧
      R (.ok (.ret (.ref (s.heap.push { cls := .type "tuple_iterator", data := .fields #[.ref l, .int 0 0] }).objs.size)))
        { s with heap := (s.heap.push { cls := .type "tuple_iterator", data := .fields #[.ref l, .int 0 0] }).push { cls := .type "enumerate", data := .fields #[.none, .bool false, .ref s.heap.objs.size, rawInt 0, .none, .none] } }) :=
  .of_wp fun prog w A R s h => by
    obtain ⟨hp, g, d, tk, os⟩ := s; obtain ⟨hl, h⟩ := h
    have hsub := sub_enumerate
    have hL : Heap.IsTuple (Shared.heap ⟨hp, g, d, tk, os⟩) l items := ⟨_, hl, rfl, n, rfl⟩
    wp_walk using wpAny_loadPart' hl
    refine wpAny_stack_any fun st => wpAny_pure ?_
    split
    · rename_i c _ _ _ _ _
      cases (c == Value.type "enumerate")
      · wp_walk using wpAny_loadPart' hl, wpAny_pyIter_tuple hL
        exact ⟨_, rfl, h⟩
      · wp_walk using wpAny_loadPart' hl, wpAny_pyIter_tuple hL
        exact ⟨_, rfl, h⟩
    · wp_walk using wpAny_loadPart' hl, wpAny_pyIter_tuple hL
      exact ⟨_, rfl, h⟩
section
variable {prog : Program} {w : World} {A : Around} {E : Value → Shared → Prop} {s : Shared}
theorem call_enumerate_tuple {l : Addr} {items : Array Value} {Q : Value → Shared → Prop} (hL : s.heap.IsTuple l items)
    (h : ∀ h', IsEnum h' (s.heap.objs.size + 1) s.heap.objs.size 0 .none → h'.IsTupleIter s.heap.objs.size l 0 → h'.objs.size = s.heap.objs.size + 2 →
      (∀ b o, s.heap.get? b = some o → h'.get? b = some o) → Q (.ref (s.heap.objs.size + 1)) { s with heap := h' }) :
    wpAny (model prog w) A (call (.type "enumerate") [.ref l]) Q E s := by
  obtain ⟨⟨c, dct, dt, sl⟩, hl, hc, n, hd⟩ := hL
  replace hc : c = .type "tuple" := hc
  replace hd : dt = .seq items n := hd
  subst hc hd
  refine callType_new F.called_enumerate (by decide) (F.typeCall_enumerate_1 _) (F.newCall_enumerate_1 _) (fun obj => F.args_object_init_2 obj _) F.entry_enumerate_new
    (meets_enumerate_newT l items n dct sl) ⟨hl, ?_⟩
  have hz : (s.heap.push { cls := .type "tuple_iterator", data := .fields #[.ref l, .int 0 0] }).objs.size = s.heap.objs.size + 1 := Heap.size_push ..
  show _ ∧ _
  rw [hz]
  have he : IsEnum ((s.heap.push { cls := .type "tuple_iterator", data := .fields #[.ref l, .int 0 0] }).push
      { cls := .type "enumerate", data := .fields #[.none, .bool false, .ref s.heap.objs.size, rawInt 0, .none, .none] }) (s.heap.objs.size + 1) s.heap.objs.size 0 .none := by
    have := Heap.get?_push_size (s.heap.push { cls := .type "tuple_iterator", data := .fields #[.ref l, .int 0 0] })
      (o := { cls := .type "enumerate", data := .fields #[.none, .bool false, .ref s.heap.objs.size, rawInt 0, .none, .none] }) rfl
    rw [hz] at this; exact this
  refine ⟨⟨_, he, rfl⟩, h _ he ⟨_, Heap.get?_push_of_some _ (Heap.get?_push_size _ rfl), rfl, rfl⟩ (by rw [Heap.size_push, hz]) fun b o x => Heap.get?_push_of_some _ (Heap.get?_push_of_some _ x)⟩
end
end LayE
end PySem
namespace Lay
open PySem PySem.Spec PyProof.Rows L2 PySem.LayE
/-- the tuple at a, each item in a new pair -/
def IteT (K : PySem.W.Frag) (a : Addr) : It :=
  ⟨fun i H => ∃ (xs : List V) (x : V), SqT K H a xs ∧ xs[i]? = some x, fun i H v H' => ∃ T x, v = .ref T ∧ H T = none ∧ H' = upd H T (.tup [.int (i : Nat), x]) ∧ ∀ xs, SqT K H a xs → xs[i]? = some x, fun i H => ∃ xs : List V, SqT K H a xs ∧ xs.length = i⟩
theorem turn_enumT {P : Program} {w : World} {K : PySem.W.Frag} {elts : List Expr} {kk : Nat} {tpos : Pos} (a e it : Addr) :
    Turn P w K (.Tuple elts kk tpos) (IteT K a) [e, it] e (fun i h => (∃ old, IsEnum h e it ((i : Nat) : Int) old) ∧ h.IsTupleIter it a i ∧ e ≠ it) where
  mem := by simp
  obj := fun i h st b hb => by
    obtain ⟨⟨old, he⟩, ⟨o, ho, hc, hd⟩, _⟩ := st
    have e' : b = e ∨ b = it := by simpa using hb
    rcases e' with z | z
    · rw [z]; exact ⟨_, he, fun v q => nomatch q⟩
    · rw [z]; exact ⟨o, ho, fun v q => by rw [hd] at q; cases q⟩
  keep := fun i h h' st k => let ⟨⟨old, he⟩, hi, hne⟩ := st; ⟨⟨old, k e (by simp) _ he⟩, hi.at fun o q => k it (by simp) o q, hne⟩
  item := by
    intro X hP hw hK hc i pins s σ H E I hf st hg
    subst hP hw hK
    obtain ⟨⟨old, he⟩, hit, hne⟩ := st
    obtain ⟨xs, x, hq, hx⟩ := hg
    obtain ⟨its, rv, p, hz⟩ := I.tuple hq
    obtain ⟨u, hu, ru⟩ := rv.get hx
    have hel : e < s.heap.objs.size := Heap.lt_size he
    have hil : it < s.heap.objs.size := by obtain ⟨_, q, _⟩ := hit; exact Heap.lt_size q
    have hT : s.heap.IsTuple a its.toArray := p
    have hai : a ≠ it := by
      rintro rfl
      obtain ⟨o1, q1, c1, d1⟩ := hit
      obtain ⟨o2, q2, c2, _⟩ := hT
      rw [q1] at q2
      cases q2
      rw [c1] at c2
      injection c2 with c2
      exact absurd c2 (by decide)
    have hae : e ≠ a := by
      rintro rfl
      obtain ⟨o2, q2, c2, _⟩ := hT
      rw [he] at q2
      cases q2
      injection c2 with c2
      exact absurd c2 (by decide)
    have hlt : i < its.toArray.size := by
      have := (List.getElem?_eq_some_iff.mp hu).1
      simpa using this
    refine wpAny_pyNext_enum_itemD (Draws.tuple (A := X.A.in1) (show X.A.in1.handled = none from I.ok.hd hc) it a hai its.toArray) he ⟨hit, hT⟩ hlt hne (by simp only [List.mem_cons, List.not_mem_nil, or_false, not_or]; exact ⟨hne, hae⟩) fun y h' tk hy ho hit' hT hsz hk => ?_
    have ey : y = u := by
      have h1 : its.toArray[i]? = some u := by simpa using hu
      exact Option.some.inj ((show its.toArray[i]? = some y from hy).symm.trans h1)
    subst ey
    refine ⟨_, rfl, wpAny_letOwnedTupleGo_enum (s := { s with heap := h', toks := tk + 1 }) ho fun h'' he' sb => ?_⟩
    have hT2 : h''.get? s.heap.objs.size = some { cls := .type "tuple", data := .seq #[.int i tk, y] } := (sb.2 _ (Nat.ne_of_gt hel)).trans hT
    have new : ObjOk X.prog X.w (upd H s.heap.objs.size (.tup [.int (i : Nat), x])) h'' s.heap.objs.size (.tup [.int (i : Nat), x]) :=
      ⟨by show 2 ≤ sizeLine; decide, [.int i tk, y], .cons ⟨_, rfl⟩ (.cons ru .nil), ⟨_, hT2, rfl, _, rfl⟩⟩
    have I1 : Inv X pins σ (upd H s.heap.objs.size (.tup [.int (i : Nat), x])) { s with heap := h'', toks := tk + 1 } :=
      I.turnedNew (ch := [e, it]) (fun b ob hb q => (sb.2 b (fun z => hb (by simp [z]))).trans (hk b ob (fun z => hb (by simp [z])) (fun z => hb (by simp [z])) q)) hf (Nat.le_refl _) new
    refine ⟨.ref s.heap.objs.size, _, I1, rfl, ⟨_, x, rfl, I.hok.fresh (Nat.le_refl _), rfl, fun ys hy => ?_⟩, ⟨⟨y, ?_⟩, hit'.1.at fun o q => (sb.2 it (Ne.symm hne)).trans q, hne⟩, fun b hb => ?_⟩
    · rw [I.tuple_inj hy hq]
      exact hx
    · have e1 : ((i + 1 : Nat) : Int) = (i : Int) + 1 := by omega
      rw [e1]; exact he'
    · have hb' : b < s.heap.objs.size := by
        have e' : b = e ∨ b = it := by simpa using hb
        rcases e' with z | z
        · rw [z]; exact hel
        · rw [z]; exact hil
      rw [upd_ne (Nat.ne_of_lt hb')]
      exact (hf b hb).1
  done := by
    intro X hP hw hK hc i pins s σ H E I hf st hg
    subst hP hw hK
    obtain ⟨⟨old, he⟩, hit, hne⟩ := st
    obtain ⟨xs, hq, hx⟩ := hg
    obtain ⟨its, rv, p, hz⟩ := I.tuple hq
    obtain ⟨f0, f1, f2, f3, f4, f5⟩ := hf it (by simp)
    have hl := rv.length
    have hT : s.heap.IsTuple a its.toArray := p
    have hai : a ≠ it := by
      rintro rfl
      obtain ⟨o1, q1, c1, d1⟩ := hit
      obtain ⟨o2, q2, c2, _⟩ := hT
      rw [q1] at q2
      cases q2
      rw [c1] at c2
      injection c2 with c2
      exact absurd c2 (by decide)
    have ei : its.toArray.size = i := by
      rw [List.size_toArray, ← hl]
      exact hx
    rw [← ei] at he hit
    exact wpAny_pyNext_enum_endD (Draws.tuple (A := X.A.in1) (show X.A.in1.handled = none from I.ok.hd hc) it a hai its.toArray) he ⟨hit, hT⟩ fun h' eb => ⟨rfl, I.turned (t' := s.toks) (fun b o hb q => eb b o hb q) f0 f1 f3 f4 f5⟩
  self := fun A i s Q E st h => let ⟨⟨_, he⟩, _⟩ := st; wpAny_pyIter_enum he h
def iEnumA (K : PySem.W.Frag) (ta : TA) : TI := fun σ H R => ta σ H fun vs H1 => ∃ a xs, vs = [.ref a] ∧ ((SqL K H1 a xs ∧ R (Ite K a) H1) ∨ (SqT K H1 a xs ∧ R (IteT K a) H1))
theorem pi_enumA {X : Cx} {e : Expr} {ta : TA} {p pos tpos : Pos} {elts : List Expr} {kk : Nat} (hg : Gl X "enumerate") (hm : X.mg "enumerate" = none) (ha : PA X [e] ta) (hs : starEach [e] X.env = [(false, eval e X.env)] := by rfl) :
    PI X (.Tuple elts kk tpos) (.Call (.Name "enumerate" p) [e] [] pos) (iEnumA X.K ta) := by
  refine ⟨fun pins s σ H R I h => ?_⟩
  refine Call_ (ld_blt I hg hm boot_enumerate (PyProof.Rows.callWith_type1 (thn (ha.run pos pins s σ H _ I h) fun us s1 ⟨vs, H1, I1, r1, q1⟩ => ?_) hs rfl))
  obtain ⟨a, xs, ex, q⟩ := q1
  subst ex
  cases r1 with
  | cons r rr =>
    cases rr
    cases r
    rcases q with ⟨hq, q⟩ | ⟨hq, q⟩
    · obtain ⟨its, rv, p', hz⟩ := I1.list hq
      refine call_enumerate_list p'.isList fun h' he hit hsz hk => wpAny_pyIter_enum he ?_
      have I2 : Inv X pins σ H1 { s1 with heap := h' } := I1.kept (t' := s1.toks) hk
      refine ⟨s1.heap.objs.size + 1, [s1.heap.objs.size + 1, s1.heap.objs.size], _, _, H1, rfl, I2, turn_enum a (s1.heap.objs.size + 1) s1.heap.objs.size, ⟨⟨.none, he⟩, hit, Nat.succ_ne_self _⟩, fun b hb => ?_, q⟩
      have e' : b = s1.heap.objs.size + 1 ∨ b = s1.heap.objs.size := by simpa using hb
      have hle : s1.heap.objs.size ≤ b := by
        rcases e' with z | z
        · rw [z]; exact Nat.le_add_right _ _
        · rw [z]; exact Nat.le_refl _
      exact I1.fpOk hle (I1.hok.fresh hle)
    · obtain ⟨its, rv, p', hz⟩ := I1.tuple hq
      refine call_enumerate_tuple p' fun h' he hit hsz hk => wpAny_pyIter_enum he ?_
      have I2 : Inv X pins σ H1 { s1 with heap := h' } := I1.kept (t' := s1.toks) hk
      refine ⟨s1.heap.objs.size + 1, [s1.heap.objs.size + 1, s1.heap.objs.size], _, _, H1, rfl, I2, turn_enumT a (s1.heap.objs.size + 1) s1.heap.objs.size, ⟨⟨.none, he⟩, hit, Nat.succ_ne_self _⟩, fun b hb => ?_, q⟩
      have e' : b = s1.heap.objs.size + 1 ∨ b = s1.heap.objs.size := by simpa using hb
      have hle : s1.heap.objs.size ≤ b := by
        rcases e' with z | z
        · rw [z]; exact Nat.le_add_right _ _
        · rw [z]; exact Nat.le_refl _
      exact I1.fpOk hle (I1.hok.fresh hle)
/-- a list, a tuple or a text, whichever it is -/
def iSeq (K : PySem.W.Frag) (tl : TE) : TI := fun σ H R => tl σ H fun x H1 => (∃ a, x = .ref a ∧ (∃ xs, SqL K H1 a xs) ∧ R (Itl K a) H1) ∨ (∃ a, x = .ref a ∧ (∃ xs, SqT K H1 a xs) ∧ R (Itt K a) H1) ∨ ∃ z, x = .str z ∧ R (Its z) H1
theorem pi_seq {X : Cx} {tg l : Expr} {tl : TE} (hl : PE X l tl) : PI X tg l (iSeq X.K tl) := by
  refine ⟨fun pins s σ H R I h => ?_⟩
  refine thn (hl.run pins s σ H _ I h) fun v s1 ⟨x, H1, I1, r1, q1⟩ => ?_
  rcases q1 with ⟨a, e, ⟨xs, hq⟩, q⟩ | ⟨a, e, ⟨xs, hq⟩, q⟩ | ⟨z, e, q⟩
  · subst e
    cases r1
    obtain ⟨its, rv, p, hz⟩ := I1.list hq
    refine wpAny_pyIter_list p.isList ?_
    refine ⟨s1.heap.objs.size, [s1.heap.objs.size], _, _, H1, rfl, I1.kept (t' := s1.toks) fun b o e => Heap.get?_push_of_some _ e, turn_list a _, ⟨_, Heap.get?_push_size _ rfl, rfl, rfl⟩, fun b hb => ?_, q⟩
    have e : b = s1.heap.objs.size := by simpa using hb
    subst e
    exact I1.fpOk (Nat.le_refl _) (I1.hok.fresh (Nat.le_refl _))
  · subst e
    cases r1
    obtain ⟨its, rv, p, hz⟩ := I1.tuple hq
    refine wpAny_pyIter_tuple (show s1.heap.IsTuple a its.toArray from p) ?_
    refine ⟨s1.heap.objs.size, [s1.heap.objs.size], _, _, H1, rfl, I1.kept (t' := s1.toks) fun b o e => Heap.get?_push_of_some _ e, turn_tuple a _, ⟨_, Heap.get?_push_size _ rfl, rfl, rfl⟩, fun b hb => ?_, q⟩
    have e : b = s1.heap.objs.size := by simpa using hb
    subst e
    exact I1.fpOk (Nat.le_refl _) (I1.hok.fresh (Nat.le_refl _))
  · subst e
    obtain ⟨t, rfl⟩ := r1
    cases ha : z.cps.all (· < 128)
    · exact wpAny_pyIter_wide ha (pi_one (tk := s1.toks) I1 _ (turn_str _ z t "str_iterator" (.inr rfl)) ⟨_, Heap.get?_push_size _ rfl, rfl, rfl⟩ q)
    · exact wpAny_pyIter_ascii ha (pi_one (tk := s1.toks) I1 _ (turn_str _ z t "str_ascii_iterator" (.inl rfl)) ⟨_, Heap.get?_push_size _ rfl, rfl, rfl⟩ q)
end Lay
/-! Objects of own classes: methods called by position and by name, new instances; their defs are kept where no repr is under way. -/
namespace Lay
open PySem PySem.Spec PyProof.Rows L2
/-- a method m of the class at C that keeps a promise; ds fill up what is not passed -/
structure HasM (P : Program) (w : World) (K : PySem.W.Frag) (mg : Str → Option Value) (base : Heap) (k : Nat) (C : Addr) (m : Str) (ps : List Str) (dvs : List V) (sp : Sp) : Prop where
  ex : ∃ f fd ds, FnG P w K mg base CX0 k f fd ps sp ∧ Meth K C m f ∧ Binds K fd ps ds ∧ Vals dvs ds
  cl : Cls K C
/-- .. by names: g puts the named values in the parameters' order -/
structure HasMK (P : Program) (w : World) (K : PySem.W.Frag) (mg : Str → Option Value) (base : Heap) (k : Nat) (C : Addr) (m : Str) (ps ks : List Str) (g : List V → List V) (sp : Sp) : Prop where
  ex : ∃ (f : Addr) (fd : FuncData) (gu : List Value → List Value), FnG P w K mg base CX0 k f fd ps sp ∧ Meth K C m f ∧
    (∀ (s : Shared) (self : Value) (ws : List Value), K.In s.heap → ws.length = ks.length → BindsTo s fd ⟨[self], ks.zip ws⟩ (ps.zip (self :: gu ws))) ∧ (∀ vs us, vs.length = ks.length → Vals vs us → Vals (g vs) (gu us))
  cl : Cls K C
/-- a class whose __init__ keeps a promise -/
structure HasC (P : Program) (w : World) (K : PySem.W.Frag) (mg : Str → Option Value) (base : Heap) (k : Nat) (x : Str) (C : Addr) (ps : List Str) (sp : Sp) : Prop where
  ex : ∃ f fd, FnG P w K mg base CX0 k f fd ps sp ∧ Mk K C f ∧ Binds K fd ps []
  gm : mg x = some (.ref C)
section
variable {X : Cx} {k : Nat} {C : Addr} {ps ks : List Str} {sp : Sp} {dvs : List V} {m x : Str} {p pos apos : Pos} {e o : Expr} {es : List Expr} {ta : TE} {t : TA} {kws : List Keyword} {g : List V → List V}
theorem pe_m {pl : Sem Bool} (D : HasM X.prog X.w X.K X.mg X.base k C m ps dvs sp) (hr : Room k X.A) (hq : Quiet X.A) (he : PE X o ta) (ha : PA X (e :: es) t)
    (hst : starEach (e :: es) X.env = (false, eval e X.env) :: starEach es X.env := by rfl) (hpl : (backTo pos (starEach es X.env)).any (·.1) = false := by rfl)
    (ht : eval (.Call (.Attribute o m apos) (e :: es) [] pos) X.env = (do
      let ov ← eval o X.env
      standAt apos.atName
      let (f, first) ← holding [ov] (getMethod ov m pl)
      callWith pos f first (backTo pos (starEach (e :: es) X.env)) (backToKw pos (keywordEach [] X.env))) := by rfl) :
    PE X (.Call (.Attribute o m apos) (e :: es) [] pos) (tMeth C m sp dvs E0 ta t) := by
  obtain ⟨⟨f, fd, ds, F, hm, hb, hd⟩, c⟩ := D
  refine ⟨fun pins s σ H Q I h => ?_⟩
  refine PySem.W.methodCall_KW (pl := pl) (thn (he.run pins s σ H _ I h) fun u s1 ⟨x, H1, I1, rx, a, dx, fs, ex, ea, l, q⟩ => ?_) ht
  subst ex
  obtain rfl : u = Value.ref a := rx
  refine getmeth_ok I1 ea c hm l ?_
  refine PySem.W.callWith_K (first := [.ref a]) (h₀ := X.base) I.ok.mod.kin hm.kp (thn (ha.run pos pins s1 σ H1 _ I1 q) fun us s2 ⟨vs, H2, I2, r, q2⟩ => ⟨I2.kIn, ?_⟩) hst hpl
  exact runG (us := .ref a :: us) (vs := .ref a :: vs) F hr hq hb hd pass0 I2 (.cons rfl r) q2
theorem pe_m0 {pl : Sem Bool} (D : HasM X.prog X.w X.K X.mg X.base k C m ps dvs sp) (hr : Room k X.A) (hq : Quiet X.A) (he : PE X o ta)
    (ht : eval (.Call (.Attribute o m apos) [] [] pos) X.env = (do
      let ov ← eval o X.env
      standAt apos.atName
      let (f, first) ← holding [ov] (getMethod ov m pl)
      callWith pos f first (backTo pos (starEach [] X.env)) (backToKw pos (keywordEach [] X.env))) := by rfl) :
    PE X (.Call (.Attribute o m apos) [] [] pos) (tMeth C m sp dvs E0 ta tNil) := by
  obtain ⟨⟨f, fd, ds, F, hm, hb, hd⟩, c⟩ := D
  refine ⟨fun pins s σ H Q I h => ?_⟩
  refine PySem.W.methodCall_KW (pl := pl) (thn (he.run pins s σ H _ I h) fun u s1 ⟨x, H1, I1, rx, a, dx, fs, ex, ea, l, q⟩ => ?_) ht
  subst ex
  obtain rfl : u = Value.ref a := rx
  refine getmeth_ok I1 ea c hm l ?_
  exact PySem.W.callWith_K0 (first := [.ref a]) I1.kIn hm.kp (runG (us := [.ref a]) (vs := [.ref a]) F hr hq hb hd pass0 I1 (.cons rfl .nil) q)
/-- o.m(k = v, ..) -/
def tMethK (C : Addr) (m : Str) (n : Nat) (g : List V → List V) (sp : Sp) (ta : TE) (t : TA) : TE := fun σ H Q => ta σ H fun x H1 => ∃ a dx fs, x = .ref a ∧ H1 a = some (.ins C dx fs) ∧ fs.lookup m = none ∧
  t σ H1 fun vs H2 => vs.length = n ∧ sp (x :: g vs) H2 Q E0
theorem pe_mk {pl : Sem Bool} (D : HasMK X.prog X.w X.K X.mg X.base k C m ps ks g sp) (hr : Room k X.A) (hq : Quiet X.A) (he : PE X o ta) (hkw : PK X kws t)
    (hks : (backToKw pos (keywordEach kws X.env)).filterMap (·.1) = ks := by rfl)
    (hall : (backToKw pos (keywordEach kws X.env)).all (·.1.isSome) = true := by rfl)
    (hpl : ((backTo pos (starEach [] X.env)).any (·.1) || (backToKw pos (keywordEach kws X.env)).any (·.1.isNone)) = false := by rfl)
    (ht : eval (.Call (.Attribute o m apos) [] kws pos) X.env = (do
      let ov ← eval o X.env
      standAt apos.atName
      let (f, first) ← holding [ov] (getMethod ov m pl)
      callWith pos f first (backTo pos (starEach [] X.env)) (backToKw pos (keywordEach kws X.env))) := by rfl) :
    PE X (.Call (.Attribute o m apos) [] kws pos) (tMethK C m ks.length g sp ta t) := by
  obtain ⟨⟨f, fd, gu, F, hm, hb, hg⟩, c⟩ := D
  refine ⟨fun pins s σ H Q I h => ?_⟩
  refine PySem.W.methodCall_KW (pl := pl) (thn (he.run pins s σ H _ I h) fun u s1 ⟨x, H1, I1, rx, a, dx, fs, ex, ea, l, q⟩ => ?_) ht
  subst ex
  obtain rfl : u = Value.ref a := rx
  refine getmeth_ok I1 ea c hm l ?_
  refine PySem.W.callWith_KW0 (first := [.ref a]) (h₀ := X.base) I.ok.mod.kin hm.kp hall (thn (hkw.run pos pins s1 σ H1 _ I1 q) ?_) hpl
  rintro ws s2 ⟨vs, H2, I2, r, hl, q2⟩
  refine ⟨I2.kIn, ?_⟩
  rw [hks]
  have r2 : Vals (V.ref a :: g vs) (Value.ref a :: gu ws) := .cons rfl (hg vs ws hl r)
  have main := F.run X.A X.stack s2 H2 ⟨[.ref a], ks.zip ws⟩ (Value.ref a :: gu ws) (V.ref a :: g vs) Q E0 hr hq (Inv.env0 I2) (hb s2 (.ref a) ws I2.kIn (by rw [← r.length]; exact hl)) r2 q2
  refine wpAny_call (codeAny_mono main ?_)
  intro r s' hh
  have z := back pass0 I2 r s' hh
  rcases r with b | fl
  · exact z
  · cases fl <;> exact z
theorem run_makeG {pins : List (Addr × Obj)} {σ : L2.St} {H : Hp} {s : Shared} {Q : VK} {us : List Value} {vs : List V} (D : HasC X.prog X.w X.K X.mg X.base k x C ps sp) (hr : Room (k + 1) X.A) (hq : Quiet X.A)
    (I : Inv X pins σ H s) (r : Vals vs us)
    (h : ∀ x dx, H x = none → H dx = none → dx ≠ x → sp (.ref x :: vs) (upd (upd H dx (.own x)) x (.ins C dx [])) (fun v H2 => v = .non ∧ Q (.ref x) H2) E0) :
    wpAny (model X.prog X.w) X.A (call (.ref C) us) (EP X pins σ Q) X.xe s := by
  obtain ⟨⟨f, fd, F, M, hb⟩, _⟩ := D
  have hq' := h (s.heap.objs.size + 1) s.heap.objs.size (I.hok.fresh (Nat.le_succ _)) (I.hok.fresh (Nat.le_refl _)) (Nat.ne_of_lt (Nat.lt_succ_self _))
  have I2 := Inv.made (C := C) I
  have r2 : Vals (V.ref (s.heap.objs.size + 1) :: vs) (Value.ref (s.heap.objs.size + 1) :: us) := .cons rfl r
  have hl : (Value.ref (s.heap.objs.size + 1) :: us).length = ps.length := by
    have e := r2.length
    rw [F.len _ _ _ _ hq'] at e
    exact e.symm
  have hb' := hb { s with heap := (s.heap.push PySem.W.emptyDict).push (PySem.W.instObj C s.heap.objs.size) } (Value.ref (s.heap.objs.size + 1) :: us) I2.kIn (by rw [List.append_nil]; exact hl)
  rw [List.append_nil] at hb'
  have quiet : Quiet (X.A.under (.builtin "type.__call__" ⟨.ref C :: us, []⟩)) := by
    show (X.A.under (.builtin "type.__call__" ⟨.ref C :: us, []⟩)).guards = some []
    have : X.A.guards = some [] := hq
    first
      | exact this
      | (simp only [Around.under]; exact this)
      | simp [Around.under, Code.isGuard, guardIds, this]
  refine wpAny_call (make_map (f := f) I.kIn M.makes M.init (beq_iff_eq.mp M.fn) (codeAny_mono (F.run _ X.stack _ _ ⟨Value.ref (s.heap.objs.size + 1) :: us, []⟩ (Value.ref (s.heap.objs.size + 1) :: us) _ _ E0 (hr.make C us []) quiet
    (I2.env0.make C us []) hb' r2 hq') fun r s' hq2 => ?_))
  cases r with
  | error e => exact hq2.elim
  | ok fl =>
    cases fl with
    | ret u =>
      obtain ⟨v, H', I3, rv, ev, q3⟩ := I2.after hq2
      subst ev
      exact ⟨rv, ⟨V.ref (s.heap.objs.size + 1), H', I3, rfl, q3⟩⟩
    | next => exact False.elim hq2
    | brk => exact False.elim hq2
    | cont => exact False.elim hq2
theorem pe_mkG (D : HasC X.prog X.w X.K X.mg X.base k x C ps sp) (hr : Room (k + 1) X.A) (hq : Quiet X.A) (ha : PA X (e :: es) t) (hg : Gl X x := by rfl)
    (hdb : (x == ("__debug__" : Str)) = false := by decide) (he : starEach (e :: es) X.env = (false, eval e X.env) :: starEach es X.env := by rfl) (hpl : (backTo pos (starEach es X.env)).any (·.1) = false := by rfl) :
    PE X (.Call (.Name x p) (e :: es) [] pos) (tMake C sp [] E0 t) := by
  refine ⟨fun pins s σ H Q I h => ?_⟩
  refine wpAny_Call_Name_kw (ld_glob I hg D.gm ?_ hdb)
  obtain ⟨⟨f, fd, F, M, hb⟩, _⟩ := id D
  refine PySem.W.callWith_K (h₀ := X.base) I.ok.mod.kin M.kp (thn (ha.run pos pins s σ H _ I h) fun us s1 ⟨vs, H1, I1, r, q⟩ => ⟨I1.kIn, ?_⟩) he hpl
  refine run_makeG D hr hq I1 r fun x dx h1 h2 h3 => ?_
  have := q x dx h1 h2 h3
  rw [List.append_nil] at this
  exact this
end
end Lay
/-! What is walked; all, any, sum, repr; methods of lists and texts; fields, own methods, new instances. -/
namespace LA
open PySem PySem.Spec PyProof.Rows L2 Lay
section
variable {X : Cx} {K : PySem.W.Frag}
theorem PI.to {tg iter : Expr} {t t' : TI} (h : PI X tg iter t) (m : ∀ σ H R, t' σ H R → t σ H R) : PI X tg iter t' := ⟨fun pins s σ H R I w => h.run pins s σ H R I (m σ H R w)⟩
def signs (z : Str) : List D := z.cps.toList.map fun c => .str ⟨#[c]⟩
def walkOf (M : Mem) : D → Option Walk
  | .lst ds => some ⟨ds, fun _ => True⟩
  | .scr ds => some ⟨ds, fun _ => True⟩
  | .tup ds => some ⟨ds, fun _ => True⟩
  | .str z => some ⟨signs z, fun _ => True⟩
  | .ref a => match M a with
    | some (.lst ds) => some ⟨ds, fun M' => M' a = some (.lst ds)⟩
    | _ => none
  | _ => none
def aSeqW (ae : AE) : AI := fun Γ M Wp => ae Γ M fun d M1 => ∃ w, walkOf M1 d = some w ∧ Wp w M1
theorem walks_L {N : Addr → Prop} {M : Mem} {H : Hp} {a : Addr} {ds : List D} {stay : Mem → Prop}
    (h : ∀ N' M' H', Sam (imm N M H) (imm N' M' H') → MOk K N' M' H' → stay M' → ∃ xs, SqL K H' a xs ∧ RepA K (imm N' M' H') xs ds) : Walks K N M H (Itl K a) ⟨ds, stay⟩ := by
  intro i N' M' H' s m st
  obtain ⟨xs, hx, r⟩ := h N' M' H' s m st
  have hl := r.len
  refine ⟨fun hi => ?_, fun hi => ⟨xs, hx, by rw [hl]; exact Nat.le_of_eq hi⟩⟩
  have hi' : i < xs.length := by rw [hl]; exact hi
  refine ⟨⟨xs, xs[i], hx, List.getElem?_eq_getElem hi'⟩, ?_⟩
  rintro x H2 ⟨rfl, hy⟩
  obtain ⟨d, h1, h2⟩ := r.get (hy xs hx)
  exact ⟨m, .refl, d, h1, h2⟩
theorem walks_T {N : Addr → Prop} {M : Mem} {H : Hp} {a : Addr} {ds : List D}
    (h : ∀ N' M' H', Sam (imm N M H) (imm N' M' H') → ∃ xs, SqT K H' a xs ∧ RepA K (imm N' M' H') xs ds) : Walks K N M H (Itt K a) ⟨ds, fun _ => True⟩ := by
  intro i N' M' H' s m st
  obtain ⟨xs, hx, r⟩ := h N' M' H' s
  have hl := r.len
  refine ⟨fun hi => ?_, fun hi => ⟨xs, hx, by rw [hl]; exact Nat.le_of_eq hi⟩⟩
  have hi' : i < xs.length := by rw [hl]; exact hi
  refine ⟨⟨xs, xs[i], hx, List.getElem?_eq_getElem hi'⟩, ?_⟩
  rintro x H2 ⟨rfl, hy⟩
  obtain ⟨d, h1, h2⟩ := r.get (hy xs hx)
  exact ⟨m, .refl, d, h1, h2⟩
theorem walks_S {N : Addr → Prop} {M : Mem} {H : Hp} {z : Str} : Walks K N M H (Its z) ⟨signs z, fun _ => True⟩ := by
  intro i N' M' H' s m st
  have e : (signs z).length = z.cps.size := by simp [signs]
  refine ⟨fun hi => ⟨by show i < z.cps.size; have h2 : i < (signs z).length := hi; omega, ?_⟩, fun hi => by show z.cps.size ≤ i; have h2 : (signs z).length = i := hi; omega⟩
  rintro x H2 ⟨rfl, c, hc, rfl⟩
  refine ⟨m, .refl, .str ⟨#[c]⟩, ?_, .str _⟩
  show (signs z)[i]? = _
  unfold signs
  rw [List.getElem?_map, Array.getElem?_toList, hc]
  rfl
theorem ai_seq {tg l : Expr} {ae : AE} (hl : PE X l (cE K ae)) (h : X.K = K := by rfl) : PI X tg l (cI K (aSeqW ae)) := by
  subst h
  refine PI.to (pi_seq hl) ?_
  rintro σ H R ⟨N, M, Γ, Wp, o, q, k⟩
  refine ⟨N, M, Γ, _, o, q, ?_⟩
  rintro v d H1 M1 e1 m1 r1 ⟨w, ew, q1⟩
  unfold walkOf at ew
  split at ew
  · cases ew
    cases r1 with
    | lst h r => exact .inl ⟨_, rfl, ⟨_, .inl (.inl (imm_sub _ _ h))⟩, k _ H1 M1 _ e1 m1 (walks_L fun N' M' H' s m _ => ⟨_, .inl (.inl (imm_sub _ _ (seqP s h))), r.sub s⟩) q1⟩
  · cases ew
    cases r1 with
    | scr h r => exact .inl ⟨_, rfl, ⟨_, seqL (.of imm_sub) h⟩, k _ H1 M1 _ e1 m1 (walks_L fun N' M' H' s m _ => ⟨_, seqL (.of imm_sub) (seqL s h), r.sub s⟩) q1⟩
  · cases ew
    cases r1 with
    | tup h r => exact .inr (.inl ⟨_, rfl, ⟨_, seqT (.of imm_sub) h.sq⟩, k _ H1 M1 _ e1 m1 (walks_T fun N' M' H' s => ⟨_, seqT (.of imm_sub) (seqT s h.sq), r.sub s⟩) q1⟩)
  · cases ew
    cases r1
    exact .inr (.inr ⟨_, rfl, k _ H1 M1 _ e1 m1 walks_S q1⟩)
  · rename_i a
    split at ew
    · rename_i ds ea
      cases ew
      cases r1
      obtain ⟨vs, h, r⟩ := m1.mo a _ ea
      refine .inl ⟨_, rfl, ⟨_, .inl (.inl h)⟩, k _ H1 M1 _ e1 m1 (walks_L fun N' M' H' s m st => ?_) q1⟩
      obtain ⟨vs', h', r'⟩ := m.mo a _ st
      exact ⟨vs', .inl (.inl h'), r'⟩
    · cases ew
  · cases ew
/-! ### ranges -/
def intsD (lo : Int) (n : Nat) : List D := (List.range n).map fun (i : Nat) => .int (lo + i)
theorem intsD_at {lo : Int} {n i : Nat} (h : i < n) : (intsD lo n)[i]? = some (.int (lo + i)) := by
  unfold intsD
  rw [List.getElem?_map, List.getElem?_range h]
  rfl
theorem intsD_len {lo : Int} {n : Nat} : (intsD lo n).length = n := by simp [intsD]
theorem walks_R {N : Addr → Prop} {M : Mem} {H : Hp} {lo : Int} {n : Nat} : Walks K N M H (Itr lo n) ⟨intsD lo n, fun _ => True⟩ := by
  intro i N' M' H' s m st
  refine ⟨fun hi => ?_, fun hi => by show n ≤ i; have : (intsD lo n).length = i := hi; rw [intsD_len] at this; omega⟩
  have hi' : i < n := by have : i < (intsD lo n).length := hi; rwa [intsD_len] at this
  refine ⟨hi', ?_⟩
  rintro x H2 ⟨rfl, rfl⟩
  exact ⟨m, .refl, _, intsD_at hi', .int _⟩
def aRng1 (aa : AA) : AI := fun Γ M Wp => aa Γ M fun ds M1 => ∃ j : Int, ds = [.int j] ∧ -(2 ^ 62) ≤ j ∧ j < 2 ^ 62 ∧ Wp ⟨intsD 0 j.toNat, fun _ => True⟩ M1
def aRng2 (aa : AA) : AI := fun Γ M Wp => aa Γ M fun ds M1 => ∃ i j : Int, ds = [.int i, .int j] ∧ (-(2 ^ 62) ≤ i ∧ i < 2 ^ 62 ∧ -(2 ^ 62) ≤ j ∧ j < 2 ^ 62) ∧ Wp ⟨intsD i (j - i).toNat, fun _ => True⟩ M1
theorem ai_rng1 {tg a : Expr} {aa : AA} {p pos : Pos} (hm : X.mg "range" = none) (ha : PA X [a] (cA K aa)) (hg : Gl X "range" := by rfl) (hs : starEach [a] X.env = [(false, eval a X.env)] := by rfl) : PI X tg (.Call (.Name "range" p) [a] [] pos) (cI K (aRng1 aa)) := by
  refine PI.to (pi_range1 hg hm ha hs) ?_
  rintro σ H R ⟨N, M, Γ, Wp, o, q, k⟩
  refine ⟨N, M, Γ, _, o, q, ?_⟩
  rintro vs ds H1 M1 e1 m1 r1 ⟨j, rfl, h1, h2, q1⟩
  cases r1 with
  | cons r2 r3 =>
    cases r2
    cases r3
    exact ⟨j, rfl, h1, h2, k _ H1 M1 _ e1 m1 walks_R q1⟩
theorem ai_rng2 {tg a b : Expr} {aa : AA} {p pos : Pos} (hm : X.mg "range" = none) (ha : PA X [a, b] (cA K aa)) (hg : Gl X "range" := by rfl) (hs : starEach [a, b] X.env = [(false, eval a X.env), (false, eval b X.env)] := by rfl) (hs2 : starEach [b] X.env = [(false, eval b X.env)] := by rfl) :
    PI X tg (.Call (.Name "range" p) [a, b] [] pos) (cI K (aRng2 aa)) := by
  refine PI.to (pi_range2 hg hm ha hs hs2) ?_
  rintro σ H R ⟨N, M, Γ, Wp, o, q, k⟩
  refine ⟨N, M, Γ, _, o, q, ?_⟩
  rintro vs ds H1 M1 e1 m1 r1 ⟨i, j, rfl, h1, q1⟩
  cases r1 with
  | cons r2 r3 => cases r3 with
    | cons r4 r5 =>
      cases r2
      cases r4
      cases r5
      exact ⟨i, j, rfl, h1, k _ H1 M1 _ e1 m1 walks_R q1⟩
/-! ### enumerate -/
def enumL : Nat → List D → List D
  | _, [] => []
  | k, d :: r => .par [.int (k : Nat), d] :: enumL (k + 1) r
theorem enumL_at : ∀ (ds : List D) (k i : Nat), (enumL k ds)[i]? = ds[i]?.map fun d => .par [.int ((k + i : Nat) : Int), d]
  | [], _, _ => by simp [enumL]
  | d :: r, k, 0 => by simp [enumL]
  | d :: r, k, i + 1 => by
    rw [enumL, List.getElem?_cons_succ, List.getElem?_cons_succ, enumL_at r (k + 1) i]
    have : k + 1 + i = k + (i + 1) := by omega
    rw [this]
theorem enumL_len : ∀ (ds : List D) (k : Nat), (enumL k ds).length = ds.length
  | [], _ => rfl
  | d :: r, k => by rw [enumL, List.length_cons, List.length_cons, enumL_len r]
def aEnum (aa : AA) : AI := fun Γ M Wp => aa Γ M fun xs M1 => ∃ d ds, xs = [d] ∧ seqD d = some ds ∧ Wp ⟨enumL 0 ds, fun _ => True⟩ M1
theorem ai_enum {e : Expr} {aa : AA} {p pos tpos : Pos} {elts : List Expr} {kk : Nat} (hm : X.mg "enumerate" = none) (ha : PA X [e] (cA K aa)) (hg : Gl X "enumerate" := by rfl) (hs : starEach [e] X.env = [(false, eval e X.env)] := by rfl) (h : X.K = K := by rfl) :
    PI X (.Tuple elts kk tpos) (.Call (.Name "enumerate" p) [e] [] pos) (cI K (aEnum aa)) := by
  subst h
  refine PI.to (pi_enumA hg hm ha hs) ?_
  rintro σ H R ⟨N, M, Γ, Wp, o, q, k⟩
  refine ⟨N, M, Γ, _, o, q, ?_⟩
  rintro vs xs H1 M1 e1 m1 r1 ⟨d, ds, rfl, es, q1⟩
  cases r1 with
  | cons r2 r3 =>
    cases r3
    have pair : ∀ {N' : Addr → Prop} {M' : Mem} {H' H2 : Hp} {i : Nat} {x : V} {T : Addr} {ys : List V}, MOk X.K N' M' H' → RepA X.K (imm N' M' H') ys ds → ys[i]? = some x → H' T = none → H2 = upd H' T (.tup [.int (i : Nat), x]) →
        MOk X.K N' M' H2 ∧ Ext N' M' H' M' H2 ∧ ∃ d, (enumL 0 ds)[i]? = some d ∧ Rep X.K (imm N' M' H2) (.ref T) d := by
      intro N' M' H' H2 i x T ys m r hx hT e
      subst e
      obtain ⟨m2, e2, i2⟩ := m.new hT (.tup [.int (i : Nat), x])
      obtain ⟨d, hd, rd⟩ := r.get hx
      refine ⟨m2, e2, .par [.int (i : Nat), d], ?_, .par (.inl (.inl i2)) (.cons (.int _) (.cons (rd.sub e2.im) .nil))⟩
      rw [enumL_at, hd]
      simp
    unfold seqD at es
    split at es
    · cases es
      cases r2 with
      | @lst _ ys _ hs ra =>
        refine ⟨_, _, rfl, .inl ⟨.inl (.inl (imm_sub _ _ hs)), k _ H1 M1 _ e1 m1 ?_ q1⟩⟩
        intro i N' M' H' s m _
        have hs' := seqP s hs
        have ra' := ra.sub s
        refine ⟨fun hi => ?_, fun hi => ⟨_, .inl (.inl (imm_sub _ _ hs')), by rw [ra'.len]; rw [← enumL_len _ 0]; exact Nat.le_of_eq hi⟩⟩
        have hi' : i < ys.length := by have h2 : i < (enumL 0 ds).length := hi; rw [enumL_len, ← ra'.len] at h2; exact h2
        refine ⟨⟨_, _, .inl (.inl (imm_sub _ _ hs')), List.getElem?_eq_getElem hi'⟩, ?_⟩
        rintro v H2 ⟨T, x, rfl, hT, e2, hx⟩
        exact pair m ra' (hx _ (.inl (.inl (imm_sub _ _ hs')))) hT e2
    · cases es
      cases r2 with
      | @scr _ ys _ hs ra =>
        refine ⟨_, _, rfl, .inl ⟨seqL (.of imm_sub) hs, k _ H1 M1 _ e1 m1 ?_ q1⟩⟩
        intro i N' M' H' s m _
        have hs' := seqL (.of imm_sub) (seqL s hs)
        have ra' := ra.sub s
        refine ⟨fun hi => ?_, fun hi => ⟨_, hs', by rw [ra'.len]; rw [← enumL_len _ 0]; exact Nat.le_of_eq hi⟩⟩
        have hi' : i < ys.length := by have h2 : i < (enumL 0 ds).length := hi; rw [enumL_len, ← ra'.len] at h2; exact h2
        refine ⟨⟨_, _, hs', List.getElem?_eq_getElem hi'⟩, ?_⟩
        rintro v H2 ⟨T, x, rfl, hT, e2, hx⟩
        exact pair m ra' (hx _ hs') hT e2
    · cases es
      cases r2 with
      | @tup _ ys _ hs ra =>
        refine ⟨_, _, rfl, .inr ⟨seqT (.of imm_sub) hs.sq, k _ H1 M1 _ e1 m1 ?_ q1⟩⟩
        intro i N' M' H' s m _
        have hs' : SqT X.K H' _ _ := seqT (.of imm_sub) (seqT s hs.sq)
        have ra' := ra.sub s
        refine ⟨fun hi => ?_, fun hi => ⟨_, hs', by rw [ra'.len]; rw [← enumL_len _ 0]; exact hi⟩⟩
        have hi' : i < ys.length := by have h2 : i < (enumL 0 ds).length := hi; rw [enumL_len, ← ra'.len] at h2; exact h2
        refine ⟨⟨_, _, hs', List.getElem?_eq_getElem hi'⟩, ?_⟩
        rintro v H2 ⟨T, x, rfl, hT, e2, hx⟩
        exact pair m ra' (hx _ hs') hT e2
    · cases es
/-! ### all, any, sum -/
def bools : List D → Option (List Bool)
  | [] => some []
  | .bl b :: r => (bools r).map (b :: ·)
  | _ => none
def intsOf : List D → Option (List Int)
  | [] => some []
  | .int b :: r => (intsOf r).map (b :: ·)
  | _ => none
theorem bools_rep {F : Hp} : ∀ {vs : List V} {ds : List D} {bs : List Bool}, RepA K F vs ds → bools ds = some bs → vs = bs.map V.bl
  | _, _, _, .nil, e => by cases e; rfl
  | _, d :: _, bs, .cons h r, e => by
    cases d with
    | bl b =>
      cases h
      obtain ⟨cs, h1, rfl⟩ := Option.map_eq_some_iff.mp (show (bools _).map (b :: ·) = some bs from e)
      rw [bools_rep r h1]
      rfl
    | _ => cases e
theorem ints_rep {F : Hp} : ∀ {vs : List V} {ds : List D} {bs : List Int}, RepA K F vs ds → intsOf ds = some bs → vs = bs.map V.int
  | _, _, _, .nil, e => by cases e; rfl
  | _, d :: _, bs, .cons h r, e => by
    cases d with
    | int b =>
      cases h
      obtain ⟨cs, h1, rfl⟩ := Option.map_eq_some_iff.mp (show (intsOf _).map (b :: ·) = some bs from e)
      rw [ints_rep r h1]
      rfl
    | _ => cases e
def aAll : AL := fun xs M Q => ∃ d ds bs, xs = [d] ∧ view M d = .lst ds ∧ bools ds = some bs ∧ Q (.bl (bs.all id)) M
def aAny : AL := fun xs M Q => ∃ d ds bs, xs = [d] ∧ view M d = .lst ds ∧ bools ds = some bs ∧ Q (.bl (bs.any id)) M
def aSum : AL := fun xs M Q => ∃ d ds bs, xs = [d] ∧ view M d = .lst ds ∧ intsOf ds = some bs ∧ Q (.int bs.sum) M
theorem one_lst {N : Addr → Prop} {M : Mem} {H : Hp} {xs : List V} {d : D} {ds : List D} (m : MOk K N M H) (r : RepA K (imm N M H) xs [d]) (e : view M d = .lst ds) : ∃ a ys, xs = [.ref a] ∧ H a = some (.lst ys) ∧ RepA K (imm N M H) ys ds := by
  cases r with
  | cons r1 r2 =>
    cases r2
    have s := see m r1
    rw [e] at s
    cases s with
    | lst h ra => exact ⟨_, _, rfl, h, ra⟩
theorem s_all : SL K (rAll K) aAll := by
  rintro N M H xs ds Q Q' m r ⟨d, es, bs, rfl, e, eb, q⟩ k
  obtain ⟨a, ys, rfl, h, ra⟩ := one_lst m r e
  have := bools_rep ra eb
  subst this
  exact ⟨a, bs, rfl, .inl (.inl h), k.here m (.bl _) q⟩
theorem s_any : SL K (rAny K) aAny := by
  rintro N M H xs ds Q Q' m r ⟨d, es, bs, rfl, e, eb, q⟩ k
  obtain ⟨a, ys, rfl, h, ra⟩ := one_lst m r e
  have := bools_rep ra eb
  subst this
  exact ⟨a, bs, rfl, .inl (.inl h), k.here m (.bl _) q⟩
theorem s_sum : SL K (rSum K) aSum := by
  rintro N M H xs ds Q Q' m r ⟨d, es, bs, rfl, e, eb, q⟩ k
  obtain ⟨a, ys, rfl, h, ra⟩ := one_lst m r e
  have := ints_rep ra eb
  subst this
  exact ⟨a, bs, rfl, .inl (.inl h), k.here m (.int _) q⟩
theorem c_all (K : PySem.W.Frag) (hc : X.calm = true) (h : X.K = K := by rfl) : CallR X (.builtin "all") (rAll K) := h ▸ cr_all hc
theorem c_any (K : PySem.W.Frag) (hc : X.calm = true) (h : X.K = K := by rfl) : CallR X (.builtin "any") (rAny K) := h ▸ cr_any hc
theorem c_sum (K : PySem.W.Frag) (hc : X.calm = true) (h : X.K = K := by rfl) : CallR X (.builtin "sum") (rSum K) := h ▸ cr_sum hc
end
end LA
/-! Dict comprehensions, comprehensions with two fors; methods of lists and texts; fields, own methods, new instances. -/
namespace LA
open PySem PySem.Spec PyProof.Rows L2 Lay
/-- in its place, or at the end -/
def putD {κ : Type} [DecidableEq κ] (kvs : List (κ × D)) (k : κ) (d : D) : List (κ × D) :=
  if (kvs.any fun kv => decide (kv.1 = k)) = true then kvs.map (fun kv => if kv.1 = k then (kv.1, d) else kv) else kvs ++ [(k, d)]
section
variable {K : PySem.W.Frag} {F : Hp} {κ : Type} [DecidableEq κ]
theorem any_key {es : List (κ × V)} {kvs : List (κ × D)} (e : es.map (·.1) = kvs.map (·.1)) (k : κ) : (es.any fun kv => decide (kv.1 = k)) = kvs.any fun kv => decide (kv.1 = k) := by
  have h1 : (es.any fun kv => decide (kv.1 = k)) = (es.map (·.1)).any fun x => decide (x = k) := by rw [List.any_map]; rfl
  have h2 : (kvs.any fun kv => decide (kv.1 = k)) = (kvs.map (·.1)).any fun x => decide (x = k) := by rw [List.any_map]; rfl
  rw [h1, h2, e]
theorem put_rep {k : κ} {v : V} {d : D} (h : Rep K F v d) {es : List (κ × V)} {kvs : List (κ × D)} (e : es.map (·.1) = kvs.map (·.1)) (r : RepA K F (es.map (·.2)) (kvs.map (·.2))) :
    (putK es k v).map (·.1) = (putD kvs k d).map (·.1) ∧ RepA K F ((putK es k v).map (·.2)) ((putD kvs k d).map (·.2)) := by
  unfold putK putD
  rw [any_key e k]
  split
  · rename_i hz
    clear hz
    induction es generalizing kvs with
    | nil => cases kvs with
      | nil => exact ⟨rfl, .nil⟩
      | cons _ _ => simp at e
    | cons p t ih => cases kvs with
      | nil => simp at e
      | cons q u =>
        simp only [List.map_cons, List.cons.injEq] at e
        simp only [List.map_cons] at r
        cases r with
        | cons r1 r2 =>
          obtain ⟨i1, i2⟩ := ih e.2 r2
          simp only [List.map_cons]
          by_cases z : q.1 = k
          · have z' : p.1 = k := e.1.trans z
            rw [if_pos z, if_pos z']
            exact ⟨by rw [i1, e.1], .cons h i2⟩
          · have z' : ¬ p.1 = k := fun y => z (e.1.symm.trans y)
            rw [if_neg z, if_neg z']
            exact ⟨by rw [i1, e.1], .cons r1 i2⟩
  · simp only [List.map_append, List.map_cons, List.map_nil, e]
    exact ⟨trivial, r.app (.cons h .nil)⟩
end
def emptyD (tup : Bool) : D := if tup = true then .dT [] else .dK []
/-- a dict that a comprehension fills: with one item more -/
def putAny : D → D → D → Option D
  | .dK kvs, y, z => (keyOf y).map fun k => .dK (putD kvs k z)
  | .dT kvs, .tup ds, z => if ds.isEmpty = true then none else (keysOf ds).map fun k => .dT (putD kvs k z)
  | _, _, _ => none
def lenAny : D → Nat
  | .dK kvs => kvs.length
  | .dT kvs => kvs.length
  | _ => 0
def DcB (tup : Bool) (w : Walk) (ag : AG) (at' : AT) (ak av : AE) (vs : List Nat) (Γ : Sl) (M1 : Mem) (Q : D → Mem → Prop) : Prop := ∃ I : Nat → D → Mem → Prop, I 0 (emptyD tup) M1 ∧ (∀ i acc M, i ≤ w.items.length → I i acc M → w.stay M) ∧
  (∀ i d acc M, w.items[i]? = some d → I i acc M → ag d (wipeA Γ vs) M fun Γ2 M2 => at' Γ2 M2 fun b M3 => if b = true then ak Γ2 M3 fun y M4 => av Γ2 M4 fun z M5 => ∃ acc', putAny acc y z = some acc' ∧ lenAny acc < 1000000 ∧ I (i + 1) acc' M5 else I (i + 1) acc M3) ∧
  ∀ acc M, I w.items.length acc M → Q acc M
def aDc (tup : Bool) (ai : AI) (ag : AG) (at' : AT) (ak av : AE) (vs : List Nat) : AE := fun Γ M Q => ai Γ M fun w M1 => DcB tup w ag at' ak av vs Γ M1 Q
/-- a dict as it stands, its values over F -/
def DictIs (K : PySem.W.Frag) (F : Hp) (o : Option HO) : D → Prop
  | .dK kvs => ∃ es : List (Key × V), o = some (.dK es) ∧ es.map (·.1) = kvs.map (·.1) ∧ RepA K F (es.map (·.2)) (kvs.map (·.2))
  | .dT kvs => ∃ es : List (List Key × V), o = some (.dT es) ∧ es.map (·.1) = kvs.map (·.1) ∧ RepA K F (es.map (·.2)) (kvs.map (·.2))
  | _ => False
section
variable {X : Cx} {K : PySem.W.Frag} {pos : Pos} {N : Addr → Prop} {M M' : Mem} {H H' : Hp} {σ : L2.St} {Γ : Sl}
theorem DictIs.sub {F G : Hp} {o : Option HO} {d : D} (h : DictIs K F o d) (s : Sam F G) : DictIs K G o d := by
  cases d <;> simp only [DictIs] at h ⊢
  · obtain ⟨es, h1, h2, h3⟩ := h
    exact ⟨es, h1, h2, h3.sub s⟩
  · obtain ⟨es, h1, h2, h3⟩ := h
    exact ⟨es, h1, h2, h3.sub s⟩
theorem DictIs.rep {F : Hp} {a : Addr} {d : D} (h : DictIs K F (F a) d) : Rep K F (.ref a) d := by
  cases d <;> simp only [DictIs] at h
  · obtain ⟨es, h1, h2, h3⟩ := h
    exact .dK (.inl h1) h2 h3
  · obtain ⟨es, h1, h2, h3⟩ := h
    exact .dT (.inl h1) h2 h3
theorem putL {κ : Type} [DecidableEq κ] {es : List (κ × V)} {kvs : List (κ × D)} (e : es.map (·.1) = kvs.map (·.1)) : es.length = kvs.length := by
  have := congrArg List.length e
  simpa using this
theorem all_kV : ∀ ks : List Key, (ks.map kV).all isKV = true
  | [] => rfl
  | .inl _ :: r => by rw [List.map_cons, List.all_cons, all_kV r]; rfl
  | .inr _ :: r => by rw [List.map_cons, List.all_cons, all_kV r]; rfl
theorem keyV_of {F : Hp} {xs : List V} {ds : List D} {k : List Key} (r : RepA K F xs ds) (hk : keysOf ds = some k) (hne : ¬ ds.isEmpty = true) : keyV xs = true := by
  have := keys_v r hk
  unfold keyV
  rw [this, all_kV, Bool.and_true]
  have hl := r.len
  rw [this, List.length_map] at hl
  cases k with
  | nil =>
    cases ds with
    | nil => exact absurd rfl hne
    | cons _ _ => simp at hl
  | cons _ _ => rfl
/-- a dict is given one item more -/
theorem dput_run {F : Hp} {L : Addr} {acc acc' : D} {y z : D} {vy vz : V} (s : Sam F H) (hd : DictIs K F (H L) acc)
    (ry : Rep K F vy y) (rz : Rep K F vz z) (e : putAny acc y z = some acc') (hl : lenAny acc < 1000000) : ∃ u, DPut H L vy vz (upd H L u) ∧ DictIs K F (some u) acc' := by
  cases acc <;> simp only [DictIs] at hd
  case dK kvs =>
    obtain ⟨es, h1, h2, h3⟩ := hd
    simp only [putAny, Option.map_eq_some_iff] at e
    obtain ⟨k, hk, rfl⟩ := e
    have := key_v ry hk
    subst this
    have hl' : kvs.length < 1000000 := hl
    obtain ⟨p1, p2⟩ := put_rep (k := k) rz h2 h3
    exact ⟨_, DPut.k h1 (ltline _ (by rw [putL h2]; exact Nat.le_of_lt hl')), _, rfl, p1, p2⟩
  case dT kvs =>
    obtain ⟨es, h1, h2, h3⟩ := hd
    cases y <;> simp only [putAny, reduceCtorEq] at e
    rename_i ds
    split at e
    · cases e
    rename_i hne
    rw [Option.map_eq_some_iff] at e
    obtain ⟨k, hk, rfl⟩ := e
    cases ry with
    | tup hb ra =>
      have hx := keys_v ra hk
      subst hx
      have hl' : kvs.length < 1000000 := hl
      obtain ⟨p1, p2⟩ := put_rep (k := k) rz h2 h3
      exact ⟨_, DPut.t h1 (s.at (hb.key (keyV_of ra hk hne)) rfl (fun _ _ z => nomatch z) (fun _ _ z => nomatch z)) (ltline _ (by rw [putL h2]; exact Nat.le_of_lt hl')), _, rfl, p1, p2⟩
theorem bare_is {F : Hp} (tup : Bool) : DictIs K F (some (bare tup)) (emptyD tup) := by
  cases tup
  · exact ⟨[], rfl, rfl, .nil⟩
  · exact ⟨[], rfl, rfl, .nil⟩
theorem dc_run {ai : AI} {g : TG} {ag : AG} {at' : AT} {ak av : AE} {vs tv : List Nat} (tup : Bool) (ok : GOk K g ag tv) (sub : ∀ i ∈ tv, i ∈ vs) {Q : VK} (h : cE K (aDc tup ai ag at' ak av vs) σ H Q) : tDcP tup (cI K ai) g (cT K at') (cE K ak) (cE K av) vs σ H Q := by
  obtain ⟨N, M, Γ, Q', o, q, k⟩ := h
  refine ⟨N, M, Γ, _, o, q, ?_⟩
  rintro J H1 M1 w e1 m1 wk ⟨I, h0, hst, hstep, hend⟩ L hL
  obtain ⟨m1', s1⟩ := m1.hide (o := bare tup) hL
  refine ⟨fun i m H2 => m + i = w.items.length ∧ ∃ acc M2, I i acc M2 ∧ DictIs K (imm (fun b => N b ∨ b = L) M2 H2) (H2 L) acc ∧ MOk K (fun b => N b ∨ b = L) M2 H2 ∧
    Sam (imm N M1 H1) (imm (fun b => N b ∨ b = L) M2 H2) ∧ ∀ b, N b → H2 b = H1 b, ⟨w.items.length, rfl, _, M1, h0, by rw [upd_same]; exact bare_is tup, m1', s1, fun b n => upd_ne fun z => m1.nn b n (by rw [z]; exact hL)⟩, ?_⟩
  rintro i m H2 ⟨hm, acc, M2, i2, l2, m2, s2, hid2⟩
  obtain ⟨go, stop⟩ := wk i (fun b => N b ∨ b = L) M2 H2 s2 m2 (hst i acc M2 (by omega) i2)
  by_cases hlt : i < w.items.length
  · obtain ⟨g1, yl⟩ := go hlt
    refine .inr ⟨g1, fun H' => m - 1 + (i + 1) = w.items.length ∧ ∃ acc M2, I (i + 1) acc M2 ∧ DictIs K (imm (fun b => N b ∨ b = L) M2 H') (H' L) acc ∧ MOk K (fun b => N b ∨ b = L) M2 H' ∧
      Sam (imm N M1 H1) (imm (fun b => N b ∨ b = L) M2 H') ∧ ∀ b, N b → H' b = H1 b, fun H' z => ⟨m - 1, by omega, z⟩, fun x H3 y => ?_⟩
    obtain ⟨m3, e3, d, hd, rd⟩ := yl x H3 y
    have o3 : Ok K (fun b => N b ∨ b = L) M2 H3 (L2.wipe σ vs) (wipeA Γ vs) := ⟨m3, paired_wipe (paired_sub ((e1.im.trans s2).trans e3.im) o.sl)⟩
    refine ok o3 rd (hstep i d acc M2 hd i2) fun σ4 Γ4 hw o4 q4 => ⟨?_, ?_⟩
    · rw [hw vs sub, wipe_idem fun _ z => z]
    refine ⟨_, M2, Γ4, _, o4, q4, fun b H5 M5 e5 m5 q5 => ?_⟩
    have o5 := o4.go e5 m5
    have s5 := s2.trans (e3.im.trans e5.im)
    have l5 : DictIs K (imm (fun b => N b ∨ b = L) M5 H5) (H5 L) acc := by rw [e5.hid L (.inr rfl), e3.hid L (.inr rfl)]; exact l2.sub (e3.im.trans e5.im)
    have hid5 : ∀ b, N b → H5 b = H1 b := fun b n => by rw [e5.hid b (.inl n), e3.hid b (.inl n)]; exact hid2 b n
    cases b with
    | false =>
      rw [if_neg (by decide)] at q5
      exact iteF ⟨by omega, acc, M5, q5, l5, m5, s5, hid5⟩
    | true =>
      rw [if_pos rfl] at q5
      refine iteT ⟨_, M5, Γ4, _, o5, q5, ?_⟩
      rintro vy y H6 M6 e6 m6 r6 q6
      refine ⟨_, M6, Γ4, _, o5.go e6 m6, q6, ?_⟩
      rintro vz z H7 M7 e7 m7 r7 ⟨acc', ea, hl, q7⟩
      have l7 : DictIs K (imm (fun b => N b ∨ b = L) M7 H7) (H7 L) acc := by rw [e7.hid L (.inr rfl), e6.hid L (.inr rfl)]; exact l5.sub (e6.im.trans e7.im)
      obtain ⟨u, p1, p2⟩ := dput_run (.of imm_sub) l7 (r6.sub e7.im) r7 ea hl
      obtain ⟨m8, e8⟩ := m7.hidden (o := u)
      refine ⟨_, p1, by omega, acc', M7, q7, by rw [e8, upd_same]; exact p2, m8, by rw [e8]; exact s5.trans (e6.im.trans e7.im), fun b n => ?_⟩
      rw [upd_ne (fun z => m1.nn b n (by rw [z]; exact hL)), e7.hid b (.inl n), e6.hid b (.inl n)]
      exact hid5 b n
  · have ei : i = w.items.length := by omega
    subst ei
    refine .inl ⟨stop rfl, ?_⟩
    have nL : ¬ N L := m1.freshN hL
    have hL2 : imm N M2 H2 L = H2 L := by
      unfold imm
      rw [if_neg]
      exact not_or.mpr ⟨nL, fun z => z (m2.nm L (.inr rfl))⟩
    refine k (.ref L) acc H2 M2 (e1.trans ⟨s2.trans hide_sub, hid2⟩) m2.unhide (DictIs.rep (by rw [hL2]; exact l2.sub hide_sub)) (hend acc M2 i2)
theorem ae_dc (tup : Bool) {kx vx tg iter : Expr} {ifs : List Expr} {scope : Scope} {own : List (Str × Nat)} {ai : AI} {g : TG} {ag : AG} {at' : AT} {ak av : AE} {tv : List Nat} (hu : X.A.units + 1 < cLine) (hc : X.calm = true) (hN : X.N.Nodup) (hi : PI X tg iter (cI K ai)) (ok : BlkOk X.N X.env.scope scope own)
    (hg : ∀ (s : Shared) (H : Hp) (C : Addr) (cl : List (Str × Addr)) (fp : List Addr), PG (X.blk s H scope (compEnvC scope cl C X.env) fp) tg g) (gk : GOk K g ag tv) (sub : ∀ i ∈ tv, i ∈ own.map (·.2)) (ht : ∀ (s : Shared) (H : Hp) (C : Addr) (cl : List (Str × Addr)) (fp : List Addr), PTs (X.blk s H scope (compEnvC scope cl C X.env) fp) ifs (cT K at'))
    (hk : ∀ (s : Shared) (H : Hp) (C : Addr) (cl : List (Str × Addr)) (fp : List Addr), PE (X.blk s H scope (compEnvC scope cl C X.env) fp) kx (cE K ak))
    (he : ∀ (s : Shared) (H : Hp) (C : Addr) (cl : List (Str × Addr)) (fp : List Addr), PE (X.blk s H scope (compEnvC scope cl C X.env) fp) vx (cE K av)) (hs : ∀ x, foldedSetIterable iter X.env x = pure x := by intro _; rfl) :
    PE X (.DictComp kx vx [⟨tg, iter, ifs, 0⟩] scope pos) (cE K (aDc tup ai ag at' ak av (own.map (·.2)))) := PE.to (pe_dcP tup hu hc hN hi ok hg ht hk he hs) fun _ _ _ h => dc_run tup gk sub h
end
end LA
/-! Methods of lists, texts and dicts; items that are put; name op= e; comprehensions with two fors. -/
namespace LA
open PySem PySem.Spec PyProof.Rows L2 Lay
abbrev AM := D → List D → Mem → (D → Mem → Prop) → Prop
def isTy (T : String) (M : Mem) : D → Prop
  | .str _ => T = "str"
  | .int _ => T = "int"
  | .lst _ => T = "list"
  | .scr _ => T = "list"
  | .ref a => (∃ ds, M a = some (.lst ds) ∧ T = "list") ∨ (∃ kvs, M a = some (.dK kvs) ∧ T = "dict") ∨ ∃ kvs, M a = some (.dT kvs) ∧ T = "dict"
  | _ => False
def SM (K : PySem.W.Frag) (r : V → List V → Hp → VK → Prop) (ρ : AM) : Prop := ∀ {N M H x xs dx ds} {Q : VK} {Q' : D → Mem → Prop}, MOk K N M H → Rep K (imm N M H) x dx → RepA K (imm N M H) xs ds → ρ dx ds M Q' → kE K N M H Q' Q → r x xs H Q
def aBM (T : String) (ρ : AM) (ae : AE) (aa : AA) : AE := fun Γ M Q => ae Γ M fun x M1 => isTy T M1 x ∧ aa Γ M1 fun ds M2 => ρ x ds M2 Q
def aBM0 (T : String) (ρ : AM) (ae : AE) : AE := fun Γ M Q => ae Γ M fun x M1 => isTy T M1 x ∧ ρ x [] M1 Q
section
variable {X : Cx} {K : PySem.W.Frag} {N : Addr → Prop} {M M' : Mem} {H H' : Hp} {σ : L2.St} {Γ : Sl}
theorem ty_v {T : String} {v : V} {d : D} (m : MOk K N M H) (r : Rep K (imm N M H) v d) (t : isTy T M d) : tyV K T v H := by
  cases r <;> simp only [isTy] at t
  · exact t
  · exact t
  · rename_i a
    rcases t with ⟨ds, h, e⟩ | ⟨ds, h, e⟩ | ⟨ds, h, e⟩
    · obtain ⟨vs, h1, _⟩ := m.mo a _ h
      exact .inl ⟨e, vs, .inl (.inl h1)⟩
    · obtain ⟨vs, h1, _⟩ := m.mo a _ h
      exact .inr (.inr (.inl ⟨e, .inl ⟨vs, h1⟩⟩))
    · obtain ⟨vs, h1, _⟩ := m.mo a _ h
      exact .inr (.inr (.inl ⟨e, .inr ⟨vs, h1⟩⟩))
  · rename_i h _
    exact .inl ⟨t, _, .inl (.inl (imm_sub _ _ h))⟩
  · rename_i h _
    exact .inl ⟨t, _, seqL (.of imm_sub) h⟩
variable {T : String} {r : V → List V → Hp → VK → Prop} {ρ : AM} {o e : Expr} {es : List Expr} {ao : AE} {aa : AA} {name : Str} {apos cpos : Pos} {id : String}
theorem bm_run (s : SM K r ρ) {Q : VK} (h : cE K (aBM T ρ ao aa) σ H Q) : tBM K T r (cE K ao) (cA K aa) σ H Q := by
  obtain ⟨N, M, Γ, Q', o, q, k⟩ := h
  exact ⟨N, M, Γ, _, o, q, fun x dx H1 M1 e1 m1 r1 q1 => ⟨ty_v m1 r1 q1.1, N, M1, Γ, _, o.go e1 m1, q1.2, fun xs ds H2 M2 e2 m2 r2 q2 => s m2 (r1.sub e2.im) r2 q2 (k.go (e1.trans e2))⟩⟩
theorem bm0_run (s : SM K r ρ) {Q : VK} (h : cE K (aBM0 T ρ ao) σ H Q) : tBM0 K T r (cE K ao) σ H Q := by
  obtain ⟨N, M, Γ, Q', o, q, k⟩ := h
  exact ⟨N, M, Γ, _, o, q, fun x dx H1 M1 e1 m1 r1 q1 => ⟨ty_v m1 r1 q1.1, s m1 r1 .nil q1.2 (k.go e1)⟩⟩
theorem ae_bm (K : PySem.W.Frag) {ao : AE} {aa : AA} (s : SM K r ρ) (p : PE X (.Call (.Attribute o name apos) (e :: es) [] cpos) (tBM X.K T r (cE K ao) (cA K aa))) (h : X.K = K := by rfl) :
    PE X (.Call (.Attribute o name apos) (e :: es) [] cpos) (cE K (aBM T ρ ao aa)) := by subst h; exact PE.to p fun _ _ _ h => bm_run s h
theorem ae_bm0 (K : PySem.W.Frag) {ao : AE} (s : SM K r ρ) (p : PE X (.Call (.Attribute o name apos) [] [] cpos) (tBM0 X.K T r (cE K ao))) (h : X.K = K := by rfl) :
    PE X (.Call (.Attribute o name apos) [] [] cpos) (cE K (aBM0 T ρ ao)) := by subst h; exact PE.to p fun _ _ _ h => bm0_run s h
/-! ### lists that change -/
def aAppend : AM := fun x ds M Q => ∃ a es d, x = .ref a ∧ ds = [d] ∧ M a = some (.lst es) ∧ es.length < 1000000 ∧ Q .non (put M a (.lst (es ++ [d])))
theorem s_append : SM K rAppend aAppend := by
  rintro N M H x xs dx ds Q Q' m rx rs ⟨a, es, d, rfl, rfl, hm, hl, q⟩ k
  cases rx
  cases rs with
  | cons r1 r2 =>
    cases r2
    obtain ⟨vs, h1, h2⟩ := m.mo a _ hm
    refine ⟨a, vs, _, rfl, rfl, h1, ltline _ (by rw [h2.len]; exact Nat.le_of_lt hl), ?_⟩
    obtain ⟨m1, e1⟩ := m.set (u := .lst (es ++ [d])) hm (o := .lst (vs ++ [_])) fun H' z => ⟨_, z, h2.snoc r1⟩
    exact k .non .non _ _ e1 m1 .non q
def aExtend : AM := fun x ds M Q => ∃ a es d zs, x = .ref a ∧ ds = [d] ∧ M a = some (.lst es) ∧ view M d = .lst zs ∧ es.length + zs.length ≤ 1000000 ∧ Q .non (put M a (.lst (es ++ zs)))
theorem s_extend : SM K rExtend aExtend := by
  rintro N M H x xs dx ds Q Q' m rx rs ⟨a, es, d, zs, rfl, rfl, hm, hv, hl, q⟩ k
  cases rx
  cases rs with
  | cons r1 r2 =>
    cases r2
    obtain ⟨vs, h1, h2⟩ := m.mo a _ hm
    have sy := see m r1
    rw [hv] at sy
    cases sy with
    | lst hb rb =>
      refine ⟨a, _, vs, _, rfl, rfl, h1, hb, line _ (by rw [h2.len, rb.len]; exact hl), ?_⟩
      obtain ⟨m1, e1⟩ := m.set (u := .lst (es ++ zs)) hm (o := .lst (vs ++ _)) fun H' z => ⟨_, z, h2.app rb⟩
      exact k .non .non _ _ e1 m1 .non q
theorem rep_dropLast {F : Hp} : ∀ {vs : List V} {ds : List D}, RepA K F vs ds → RepA K F vs.dropLast ds.dropLast
  | _, _, .nil => .nil
  | _, _, .cons h .nil => .nil
  | _, _, .cons h (.cons h2 r) => .cons h (rep_dropLast (.cons h2 r))
theorem rep_erase {F : Hp} : ∀ {vs : List V} {ds : List D} (i : Nat), RepA K F vs ds → RepA K F (vs.eraseIdx i) (ds.eraseIdx i)
  | _, _, _, .nil => .nil
  | _, _, 0, .cons _ t => t
  | _, _, i + 1, .cons r t => .cons r (rep_erase i t)
theorem rep_set {F : Hp} {v : V} {d : D} (h : Rep K F v d) : ∀ {vs : List V} {ds : List D} (i : Nat), RepA K F vs ds → RepA K F (vs.set i v) (ds.set i d)
  | _, _, _, .nil => .nil
  | _, _, 0, .cons _ t => .cons h t
  | _, _, i + 1, .cons r t => .cons r (rep_set h i t)
def aPop : AM := fun x ds M Q => ∃ a es d, x = .ref a ∧ ds = [] ∧ M a = some (.lst es) ∧ es[es.length - 1]? = some d ∧ Q d (put M a (.lst es.dropLast))
theorem s_pop : SM K rPop aPop := by
  rintro N M H x xs dx ds Q Q' m rx rs ⟨a, es, d, rfl, rfl, hm, hd, q⟩ k
  cases rx
  cases rs
  obtain ⟨vs, h1, h2⟩ := m.mo a _ hm
  rw [← h2.len] at hd
  obtain ⟨v, hv, rv⟩ := h2.get' hd
  refine ⟨a, vs, v, rfl, rfl, h1, hv, ?_⟩
  obtain ⟨m1, e1⟩ := m.set (u := .lst es.dropLast) hm (o := .lst vs.dropLast) fun H' z => ⟨_, z, rep_dropLast h2⟩
  exact k v d _ _ e1 m1 (rv.sub e1.im) q
def aPopAt : AM := fun x ds M Q => ∃ a es i k d, x = .ref a ∧ ds = [.int i] ∧ M a = some (.lst es) ∧ -(2 ^ 63) ≤ i ∧ i < 2 ^ 63 ∧ seqIndex? i es.length = some k ∧ es[k]? = some d ∧ Q d (put M a (.lst (es.eraseIdx k)))
theorem s_popAt : SM K rPopAt aPopAt := by
  rintro N M H x xs dx ds Q Q' m rx rs ⟨a, es, i, j, d, rfl, rfl, hm, h3, h4, hj, hd, q⟩ k
  cases rx
  cases rs with
  | cons r1 r2 =>
    cases r2
    cases r1
    obtain ⟨vs, h1, h2⟩ := m.mo a _ hm
    obtain ⟨v, hv, rv⟩ := h2.get' hd
    refine ⟨a, vs, i, j, v, rfl, rfl, h1, h3, h4, by rw [h2.len]; exact hj, hv, ?_⟩
    obtain ⟨m1, e1⟩ := m.set (u := .lst (es.eraseIdx j)) hm (o := .lst (vs.eraseIdx j)) fun H' z => ⟨_, z, rep_erase j h2⟩
    exact k v d _ _ e1 m1 (rv.sub e1.im) q
def aReverse : AM := fun x ds M Q => ∃ a es, x = .ref a ∧ ds = [] ∧ M a = some (.lst es) ∧ Q .non (put M a (.lst es.reverse))
theorem s_reverse : SM K rReverse aReverse := by
  rintro N M H x xs dx ds Q Q' m rx rs ⟨a, es, rfl, rfl, hm, q⟩ k
  cases rx
  cases rs
  obtain ⟨vs, h1, h2⟩ := m.mo a _ hm
  refine ⟨a, vs, rfl, rfl, h1, ?_⟩
  obtain ⟨m1, e1⟩ := m.set (u := .lst es.reverse) hm (o := .lst vs.reverse) fun H' z => ⟨_, z, h2.rev⟩
  exact k .non .non _ _ e1 m1 .non q
/-! ### texts -/
def aTx (f : Str → Bool) : AM := fun x ds M Q => ∃ a, x = .str a ∧ ds = [] ∧ Q (.bl (f a)) M
theorem s_tx {f : Str → Bool} : SM K (fun x xs H Q => ∃ a, x = .str a ∧ xs = [] ∧ True ∧ Q (.bl (f a)) H) (aTx f) := by
  rintro N M H x xs dx ds Q Q' m rx rs ⟨a, rfl, rfl, q⟩ k
  cases rx
  cases rs
  exact ⟨a, rfl, rfl, trivial, k.here m (.bl _) q⟩
/-! ### o[i] = v -/
abbrev ASet := D → D → D → Mem → (Mem → Prop) → Prop
def aSetAt : ASet := fun o i v M Q => ∃ a, o = .ref a ∧ match M a with
  | some (.lst es) => ∃ k j, i = .int k ∧ ixN es.length k = some j ∧ Q (put M a (.lst (es.set j v)))
  | some (.dK kvs) => ∃ k, keyOf i = some k ∧ kvs.length < 1000000 ∧ Q (put M a (.dK (putD kvs k v)))
  | some (.dT kvs) => ∃ ds k, i = .tup ds ∧ ds.isEmpty = false ∧ keysOf ds = some k ∧ kvs.length < 1000000 ∧ Q (put M a (.dT (putD kvs k v)))
  | _ => False
def rSetA : TSet := fun o i v H Q => rSetL o i v H Q ∨ rSetD o i v H Q
theorem PSet.or {r r' : TSet} (h : PSet X r) (h' : PSet X r') : PSet X (fun o i v H Q => r o i v H Q ∨ r' o i v H Q) :=
  fun pins s σ H o i v ov iv u Q I ro ri rv w => w.elim (h pins s σ H o i v ov iv u Q I ro ri rv) (h' pins s σ H o i v ov iv u Q I ro ri rv)
theorem set_all (hu : X.A.units + 1 < cLine) : PSet X rSetA := PSet.or set_list (set_dict hu)
theorem setAt_run {vo vi vv : V} {o i v : D} {Q : Hp → Prop} {Q' : Mem → Prop} (m : MOk K N M H) (ro : Rep K (imm N M H) vo o) (ri : Rep K (imm N M H) vi i) (rv : Rep K (imm N M H) vv v) (h : aSetAt o i v M Q')
    (k : ∀ M' H', Ext N M H M' H' → MOk K N M' H' → Q' M' → Q H') : rSetA vo vi vv H Q := by
  obtain ⟨a, rfl, h⟩ := h
  cases ro
  split at h
  · rename_i es hm
    obtain ⟨z, j, rfl, hj, q⟩ := h
    cases ri
    obtain ⟨vs, h1, h2⟩ := m.mo a _ hm
    obtain ⟨m1, e1⟩ := m.set (u := .lst (es.set j v)) hm (o := .lst (vs.set j vv)) fun H' z => ⟨_, z, rep_set rv j h2⟩
    exact .inl ⟨a, vs, z, j, rfl, rfl, h1, by rw [h2.len]; exact hj, k _ _ e1 m1 q⟩
  · rename_i kvs hm
    obtain ⟨z, hk, hl, q⟩ := h
    obtain ⟨es, h1, h2, h3⟩ := m.mo a _ hm
    have := key_v ri hk
    subst this
    obtain ⟨p1, p2⟩ := put_rep (k := z) rv h2 h3
    obtain ⟨m1, e1⟩ := m.set (u := .dK (putD kvs z v)) hm (o := .dK (putK es z vv)) fun H' z => ⟨_, z, p1, p2⟩
    exact .inr ⟨a, _, rfl, DPut.k h1 (ltline _ (by rw [putL h2]; exact Nat.le_of_lt hl)), k _ _ e1 m1 q⟩
  · rename_i kvs hm
    obtain ⟨ds, z, rfl, hne, hk, hl, q⟩ := h
    obtain ⟨es, h1, h2, h3⟩ := m.mo a _ hm
    cases ri with
    | tup hb ra =>
      have hb := hb.key (keyV_of ra hk (by rw [hne]; decide))
      have := keys_v ra hk
      subst this
      obtain ⟨p1, p2⟩ := put_rep (k := z) rv h2 h3
      obtain ⟨m1, e1⟩ := m.set (u := .dT (putD kvs z v)) hm (o := .dT (putK es z vv)) fun H' z => ⟨_, z, p1, p2⟩
      exact .inr ⟨a, _, rfl, DPut.t h1 (imm_sub _ _ hb) (ltline _ (by rw [putL h2]; exact Nat.le_of_lt hl)), k _ _ e1 m1 q⟩
  · exact h.elim
def aPutAt (ae ao ai : AE) : AS := fun A Γ M => ae Γ M fun v M1 => ao Γ M1 fun o M2 => ai Γ M2 fun i M3 => aSetAt o i v M3 (A.nx Γ)
theorem as_put {o i e : Expr} {tpos : Pos} {pos : Pos} {ae ao ai : AE} (hu : X.A.units + 1 < cLine) (he : PE X e (cE K ae)) (ho : PE X o (cE K ao)) (hi : PE X i (cE K ai))
    (ha : ∀ v, assign (.Subscript o i tpos) X.env v = (do
      let ov ← holding [v] (eval o X.env)
      let iv ← holding [v, ov] (eval i X.env)
      standAt tpos
      holding [v, ov, iv] (setItem ov iv v)
      release [v, ov, iv] []) := by intro _; rfl)
    (hs : swapsWithSole [.Subscript o i tpos] e pos.line X.env = pure false := by rfl) (hw : swappedStores [.Subscript o i tpos] e X.env = pure none := by rfl)
    (h1 : (assignEach [.Subscript o i tpos] X.env).map (·.2) = [assign (.Subscript o i tpos) X.env] := by rfl) : PS X (.Assign [.Subscript o i tpos] e pos) (cS K (aPutAt ae ao ai)) :=
  PS.to (ps_asg he (pg_sub ho hi (set_all hu) ha) hs hw h1) fun D σ H ⟨N, M, Γ, A, o, q, k⟩ =>
    ⟨N, M, Γ, _, o, q, fun v d H1 M1 e1 m1 r1 q1 => ⟨N, M1, Γ, _, o.go e1 m1, q1, fun v2 d2 H2 M2 e2 m2 r2 q2 => ⟨N, M2, Γ, _, (o.go e1 m1).go e2 m2, q2, fun v3 d3 H3 M3 e3 m3 r3 q3 =>
      setAt_run m3 (r2.sub e3.im) r3 (r1.sub (e2.im.trans e3.im)) q3 fun M4 H4 e4 m4 q4 => k.nx _ _ _ _ (((e1.trans e2).trans e3).trans e4) ((((o.go e1 m1).go e2 m2).go e3 m3).go e4 m4) q4⟩⟩⟩
/-! ### name op= e -/
def aAugI (i : Nat) (f : Int → Int → Int) (ae : AE) : AS := fun A Γ M => ∃ x : Int, Γ[i]? = some (some (.int x)) ∧ ae Γ M fun d M1 => ∃ y, d = .int y ∧ A.nx (Γ.set i (some (.int (f x y)))) M1
theorem as_augI {i : Nat} {x : Str} {e : Expr} {pos pos' : Pos} {ae : AE} {op : Operator} {f : Int → Int → Int} (hN : X.N.Nodup) (hi : X.N[i]? = some x) (hx : Loc X.env.scope x) (he : PE X e (cE K ae)) (ho : PIp X op (ipI f))
    (hf : X.fn x = true ∨ X.env.scope.names.lookup x = some .local := by first | exact .inl rfl | exact .inr rfl | assumption) : PS X (.AugAssign (.Name x pos') op e pos) (cS K (aAugI i f ae)) :=
  PS.to (ps_aug hN hi hx he ho hf) fun D σ H ⟨N, M, Γ, A, o, ⟨x0, hx0, q⟩, k⟩ => by
    obtain ⟨v, h1, h2⟩ := paired_get o.sl hx0
    cases h2
    refine ⟨_, h1, N, M, Γ, _, o, q, ?_⟩
    rintro v d H1 M1 e1 m1 r1 ⟨y, rfl, q1⟩
    cases r1
    exact ⟨x0, y, rfl, rfl, k.nx _ H1 _ M1 e1 ((o.go e1 m1).set (.int _) i) q1⟩
end
end LA
/-! sorted(xs), xs a list of data of any depth. -/
namespace LA
open PySem PySem.Spec PyProof.Rows L2 Lay
open PySem.W (AllAlike Sortable EachIs dataLe)
def sortPairs (xs : List V) (ds : List PyData) : List (V × PyData) := (xs.zip ds).mergeSort (dataLe false fun p => p.2)
def rSortedA (K : PySem.W.Frag) : List V → Hp → VK → Prop := fun vs H Q => ∃ (a : Addr) (xs : List V) (ds : List PyData), vs = [V.ref a] ∧ SqL K H a xs ∧ DpAll K H xs ds ∧ AllAlike ds ∧ Sortable ds ∧ ds.length ≤ sizeLine ∧ (∀ d ∈ ds, d.depth ≤ 60) ∧
  ∀ p, H p = none → Q (.ref p) (upd H p (.lst ((sortPairs xs ds).map (·.1))))
section
variable {X : Cx} {K : PySem.W.Frag}
theorem each_ref {σ : L2.St} {pins : List (Addr × Obj)} {H : Hp} {s : Shared} (I : Inv X pins σ H s) : ∀ {us : List Value} {xs : List V} {ds : List PyData}, Vals xs us → DpAll X.K H xs ds → EachIs (fun (u : Value) (p : V × PyData) => RelV p.1 u) us (xs.zip ds) ∧
    EachIs (fun (u : Value) (p : V × PyData) => ∃ as, Reads s.heap u p.2 as) us (xs.zip ds)
  | _, _, _, .nil, .nil => ⟨.nil, .nil⟩
  | _, _, _, .cons r rv, .cons h hs => by
    obtain ⟨i1, i2⟩ := each_ref I rv hs
    exact ⟨.cons r i1, .cons (Dp.reads I _ _ _ h r) i2⟩
theorem vals_each : ∀ {us : List Value} {ps : List (V × PyData)}, EachIs (fun (u : Value) (p : V × PyData) => RelV p.1 u) us ps → Vals (ps.map (·.1)) us
  | _, _, .nil => .nil
  | _, _, .cons h t => .cons h (vals_each t)
theorem dpall_len {H : Hp} : ∀ {xs : List V} {ds : List PyData}, DpAll K H xs ds → xs.length = ds.length
  | _, _, .nil => rfl
  | _, _, .cons _ r => by rw [List.length_cons, List.length_cons, dpall_len r]
theorem zip_snd : ∀ {xs : List V} {ds : List PyData}, xs.length = ds.length → (xs.zip ds).map (·.2) = ds
  | [], [], _ => rfl
  | [], _ :: _, e => by simp at e
  | _ :: _, [], e => by simp at e
  | x :: xs, d :: ds, e => by simp [zip_snd (xs := xs) (ds := ds) (by simpa using e)]
theorem call_sortedA (hu : X.A.units + 64 < cLine) : CallR X (.builtin "sorted") (rSortedA X.K) := by
  intro pins s σ H vs us Q I r h
  obtain ⟨a, xs, ds, rfl, hs, hd, al, so, hz, hdep, q⟩ := h
  obtain ⟨its, rv, hl, _⟩ := I.list hs
  rw [Vals.ref1 r]
  obtain ⟨e1, e2⟩ := each_ref I rv hd
  have hlen := dpall_len hd
  have hzip := zip_snd hlen
  have hlz : (xs.zip ds).length = ds.length := by rw [List.length_zip, hlen, Nat.min_self]
  refine PySem.W.sorted_data (enc := fun p : V × PyData => p.2) hl.isList e1 e2 (by rw [hzip]; exact al) (by rw [hzip]; exact so) (by rw [hlz]; exact hz) (fun b hb => ?_) fun out h1 h2 => ?_
  · have := hdep b.2 (by rw [← hzip]; exact List.mem_map.mpr ⟨b, hb, rfl⟩)
    omega
  obtain ⟨ep, he'⟩ := PyProof.Rows.sortedAll_at s.heap its out.toArray
  have hv := vals_each h2
  have hlen2 : ((sortPairs xs ds).map (·.1)).length ≤ sizeLine := by
    show (((xs.zip ds).mergeSort (dataLe false fun p => p.2)).map (·.1)).length ≤ sizeLine
    rw [hv.length, h1, hlz]
    exact hz
  exact ⟨.ref _, upd H (s.heap.objs.size + 1) (.lst ((sortPairs xs ds).map (·.1))), I.laid (t' := s.toks) (fun _ _ => PyProof.Rows.sortedAll_old) (Nat.le_succ _) ⟨hlen2, out, ep, hv, he'⟩, rfl, q _ (I.hok.fresh (Nat.le_succ _))⟩
theorem c_sorted (K : PySem.W.Frag) (hu : X.A.units + 64 < cLine) (h : X.K = K := by rfl) : CallR X (.builtin "sorted") (rSortedA K) := h ▸ call_sortedA hu
/-- in order -/
def leD (a b : D) : Bool := dataLe false py a b
def sortD (ds : List D) : List D := ds.mergeSort leD
def listD (M : Mem) (d : D) : Option (List D) := match view M d with
  | .lst ds => some ds
  | .scr ds => some ds
  | _ => none
def aSorted : AL := fun xs M Q => ∃ d ds, xs = [d] ∧ listD M d = some ds ∧ plainL ds = true ∧ AllAlike (pyL ds) ∧ Sortable (pyL ds) ∧ ds.length ≤ 1000000 ∧ (∀ d ∈ ds, (py d).depth ≤ 60) ∧ Q (.lst (sortD ds)) M
theorem each_rep {F : Hp} : ∀ {xs : List V} {ds : List D}, RepA K F xs ds → EachIs (fun (p : V × PyData) (d : D) => Rep K F p.1 d ∧ p.2 = py d) (xs.zip (pyL ds)) ds
  | _, _, .nil => .nil
  | _, _, .cons h r => .cons ⟨h, rfl⟩ (each_rep r)
theorem rep_each {F : Hp} : ∀ {ps : List (V × PyData)} {ds : List D}, EachIs (fun (p : V × PyData) (d : D) => Rep K F p.1 d ∧ p.2 = py d) ps ds → RepA K F (ps.map (·.1)) ds
  | _, _, .nil => .nil
  | _, _, .cons h t => .cons h.1 (rep_each t)
theorem sort_rep {F : Hp} {xs : List V} {ds : List D} (r : RepA K F xs ds) : RepA K F ((sortPairs xs (pyL ds)).map (·.1)) (sortD ds) := by
  refine rep_each (PySem.W.sort_each (each_rep r) fun p hp q hq => ?_)
  have h1 := ((each_rep r).zip p hp).2
  have h2 := ((each_rep r).zip q hq).2
  show dataLe false (fun p : V × PyData => p.2) p.1 q.1 = dataLe false py p.2 q.2
  unfold dataLe
  unfold PySem.W.sortLe
  dsimp only
  rw [h1, h2]
theorem s_sorted : SL K (rSortedA K) aSorted := by
  rintro N M H xs ds0 Q Q' m r ⟨d, ds, rfl, hv, hp, al, so, hz, hdep, q⟩ k
  cases r with
  | cons r1 r2 =>
    cases r2
    have sy := see m r1
    unfold listD at hv
    rename_i v0
    have both : ∃ a vs, v0 = V.ref a ∧ SqL K H a vs ∧ RepA K (imm N M H) vs ds := by
      split at hv
      · rename_i es e
        cases hv
        rw [e] at sy
        cases sy with
        | lst h rb => exact ⟨_, _, rfl, .inl (.inl h), rb⟩
      · rename_i es e
        cases hv
        rw [e] at sy
        cases sy with
        | scr h rb => exact ⟨_, _, rfl, h, rb⟩
      · cases hv
    obtain ⟨a, vs, rfl, hs, rb⟩ := both
    refine ⟨a, vs, pyL ds, rfl, hs, (rb.sub (.of imm_sub)).dp hp, al, so, line _ (by rw [pyL_map, List.length_map]; exact hz), fun d hd => ?_, fun p hn => ?_⟩
    · rw [pyL_map] at hd
      obtain ⟨b, hb, rfl⟩ := List.mem_map.mp hd
      exact hdep b hb
    · exact k.new m hn (fun F s f => .lst f (sort_rep (rb.sub s))) q
end
end LA
/-! Objects: fields, methods, new instances; calls by names; dict displays, dict(pairs); join, repr, is True. -/
namespace LA
open PySem PySem.Spec PyProof.Rows L2 Lay
section
variable {X : Cx} {K : PySem.W.Frag} {N : Addr → Prop} {M M' : Mem} {H H' : Hp} {σ : L2.St} {Γ : Sl} {pos : Pos}
/-! ### texts, numbers -/
def strsD : List D → Option (List Str)
  | [] => some []
  | .str x :: r => (strsD r).map (x :: ·)
  | _ => none
theorem strs_rep {F : Hp} : ∀ {vs : List V} {ds : List D} {bs : List Str}, RepA K F vs ds → strsD ds = some bs → vs = bs.map V.str
  | _, _, _, .nil, e => by cases e; rfl
  | _, d :: r, bs, .cons h t, e => by
    cases d <;> simp only [strsD, reduceCtorEq] at e
    rename_i x
    rw [Option.map_eq_some_iff] at e
    obtain ⟨r', h1, rfl⟩ := e
    cases h
    rw [strs_rep t h1]
    rfl
def rJoinK (K : PySem.W.Frag) : V → List V → Hp → VK → Prop := fun x xs H Q => ∃ a p, ∃ ys : List Str, x = .str a ∧ xs = [.ref p] ∧ (SqL K H p (ys.map V.str) ∨ SqT K H p (ys.map V.str)) ∧
    (ys.map (·.length)).sum + ys.length * a.length ≤ 16777216 ∧ Q (.str (Txt.join a ys)) H
theorem mt_joinK (K : PySem.W.Frag) (h : X.K = K := by rfl) : MtR X "str.join" (rJoinK K) := h ▸ mt_join
def aJoin : AM := fun x ds M Q => ∃ a d es ys, x = .str a ∧ ds = [d] ∧ seqD (view M d) = some es ∧ strsD es = some ys ∧ (ys.map (·.length)).sum + ys.length * a.length ≤ 16777216 ∧ Q (.str (Txt.join a ys)) M
theorem s_join : SM K (rJoinK K) aJoin := by
  rintro N M H x xs dx ds Q Q' m rx rs ⟨a, d, es, ys, rfl, rfl, hv, hs, hl, q⟩ k
  cases rx
  cases rs with
  | cons r1 r2 =>
    cases r2
    obtain ⟨p, vs, rfl, h1, h2⟩ := (see m r1).seq hv
    have := strs_rep h2 hs
    subst this
    exact ⟨a, p, ys, rfl, rfl, h1, hl, k.here m (.str _) q⟩
def aSidx : AM := fun x ds M Q => ∃ a b i rest, x = .str a ∧ ds = [.str b] ∧ Builtin.Str.occurrences a b 0 a.length 1 = i :: rest ∧ Q (.int (i : Nat)) M
theorem s_sidx : SM K (fun x xs H Q => ∃ a b i rest, x = .str a ∧ xs = [.str b] ∧ Builtin.Str.occurrences a b 0 a.length 1 = i :: rest ∧ Q (.int (i : Nat)) H) aSidx := by
  rintro N M H x xs dx ds Q Q' m rx rs ⟨a, b, i, rest, rfl, rfl, h, q⟩ k
  cases rx
  cases rs with
  | cons r1 r2 =>
    cases r2
    cases r1
    exact ⟨a, b, i, rest, rfl, rfl, h, k.here m (.int _) q⟩
def aInt2 (g : Int → Int → Int) : AL := fun ds M Q => ∃ i j, ds = [.int i, .int j] ∧ Q (.int (g i j)) M
theorem s_int2 {g : Int → Int → Int} : SL K (fun xs H Q => ∃ i j, xs = [.int i, .int j] ∧ Q (.int (g i j)) H) (aInt2 g) := by
  rintro N M H xs ds Q Q' m rs ⟨i, j, rfl, q⟩ k
  cases rs with
  | cons r1 r2 => cases r2 with
    | cons r3 r4 =>
      cases r4
      cases r1
      cases r3
      exact ⟨i, j, rfl, k.here m (.int _) q⟩
def aInt1 : AL := fun ds M Q => match ds with
  | [.int i] => Q (.int i) M
  | [.bl b] => Q (.int (if b then 1 else 0)) M
  | _ => False
theorem s_int1 : SL K (fun xs H Q => (∃ i, xs = [.int i] ∧ Q (.int i) H) ∨ ∃ k, xs = [.bl k] ∧ Q (.int (if k then 1 else 0)) H) aInt1 := by
  rintro N M H xs ds Q Q' m rs q k
  unfold aInt1 at q
  split at q
  · cases rs with
    | cons r1 r2 =>
      cases r2
      cases r1
      exact .inl ⟨_, rfl, k.here m (.int _) q⟩
  · cases rs with
    | cons r1 r2 =>
      cases r2
      cases r1
      exact .inr ⟨_, rfl, k.here m (.int _) q⟩
  · exact q.elim
mutual
theorem dp_dx {H : Hp} : ∀ {v : V} {d : PyData}, Dp K H v d → Dx K H v d
  | _, _, .non => .non
  | _, _, .bl b => .bl b
  | _, _, .int i => .int i
  | _, _, .str x => .str x
  | _, _, .lst h r => .lst h (dpall_dx r)
  | _, _, .tup h r => .tup h (dpall_dx r)
theorem dpall_dx {H : Hp} : ∀ {vs : List V} {ds : List PyData}, DpAll K H vs ds → DxAll K H vs ds
  | _, _, .nil => .nil
  | _, _, .cons h r => .cons (dp_dx h) (dpall_dx r)
end
def aRepr : AL := fun ds M Q => ∃ d, ds = [d] ∧ plain (view M d) = true ∧ (py (view M d)).showable = true ∧ (py (view M d)).depth ≤ 60 ∧ (py (view M d)).shown.length ≤ 1000000 ∧ Q (.str (py (view M d)).shown) M
theorem s_repr : SL K (rReprX K) aRepr := by
  rintro N M H xs ds Q Q' m rs ⟨d, rfl, hp, h1, h2, h3, q⟩ k
  cases rs with
  | cons r1 r2 =>
    cases r2
    exact ⟨_, _, rfl, dp_dx ((see m r1).dp (.of imm_sub) hp), h1, h2, line _ h3, k.here m (.str _) q⟩
/-- x is True -/
def isB (b : Bool) : D → Bool
  | .bl c => decide (c = b)
  | _ => false
def noTy : D → Bool
  | .ty _ => false
  | _ => true
def aIsB : A2 := fun x y M Q => ∃ b, y = .bl b ∧ noTy x = true ∧ Q (.bl (isB b x)) M
theorem s_isX : S2 K rIsX aIsB := by
  rintro N M H x y dx dy Q Q' m rx ry ⟨b, rfl, hn, q⟩ k
  cases ry
  refine ⟨b, rfl, ?_, k.here m ?_ q⟩
  · cases rx <;> simp [noTy] at hn ⊢
  · have : decide (x = .bl b) = isB b dx := by cases rx <;> simp [isB]
    rw [this]
    exact .bl _
/-! ### calls by names -/
theorem ak_nil : PK X [] (cA K aNil) := ⟨fun pos pins s σ H Q I w => pk_nil.run pos pins s σ H Q I (by
  obtain ⟨N, M, Γ, Q', o, q, k⟩ := w
  exact k [] [] H M .refl o.m .nil q)⟩
theorem ak_cons {nm : Option Str} {e : Expr} {kpos : Pos} {kws : List Keyword} {ae : AE} {aa : AA} (ha : PE X e (cE K ae)) (hr : PK X kws (cA K aa)) : PK X (⟨nm, e, kpos⟩ :: kws) (cA K (aCons ae aa)) :=
  ⟨fun pos pins s σ H Q I w => (pk_cons ha hr).run pos pins s σ H Q I (by
    obtain ⟨N, M, Γ, Q', o, q, k⟩ := w
    exact ⟨N, M, Γ, _, o, q, fun x dx H1 M1 e1 m1 r1 q1 => ⟨N, M1, Γ, _, o.go e1 m1, q1, fun xs ds H2 M2 e2 m2 r2 q2 => k _ _ H2 M2 (e1.trans e2) m2 (.cons (r1.sub e2.im) r2) q2⟩⟩)⟩
theorem call_run {A : ASp} {aa : AA} {Q : VK} (h : cE K (aCall A aa) σ H Q) : tCall (spA K A) [] E0 (cA K aa) σ H Q := by
  obtain ⟨N, M, Γ, Q', o, q, kk⟩ := h
  exact ⟨N, M, Γ, _, o, q, fun vs ds H1 M1 e1 m1 r1 q1 => by
    show spA K A (vs ++ []) H1 Q E0
    rw [List.append_nil]
    exact ⟨N, M1, ds, Q', m1, r1, q1, kk.go e1⟩⟩
theorem ae_c0' {k : Nat} {x : Str} {ps : List Str} {A : ASp} {p : Pos} (D : Has X.prog X.w X.K X.mg X.base k x ps (spA K A)) (hr : Room k X.A) (hq : Quiet X.A) (hg : Gl X x := by rfl) (hdb : (x == ("__debug__" : Str)) = false := by decide) :
    PE X (.Call (.Name x p) [] [] pos) (cE K (aCall A aNil)) :=
  PE.to (pe_c0 D hr hq hg hdb) fun σ H Q ⟨N, M, Γ, Q', o, q, kk⟩ => ⟨N, M, [], Q', o.m, .nil, q, kk⟩
theorem ae_ck {k : Nat} {x : Str} {ps : List Str} {A : ASp} {p : Pos} {kws : List Keyword} {aa : AA} (D : Has X.prog X.w X.K X.mg X.base k x ps (spA K A)) (hr : Room k X.A) (hq : Quiet X.A) (hkw : PK X kws (cA K aa))
    (hks : (backToKw pos (keywordEach kws X.env)).filterMap (·.1) = ps := by rfl)
    (hg : Gl X x := by rfl)
    (hall : (backToKw pos (keywordEach kws X.env)).all (·.1.isSome) = true := by rfl)
    (hdb : (x == ("__debug__" : Str)) = false := by decide)
    (hpl : ((backTo pos (starEach [] X.env)).any (·.1) || (backToKw pos (keywordEach kws X.env)).any (·.1.isNone)) = false := by rfl) :
    PE X (.Call (.Name x p) [] kws pos) (cE K (aCall A aa)) := PE.to (pe_ck D hr hq hkw hks hg hall hdb hpl) fun _ _ _ h => call_run h
/-! ### fields -/
def FldOk (K : PySem.W.Frag) (C : Addr) (f : Str) : Prop := Cls K C ∧ NoAttr K C f
def fldD (f : Str) : List (Str × D) → Option D
  | [] => none
  | p :: r => if p.1 = f then some p.2 else fldD f r
def putFD (f : Str) (v : D) : List (Str × D) → List (Str × D)
  | [] => [(f, v)]
  | p :: r => if p.1 = f then (p.1, v) :: r else p :: putFD f v r
theorem fld_rep {F : Hp} {f : Str} : ∀ {es : List (Str × V)} {fs : List (Str × D)}, es.map (·.1) = fs.map (·.1) → RepA K F (es.map (·.2)) (fs.map (·.2)) →
    (fldD f fs = none ∧ es.lookup f = none) ∨ ∃ v d, fldD f fs = some d ∧ es.lookup f = some v ∧ Rep K F v d
  | [], [], _, _ => .inl ⟨rfl, rfl⟩
  | [], _ :: _, e, _ => by simp at e
  | _ :: _, [], e, _ => by simp at e
  | (g, v) :: r, (g', d) :: s, e, h => by
    simp only [List.map_cons, List.cons.injEq] at e
    obtain ⟨e1, e2⟩ := e
    subst e1
    simp only [List.map_cons] at h
    cases h with
    | cons h1 h2 =>
      by_cases z : g = f
      · subst z
        exact .inr ⟨v, d, by simp [fldD], by simp [List.lookup], h1⟩
      · have i := fld_rep (f := f) e2 h2
        have e3 : fldD f ((g, d) :: s) = fldD f s := by simp [fldD, z]
        have e4 : ((g, v) :: r).lookup f = r.lookup f := by
          have : (f == g) = false := beq_eq_false_iff_ne.mpr fun y => z y.symm
          simp [List.lookup, this]
        rw [e3, e4]
        exact i
theorem putF_rep {F : Hp} {f : Str} {v : V} {d : D} (hv : Rep K F v d) : ∀ {es : List (Str × V)} {fs : List (Str × D)}, es.map (·.1) = fs.map (·.1) → RepA K F (es.map (·.2)) (fs.map (·.2)) →
    (putF f v es).map (·.1) = (putFD f d fs).map (·.1) ∧ RepA K F ((putF f v es).map (·.2)) ((putFD f d fs).map (·.2))
  | [], [], _, _ => ⟨rfl, .cons hv .nil⟩
  | [], _ :: _, e, _ => by simp at e
  | _ :: _, [], e, _ => by simp at e
  | (g, v') :: r, (g', d') :: s, e, h => by
    simp only [List.map_cons, List.cons.injEq] at e
    obtain ⟨e1, e2⟩ := e
    subst e1
    simp only [List.map_cons] at h
    cases h with
    | cons h1 h2 =>
      by_cases z : g = f
      · subst z
        simp only [putF, putFD, if_true, List.map_cons]
        exact ⟨by rw [e2], .cons hv h2⟩
      · obtain ⟨i1, i2⟩ := putF_rep (f := f) hv e2 h2
        simp only [putF, putFD, if_neg z, List.map_cons]
        exact ⟨by rw [i1], .cons h1 i2⟩
def aFld (K : PySem.W.Frag) (f : Str) (ae : AE) : AE := fun Γ M Q => ae Γ M fun x M1 => ∃ C fs d, view M1 x = .ins C fs ∧ FldOk K C f ∧ fldD f fs = some d ∧ Q d M1
theorem ae_fld {o : Expr} {f : Str} {ao : AE} (he : PE X o (cE K ao)) (hb : attributeBase o f X.env (eval o X.env) = eval o X.env := by rfl) (h : X.K = K := by rfl) : PE X (.Attribute o f pos) (cE K (aFld K f ao)) := by
  subst h
  exact PE.to (pe_fld he hb) fun σ H Q ⟨N, M, Γ, Q', o, q, k⟩ => ⟨N, M, Γ, _, o, q, by
    rintro x dx H1 M1 e1 m1 r1 ⟨C, fs, d, ev, fo, hd, q1⟩
    have sy := see m1 r1
    rw [ev] at sy
    cases sy with
    | ins h1 h2 h3 =>
      rcases fld_rep (f := f) h2 h3 with ⟨h4, _⟩ | ⟨v, d', h4, h5, h6⟩
      · rw [h4] at hd; cases hd
      · rw [h4] at hd
        cases hd
        exact ⟨_, C, _, _, v, rfl, h1, fo.1, fo.2, h5, (k.go e1).here m1 h6 q1⟩⟩
def aFldSet (K : PySem.W.Frag) (f : Str) (av ao : AE) : AS := fun A Γ M => av Γ M fun y M1 => ao Γ M1 fun x M2 => ∃ a C fs, x = .ref a ∧ M2 a = some (.ins C fs) ∧ FldOk K C f ∧ fs.length < 1000 ∧ A.nx Γ (put M2 a (.ins C (putFD f y fs)))
theorem as_fld {o value : Expr} {f : Str} {pos' : Pos} {ao av : AE} (ha : PE X o (cE K ao)) (hv : PE X value (cE K av)) (hs : swapsWith value (some (.Attribute o f pos')) pos.line X.env = pure false := by rfl) (h : X.K = K := by rfl) :
    PS X (.Assign [.Attribute o f pos'] value pos) (cS K (aFldSet K f av ao)) := by
  subst h
  exact PS.to (ps_fld ha hv hs) fun D σ H ⟨N, M, Γ, A, o, q, k⟩ => ⟨N, M, Γ, _, o, q, fun y dy H1 M1 e1 m1 r1 q1 => ⟨N, M1, Γ, _, o.go e1 m1, q1, by
    rintro x dx H2 M2 e2 m2 r2 ⟨a, C, fs, rfl, hm, fo, hl, q2⟩
    cases r2
    obtain ⟨dx, es, h1, h2, h3⟩ := m2.mo a _ hm
    obtain ⟨p1, p2⟩ := putF_rep (f := f) (r1.sub e2.im) h2 h3
    obtain ⟨m3, e3⟩ := m2.set (u := .ins C (putFD f dy fs)) hm (o := .ins C dx (putF f y es)) fun H' z => ⟨dx, _, z, p1, p2⟩
    have hl' : es.length < 1000 := by
      have := congrArg List.length h2
      rw [List.length_map, List.length_map] at this
      omega
    exact ⟨a, C, dx, es, rfl, h1, fo.1, fo.2, hl', k.nx _ _ _ _ ((e1.trans e2).trans e3) (((o.go e1 m1).go e2 m2).go e3 m3) q2⟩⟩⟩
/-! ### methods -/
def insOf (M : Mem) : D → Option (Addr × List (Str × D))
  | .ins C fs => some (C, fs)
  | .ref a => match M a with
    | some (.ins C fs) => some (C, fs)
    | _ => none
  | _ => none
theorem ins_at {v : V} {d : D} {C : Addr} {fs : List (Str × D)} (m : MOk K N M H) (r : Rep K (imm N M H) v d) (e : insOf M d = some (C, fs)) : ∃ a dx es, v = .ref a ∧ H a = some (.ins C dx es) ∧ es.map (·.1) = fs.map (·.1) ∧ RepA K (imm N M H) (es.map (·.2)) (fs.map (·.2)) := by
  unfold insOf at e
  split at e
  · cases e
    cases r with
    | ins h1 h2 h3 => exact ⟨_, _, _, rfl, imm_sub _ _ h1, h2, h3⟩
  · split at e
    · rename_i hm
      cases e
      cases r
      obtain ⟨dx, es, h1, h2, h3⟩ := m.mo _ _ hm
      exact ⟨_, dx, es, rfl, h1, h2, h3⟩
    · cases e
  · cases e
def aMeth (C : Addr) (mn : Str) (A : ASp) (dds : List D) (ae : AE) (aa : AA) : AE := fun Γ M Q => ae Γ M fun x M1 => ∃ fs, insOf M1 x = some (C, fs) ∧ fldD mn fs = none ∧ aa Γ M1 fun ds M2 => A (x :: (ds ++ dds)) M2 Q
theorem meth_run {C : Addr} {mn : Str} {A : ASp} {dds : List D} {dvs : List V} {ae : AE} {aa : AA} (hd : ∀ F, RepA K F dvs dds) {Q : VK} (h : cE K (aMeth C mn A dds ae aa) σ H Q) : tMeth C mn (spA K A) dvs E0 (cE K ae) (cA K aa) σ H Q := by
  obtain ⟨N, M, Γ, Q', o, q, k⟩ := h
  refine ⟨N, M, Γ, _, o, q, ?_⟩
  rintro x dx H1 M1 e1 m1 r1 ⟨fs, hi, hf, q1⟩
  obtain ⟨a, dd, es, rfl, h1, h2, h3⟩ := ins_at m1 r1 hi
  have hl : es.lookup mn = none := by
    rcases fld_rep (f := mn) h2 h3 with ⟨_, h⟩ | ⟨v, d', h4, _⟩
    · exact h
    · rw [hf] at h4; cases h4
  exact ⟨a, dd, es, rfl, h1, hl, N, M1, Γ, _, o.go e1 m1, q1, fun vs ds H2 M2 e2 m2 r2 q2 => ⟨N, M2, dx :: (ds ++ dds), Q', m2, .cons (r1.sub e2.im) (r2.app (hd _)), q2, k.go (e1.trans e2)⟩⟩
section
variable {k : Nat} {C : Addr} {ps ks : List Str} {A : ASp} {dvs : List V} {dds : List D} {mn x : Str} {p apos : Pos} {e o : Expr} {es : List Expr} {ae : AE} {aa : AA} {kws : List Keyword} {g : List V → List V} {gd : List D → List D}
theorem ae_m {pl : Sem Bool} (D : HasM X.prog X.w X.K X.mg X.base k C mn ps dvs (spA K A)) (hd : ∀ F, RepA K F dvs dds) (hr : Room k X.A) (hq : Quiet X.A) (he : PE X o (cE K ae)) (ha : PA X (e :: es) (cA K aa))
    (hst : starEach (e :: es) X.env = (false, eval e X.env) :: starEach es X.env := by rfl) (hpl : (backTo pos (starEach es X.env)).any (·.1) = false := by rfl)
    (ht : eval (.Call (.Attribute o mn apos) (e :: es) [] pos) X.env = (do
      let ov ← eval o X.env
      standAt apos.atName
      let (f, first) ← holding [ov] (getMethod ov mn pl)
      callWith pos f first (backTo pos (starEach (e :: es) X.env)) (backToKw pos (keywordEach [] X.env))) := by rfl) :
    PE X (.Call (.Attribute o mn apos) (e :: es) [] pos) (cE K (aMeth C mn A dds ae aa)) := PE.to (pe_m (pl := pl) D hr hq he ha hst hpl ht) fun _ _ _ h => meth_run hd h
theorem ae_m0 {pl : Sem Bool} (D : HasM X.prog X.w X.K X.mg X.base k C mn ps dvs (spA K A)) (hd : ∀ F, RepA K F dvs dds) (hr : Room k X.A) (hq : Quiet X.A) (he : PE X o (cE K ae))
    (ht : eval (.Call (.Attribute o mn apos) [] [] pos) X.env = (do
      let ov ← eval o X.env
      standAt apos.atName
      let (f, first) ← holding [ov] (getMethod ov mn pl)
      callWith pos f first (backTo pos (starEach [] X.env)) (backToKw pos (keywordEach [] X.env))) := by rfl) :
    PE X (.Call (.Attribute o mn apos) [] [] pos) (cE K (aMeth C mn A dds ae aNil)) := PE.to (pe_m0 (pl := pl) D hr hq he ht) fun σ H Q h => by
      obtain ⟨N, M, Γ, Q', o, q, k⟩ := h
      refine ⟨N, M, Γ, _, o, q, ?_⟩
      rintro x dx H1 M1 e1 m1 r1 ⟨fs, hi, hf, q1⟩
      obtain ⟨a, dd, es, rfl, h1, h2, h3⟩ := ins_at m1 r1 hi
      have hl : es.lookup mn = none := by
        rcases fld_rep (f := mn) h2 h3 with ⟨_, h⟩ | ⟨v, d', h4, _⟩
        · exact h
        · rw [hf] at h4; cases h4
      exact ⟨a, dd, es, rfl, h1, hl, N, M1, dx :: ([] ++ dds), Q', m1, .cons r1 (hd _), q1, k.go e1⟩
def aMethK (C : Addr) (mn : Str) (n : Nat) (gd : List D → List D) (A : ASp) (ae : AE) (aa : AA) : AE := fun Γ M Q => ae Γ M fun x M1 => ∃ fs, insOf M1 x = some (C, fs) ∧ fldD mn fs = none ∧ aa Γ M1 fun ds M2 => ds.length = n ∧ A (x :: gd ds) M2 Q
theorem ae_mk {pl : Sem Bool} (D : HasMK X.prog X.w X.K X.mg X.base k C mn ps ks g (spA K A)) (hd : ∀ F vs ds, vs.length = ks.length → RepA K F vs ds → RepA K F (g vs) (gd ds)) (hr : Room k X.A) (hq : Quiet X.A) (he : PE X o (cE K ae)) (hkw : PK X kws (cA K aa))
    (hks : (backToKw pos (keywordEach kws X.env)).filterMap (·.1) = ks := by rfl)
    (hall : (backToKw pos (keywordEach kws X.env)).all (·.1.isSome) = true := by rfl)
    (hpl : ((backTo pos (starEach [] X.env)).any (·.1) || (backToKw pos (keywordEach kws X.env)).any (·.1.isNone)) = false := by rfl)
    (ht : eval (.Call (.Attribute o mn apos) [] kws pos) X.env = (do
      let ov ← eval o X.env
      standAt apos.atName
      let (f, first) ← holding [ov] (getMethod ov mn pl)
      callWith pos f first (backTo pos (starEach [] X.env)) (backToKw pos (keywordEach kws X.env))) := by rfl) :
    PE X (.Call (.Attribute o mn apos) [] kws pos) (cE K (aMethK C mn ks.length gd A ae aa)) := PE.to (pe_mk (pl := pl) D hr hq he hkw hks hall hpl ht) fun σ H Q h => by
      obtain ⟨N, M, Γ, Q', o, q, k⟩ := h
      refine ⟨N, M, Γ, _, o, q, ?_⟩
      rintro x dx H1 M1 e1 m1 r1 ⟨fs, hi, hf, q1⟩
      obtain ⟨a, dd, es, rfl, h1, h2, h3⟩ := ins_at m1 r1 hi
      have hl : es.lookup mn = none := by
        rcases fld_rep (f := mn) h2 h3 with ⟨_, h⟩ | ⟨v, d', h4, _⟩
        · exact h
        · rw [hf] at h4; cases h4
      exact ⟨a, dd, es, rfl, h1, hl, N, M1, Γ, _, o.go e1 m1, q1, fun vs ds H2 M2 e2 m2 r2 ⟨hn, q2⟩ => ⟨by rw [r2.len]; exact hn, N, M2, dx :: gd ds, Q', m2, .cons (r1.sub e2.im) (hd _ _ _ (by rw [r2.len]; exact hn) r2), q2, k.go (e1.trans e2)⟩⟩
/-! ### new instances -/
theorem MOk.ins (m : MOk K N M H) {a C : Addr} {fs : List (Str × D)} (h : M a = some (.ins C fs)) : Rep K (imm N (drop M a) H) (.ref a) (.ins C fs) := by
  obtain ⟨dx, es, h1, h2, h3⟩ := m.mo a _ h
  refine .ins (imm_of (fun n => ?_) drop_same h1) h2 (h3.sub (imm_drop a))
  rw [m.nm a n] at h
  cases h
/-- C(..), kept as it is from now on -/
def aMake (C : Addr) (A : ASp) (aa : AA) : AE := fun Γ M Q => aa Γ M fun ds M1 => ∀ a, M1 a = none → A (.ref a :: ds) (put M1 a (.ins C [])) fun d M2 => d = .non ∧ ∃ fs, M2 a = some (.ins C fs) ∧ Q (.ins C fs) (drop M2 a)
/-- C(..), which may change -/
def aMakeM (C : Addr) (A : ASp) (aa : AA) : AE := fun Γ M Q => aa Γ M fun ds M1 => ∀ a, M1 a = none → A (.ref a :: ds) (put M1 a (.ins C [])) fun d M2 => d = .non ∧ Q (.ref a) M2
theorem made (m : MOk K N M H) {x dx C : Addr} (hx : H x = none) (hd : H dx = none) (ne : dx ≠ x) : MOk K N (put M x (.ins C [])) (upd (upd H dx (.own x)) x (.ins C dx [])) ∧ Ext N M H (put M x (.ins C [])) (upd (upd H dx (.own x)) x (.ins C dx [])) := by
  obtain ⟨m1, e1, _⟩ := m.new hd (.own x)
  have hx2 : upd H dx (.own x) x = none := by rw [upd_ne (fun z => ne z.symm)]; exact hx
  obtain ⟨m2, e2⟩ := m1.newM hx2 (o := .ins C dx []) (u := .ins C []) fun F' H' s f => ⟨dx, [], f, rfl, .nil⟩
  exact ⟨m2, e1.trans e2⟩
theorem make_run {aa : AA} {Q : VK} (h : cE K (aMake C A aa) σ H Q) : tMake C (spA K A) [] E0 (cA K aa) σ H Q := by
  obtain ⟨N, M, Γ, Q', o, q, k⟩ := h
  refine ⟨N, M, Γ, _, o, q, ?_⟩
  rintro vs ds H1 M1 e1 m1 r1 q1 x dx hx hd ne
  rw [List.append_nil]
  obtain ⟨m2, e2⟩ := made (C := C) m1 hx hd ne
  refine ⟨N, _, .ref x :: ds, _, m2, .cons (.ref x) (r1.sub e2.im), q1 x (m1.freshM hx), ?_⟩
  rintro v d H3 M3 e3 m3 r3 ⟨rfl, fs, hm, q3⟩
  obtain ⟨m4, e4⟩ := m3.freeze x
  cases r3
  exact ⟨rfl, k _ _ _ _ ((e1.trans e2).trans (e3.trans e4)) m4 (m3.ins hm) q3⟩
theorem makeM_run {aa : AA} {Q : VK} (h : cE K (aMakeM C A aa) σ H Q) : tMake C (spA K A) [] E0 (cA K aa) σ H Q := by
  obtain ⟨N, M, Γ, Q', o, q, k⟩ := h
  refine ⟨N, M, Γ, _, o, q, ?_⟩
  rintro vs ds H1 M1 e1 m1 r1 q1 x dx hx hd ne
  rw [List.append_nil]
  obtain ⟨m2, e2⟩ := made (C := C) m1 hx hd ne
  refine ⟨N, _, .ref x :: ds, _, m2, .cons (.ref x) (r1.sub e2.im), q1 x (m1.freshM hx), ?_⟩
  rintro v d H3 M3 e3 m3 r3 ⟨rfl, q3⟩
  cases r3
  exact ⟨rfl, k _ _ _ _ ((e1.trans e2).trans e3) m3 (.ref x) q3⟩
theorem ae_make (D : HasC X.prog X.w X.K X.mg X.base k x C ps (spA K A)) (hr : Room (k + 1) X.A) (hq : Quiet X.A) (ha : PA X (e :: es) (cA K aa)) (hg : Gl X x := by rfl)
    (hdb : (x == ("__debug__" : Str)) = false := by decide) (he : starEach (e :: es) X.env = (false, eval e X.env) :: starEach es X.env := by rfl) (hpl : (backTo pos (starEach es X.env)).any (·.1) = false := by rfl) :
    PE X (.Call (.Name x p) (e :: es) [] pos) (cE K (aMake C A aa)) := PE.to (pe_mkG D hr hq ha hg hdb he hpl) fun _ _ _ h => make_run h
theorem ae_makeM (D : HasC X.prog X.w X.K X.mg X.base k x C ps (spA K A)) (hr : Room (k + 1) X.A) (hq : Quiet X.A) (ha : PA X (e :: es) (cA K aa)) (hg : Gl X x := by rfl)
    (hdb : (x == ("__debug__" : Str)) = false := by decide) (he : starEach (e :: es) X.env = (false, eval e X.env) :: starEach es X.env := by rfl) (hpl : (backTo pos (starEach es X.env)).any (·.1) = false := by rfl) :
    PE X (.Call (.Name x p) (e :: es) [] pos) (cE K (aMakeM C A aa)) := PE.to (pe_mkG D hr hq ha hg hdb he hpl) fun _ _ _ h => makeM_run h
end
end
end LA
/-! Dict displays, dict(pairs), comprehensions with two fors. -/
namespace LA
open PySem PySem.Spec PyProof.Rows L2 Lay
section
variable {X : Cx} {K : PySem.W.Frag} {N : Addr → Prop} {M M' : Mem} {H H' : Hp} {σ : L2.St} {Γ : Sl} {pos : Pos}
/-! ### dict displays -/
def aPairs : List (AE × AE) → Sl → Mem → (List (D × D) → Mem → Prop) → Prop
  | [], _, M, Q => Q [] M
  | (ak, av) :: r, Γ, M, Q => ak Γ M fun x M1 => av Γ M1 fun y M2 => aPairs r Γ M2 fun ps M3 => Q ((x, y) :: ps) M3
def PPsA (X : Cx) (K : PySem.W.Frag) (pos : Pos) (keys : List (Option Expr)) (values : List Expr) (trs : List (AE × AE)) : Prop := PPs X pos keys values (trs.map fun t => (cE K t.1, cE K t.2))
theorem aps_nil : PPsA X K pos [] [] [] := pps_nil
theorem aps_cons {k v : Expr} {ks : List (Option Expr)} {vs : List Expr} {ak av : AE} {trs : List (AE × AE)} (hk : PE X k (cE K ak)) (hv : PE X v (cE K av)) (hr : PPsA X K pos ks vs trs) : PPsA X K pos (some k :: ks) (v :: vs) ((ak, av) :: trs) := pps_cons hk hv hr
theorem pairs_run : ∀ {trs : List (AE × AE)} {M : Mem} {H : Hp} {Q' : List (D × D) → Mem → Prop} {Q : List (V × V) → Hp → Prop}, Ok K N M H σ Γ → aPairs trs Γ M Q' →
    (∀ ps ds H' M', Ext N M H M' H' → MOk K N M' H' → RepA K (imm N M' H') (ps.map (·.1)) (ds.map (·.1)) → RepA K (imm N M' H') (ps.map (·.2)) (ds.map (·.2)) → Q' ds M' → Q ps H') → tPairs (trs.map fun t => (cE K t.1, cE K t.2)) σ H Q
  | [], M, H, Q', Q, o, q, k => k [] [] H M .refl o.m .nil .nil q
  | (ak, av) :: r, M, H, Q', Q, o, q, k => ⟨N, M, Γ, _, o, q, fun x dx H1 M1 e1 m1 r1 q1 => ⟨N, M1, Γ, _, o.go e1 m1, q1, fun y dy H2 M2 e2 m2 r2 q2 =>
      pairs_run ((o.go e1 m1).go e2 m2) q2 fun ps ds H3 M3 e3 m3 p1 p2 q3 => k ((x, y) :: ps) ((dx, dy) :: ds) H3 M3 ((e1.trans e2).trans e3) m3 (.cons (r1.sub (e2.im.trans e3.im)) p1) (.cons (r2.sub e3.im) p2) q3⟩⟩
def keyedD : List (D × D) → Option (List (Key × D))
  | [] => some []
  | (k, d) :: r => match keyOf k, keyedD r with
    | some z, some t => some ((z, d) :: t)
    | _, _ => none
def mergeD (kvs more : List (Key × D)) : List (Key × D) := more.foldl (fun acc kv => putD acc kv.1 kv.2) kvs
theorem keyed_rep {F : Hp} : ∀ {ps : List (V × V)} {ds : List (D × D)} {kvs : List (Key × D)}, RepA K F (ps.map (·.1)) (ds.map (·.1)) → RepA K F (ps.map (·.2)) (ds.map (·.2)) → keyedD ds = some kvs →
    ∃ es : List (Key × V), ps = es.map (fun kv => (kV kv.1, kv.2)) ∧ es.map (·.1) = kvs.map (·.1) ∧ RepA K F (es.map (·.2)) (kvs.map (·.2))
  | [], [], _, _, _, e => by cases e; exact ⟨[], rfl, rfl, .nil⟩
  | [], _ :: _, _, h, _, _ => by cases h
  | _ :: _, [], _, h, _, _ => by cases h
  | (k, v) :: r, (dk, d) :: s, kvs, h1, h2, e => by
    simp only [List.map_cons] at h1 h2
    cases h1 with
    | cons a1 a2 => cases h2 with
      | cons b1 b2 =>
        unfold keyedD at e
        split at e
        · rename_i z t e1 e2
          cases e
          obtain ⟨es, i1, i2, i3⟩ := keyed_rep a2 b2 e2
          have := key_v a1 e1
          subst this
          exact ⟨(z, v) :: es, by rw [i1]; rfl, by simp [i2], .cons b1 i3⟩
        · cases e
theorem merge_rep {F : Hp} : ∀ {more : List (Key × V)} {md : List (Key × D)} {es : List (Key × V)} {kvs : List (Key × D)}, more.map (·.1) = md.map (·.1) → RepA K F (more.map (·.2)) (md.map (·.2)) →
    es.map (·.1) = kvs.map (·.1) → RepA K F (es.map (·.2)) (kvs.map (·.2)) → (mergeK es more).map (·.1) = (mergeD kvs md).map (·.1) ∧ RepA K F ((mergeK es more).map (·.2)) ((mergeD kvs md).map (·.2))
  | [], [], _, _, _, _, e, r => ⟨e, r⟩
  | [], _ :: _, _, _, h, _, _, _ => by simp at h
  | _ :: _, [], _, _, h, _, _, _ => by simp at h
  | (k, v) :: r, (k', d) :: s, es, kvs, h1, h2, e, rr => by
    simp only [List.map_cons, List.cons.injEq] at h1
    obtain ⟨e1, e2⟩ := h1
    subst e1
    simp only [List.map_cons] at h2
    cases h2 with
    | cons a b =>
      obtain ⟨p1, p2⟩ := put_rep (k := k) a e rr
      exact merge_rep (es := putK es k v) (kvs := putD kvs k d) e2 b p1 p2
def aDisp (trs : List (AE × AE)) : AE := fun Γ M Q => aPairs trs Γ M fun ps M1 => ∃ kvs, keyedD ps = some kvs ∧ kvs.length ≤ 15 ∧ Q (.dK (mergeD [] kvs)) M1
theorem ae_disp {keys : List (Option Expr)} {values : List Expr} {trs : List (AE × AE)} (h : PPsA X K pos keys values trs) (hall : keys.all (·.isSome) = true) (hl : keys.length = values.length) (h0 : keys ≠ [])
    (h15 : keys.length ≤ 15) : PE X (.Dict keys values pos) (cE K (aDisp trs)) := PE.to (pe_disp h hall hl h0 h15) fun σ H Q ⟨N, M, Γ, Q', o, q, k⟩ => fun p hp => by
  obtain ⟨m1, s1⟩ := o.m.hide (o := .dK []) hp
  refine pairs_run (N := fun b => N b ∨ b = p) ⟨m1, paired_sub s1 o.sl⟩ q ?_
  rintro ps ds H2 M2 e2 m2 r1 r2 ⟨kvs, hk, hl, q2⟩
  have hpd : H2 p = some (.dK []) := by rw [e2.hid p (.inr rfl), upd_same]
  obtain ⟨es, i1, i2, i3⟩ := keyed_rep r1 r2 hk
  refine ⟨hpd, es, i1, by have := congrArg List.length i2; simp only [List.length_map] at this; omega, ?_⟩
  obtain ⟨m3, e3⟩ := m2.hidden (o := .dK (mergeK [] es))
  obtain ⟨p1, p2⟩ := merge_rep (es := []) (kvs := []) i2 (i3.sub (F := imm (fun b => N b ∨ b = p) M2 H2) (G := imm N M2 (upd H2 p (.dK (mergeK [] es)))) ((by rw [e3]; exact Sam.refl : Sam _ (imm (fun b => N b ∨ b = p) M2 (upd H2 p (.dK (mergeK [] es))))).trans hide_sub)) rfl .nil
  have np : ¬ N p := o.m.freshN hp
  refine k (.ref p) (.dK (mergeD [] kvs)) _ M2 ⟨(s1.trans (e2.im.trans (by rw [e3]; exact Sam.refl))).trans hide_sub, fun b n => ?_⟩ m3.unhide (.dK (.inl (imm_of np (m2.nm p (.inr rfl)) upd_same)) p1 p2) q2
  have nb : b ≠ p := fun z => np (z ▸ n)
  rw [upd_ne nb, e2.hid b (.inl n), upd_ne nb]
/-! ### dict(t), t a tuple of pairs whose first items are tuples of ints and texts -/
def rowsD : List D → Option (List (List Key × D))
  | [] => some []
  | .tup [.tup ks, d] :: r => if ks.isEmpty = true then none else match keysOf ks, rowsD r with
    | some z, some t => some ((z, d) :: t)
    | _, _ => none
  | _ => none
def aDictT : AL := fun xs M Q => ∃ ds kvs, xs = [.tup ds] ∧ rowsD ds = some kvs ∧ (kvs.map (·.1)).Nodup ∧ (ds ≠ [] ∨ True) ∧ Q (.dT kvs) M
theorem rows_rep {F : Hp} : ∀ {vs : List V} {ds : List D} {kvs : List (List Key × D)}, RepA K F vs ds → rowsD ds = some kvs →
    ∃ rs : List LT.PairRow, vs = rs.map (fun r => V.ref r.1) ∧ (∀ r ∈ rs, SqT K F r.1 [.ref r.2.2.1, r.2.2.2] ∧ F r.2.2.1 = some (.tup (r.2.1.map kV))) ∧ rs.map (·.2.1) = kvs.map (·.1) ∧ RepA K F (rs.map (·.2.2.2)) (kvs.map (·.2))
  | _, _, _, .nil, e => by cases e; exact ⟨[], rfl, fun r h => absurd h (by simp), rfl, .nil⟩
  | v :: vs, d :: ds, kvs, .cons h t, e => by
    unfold rowsD at e
    split at e
    · rename_i e0; cases e0
    · rename_i ks d' r' e0
      cases e0
      split at e
      · cases e
      rename_i hne
      split at e
      · rename_i z tt e1 e2
        cases e
        obtain ⟨rs, i1, i2, i3, i4⟩ := rows_rep t e2
        cases h with
        | @tup a xs _ ha ra =>
          cases ra with
          | cons a1 a2 => cases a2 with
            | cons b1 b2 =>
              cases b2
              cases a1 with
              | @tup ka kx _ hka rka =>
                have hkey := hka.key (keyV_of rka e1 hne)
                rw [keys_v rka e1] at hkey
                refine ⟨(a, z, ka, _) :: rs, by rw [i1]; rfl, fun r hr => ?_, by simp [i3], .cons b1 i4⟩
                rcases List.mem_cons.mp hr with rfl | hr
                · exact ⟨ha.sq, hkey⟩
                · exact i2 r hr
      · cases e
    · cases e
theorem refs_key {rs : List LT.PairRow} : keyV (rs.map (fun r => V.ref r.1)) = false := by
  cases rs with
  | nil => rfl
  | cons r t => rfl
theorem s_dictT : SL K (LT.rDictT K) aDictT := by
  rintro N M H xs ds0 Q Q' m rs ⟨ds, kvs, rfl, hr, nd, _, q⟩ k
  cases rs with
  | cons r1 r2 =>
    cases r2
    cases r1 with
    | @tup a vs _ ha ra =>
      obtain ⟨rows, i1, i2, i3, i4⟩ := rows_rep ra hr
      subst i1
      obtain ⟨ob, hd, hh⟩ := ha.held refs_key
      refine ⟨a, ob, rows, rfl, imm_sub _ _ hh, hd, fun r hr => ⟨seqT (.of imm_sub) (i2 r hr).1, imm_sub _ _ (i2 r hr).2⟩, by rw [i3]; exact nd, fun l hl => ?_⟩
      refine k.new m hl (fun F s f => .dT (es := rows.map fun r => (r.2.1, r.2.2.2)) (.inl f) ?_ ?_) q
      · rw [List.map_map]
        exact i3
      · rw [List.map_map]
        exact i4.sub s
end
end LA
/-! Turned about; a value's truth; comprehensions with two fors. -/
namespace LA
open PySem PySem.Spec PyProof.Rows L2 Lay
section
variable {X : Cx} {K : PySem.W.Frag} {N : Addr → Prop} {M M' : Mem} {H H' : Hp} {σ : L2.St} {Γ : Sl} {pos : Pos}
def aRev (ae : AE) : AE := fun Γ M Q => ae Γ M fun d M1 => ∃ ds, listD M1 d = some ds ∧ Q (.lst ds.reverse) M1
theorem See.list {F H : Hp} {v : V} {M : Mem} {d : D} {ds : List D} (h : See K F H v (view M d)) (e : listD M d = some ds) : ∃ a xs, v = .ref a ∧ SqL K H a xs ∧ RepA K F xs ds := by
  unfold listD at e
  split at e
  · rename_i e1
    cases e
    rw [e1] at h
    cases h with
    | lst h r => exact ⟨_, _, rfl, .inl (.inl h), r⟩
  · rename_i e1
    cases e
    rw [e1] at h
    cases h with
    | scr h r => exact ⟨_, _, rfl, h, r⟩
  · cases e
theorem ae_rev {e : Expr} {ae : AE} {k : Nat} {p1 p2 p3 : Pos} (he : PE X e (cE K ae)) (h : X.K = K := by rfl) : PE X (.Subscript e (.Slice none none (some (.UnaryOp .USub (.Constant (.int 1) k p1) p2)) p3) pos) (cE K (aRev ae)) := by
  subst h
  exact PE.to (pe_revL he) fun σ H Q ⟨N, M, Γ, Q', o, q, k⟩ => ⟨N, M, Γ, _, o, q, by
    rintro x dx H1 M1 e1 m1 r1 ⟨ds, hl, q1⟩
    obtain ⟨a, xs, rfl, h1, h2⟩ := (see m1 r1).list hl
    exact ⟨a, xs, rfl, h1, fun p hp => (k.go e1).new m1 hp (fun F s f => .lst f (h2.sub s).rev) q1⟩⟩
/-- a list, a tuple, a text: whether it is not empty -/
def truD : D → Option Bool
  | .bl b => some b
  | .str z => some (!z.cps.isEmpty)
  | .int i => some (decide (i ≠ 0))
  | .non => some false
  | _ => none
end
end LA
/-! What the readings say of plain data. -/
namespace LA
open PySem PySem.Spec PyProof.Rows L2 Lay
theorem _root_.L2.Room.u1 {k : Nat} {A : Around} (r : Room k A) : A.units + 1 < cLine := by have := r.un; omega
theorem _root_.L2.Room.u65 {k : Nat} {A : Around} (r : Room k A) : A.units + 65 < cLine := by have := r.un; omega
theorem _root_.L2.Room.units3 {k : Nat} {A : Around} (r : Room k A) : A.units + 3 < cLine := by have := r.un; omega
theorem view_plain {M : Mem} : ∀ {d : D}, plain d = true → view M d = d
  | .non, _ => rfl
  | .bl _, _ => rfl
  | .int _, _ => rfl
  | .str _, _ => rfl
  | .lst _, _ => rfl
  | .scr _, _ => rfl
  | .tup _, _ => rfl
  | .ref _, h => nomatch h
  | .par _, h => nomatch h
  | .ty _, h => nomatch h
  | .dK _, h => nomatch h
  | .dT _, h => nomatch h
  | .ins _ _, h => nomatch h
def isTyB (U : String) : D → Bool
  | .non => decide (U = "NoneType")
  | .bl _ => decide (U = "bool") || decide (U = "int")
  | .int _ => decide (U = "int")
  | .str _ => decide (U = "str")
  | .lst _ => decide (U = "list")
  | .scr _ => decide (U = "list")
  | .tup _ => decide (U = "tuple")
  | _ => false
theorem isi_plain {M : Mem} {d : D} {U : String} {Q : D → Mem → Prop} (h : plain d = true) (hU : U = "int" ∨ U = "bool" ∨ U = "str" ∨ U = "tuple" ∨ U = "list") (q : Q (.bl (isTyB U d)) M) : aIsi [d, .ty U] M Q := by
  have hv := view_plain (M := M) h
  cases d <;> simp only [plain, Bool.false_eq_true] at h <;>
    rcases hU with rfl | rfl | rfl | rfl | rfl <;> exact ⟨_, _, _, _, rfl, by rw [hv]; rfl, rfl, q⟩
end LA
namespace LA
open PySem PySem.Spec PyProof.Rows L2 Lay
/-- a comprehension that changes nothing -/
theorem lc_go {w : Walk} {ag : AG} {at' : AT} {ae : AE} {vs : List Nat} {Γ : Sl} {M : Mem} {Q : D → Mem → Prop} (p : D → Bool) (f : D → D) (hs : w.stay M) (hl : w.items.length ≤ 1000000)
    (h : ∀ d ∈ w.items, ∀ (P : D → Mem → Prop) (R : Mem → Prop), (p d = true → P (f d) M) → (p d = false → R M) → ag d (wipeA Γ vs) M fun Γ2 M2 => at' Γ2 M2 fun b M3 => if b = true then ae Γ2 M3 P else R M3)
    (q : Q (.lst ((w.items.filter p).map f)) M) : LcB w ag at' ae vs Γ M Q := by
  refine ⟨fun i acc M' => M' = M ∧ acc = ((w.items.take i).filter p).map f, ⟨rfl, rfl⟩, fun i acc M' _ e => by rw [e.1]; exact hs, ?_, fun acc M' e => by rw [e.1, e.2, List.take_length]; exact q⟩
  rintro i d acc M' hd ⟨rfl, rfl⟩
  have hlt : i < w.items.length := (List.getElem?_eq_some_iff.mp hd).1
  refine h d (List.mem_of_getElem? hd) _ _ (fun hp => ⟨?_, rfl, ?_⟩) (fun hp => ⟨rfl, ?_⟩)
  · rw [List.length_map]
    have := List.length_filter_le p (w.items.take i)
    rw [List.length_take] at this
    omega
  · rw [List.take_succ, hd]
    simp [List.filter_append, hp]
  · rw [List.take_succ, hd]
    simp [List.filter_append, hp]
/-- .. without a test -/
theorem lc_map {w : Walk} {ag : AG} {ae : AE} {vs : List Nat} {Γ : Sl} {M : Mem} {Q : D → Mem → Prop} {at' : AT} (f : D → D) (hs : w.stay M) (hl : w.items.length ≤ 1000000)
    (h : ∀ d ∈ w.items, ∀ (P : D → Mem → Prop) (R : Mem → Prop), P (f d) M → ag d (wipeA Γ vs) M fun Γ2 M2 => at' Γ2 M2 fun b M3 => if b = true then ae Γ2 M3 P else R M3)
    (q : Q (.lst (w.items.map f)) M) : LcB w ag at' ae vs Γ M Q := by
  refine lc_go (fun _ => true) f hs hl (fun d hd P R hp _ => h d hd P R (hp rfl)) ?_
  have : w.items.filter (fun _ => true) = w.items := List.filter_eq_self.mpr fun _ _ => rfl
  rw [this]
  exact q
theorem bools_map (g : D → Bool) : ∀ ds : List D, bools (ds.map fun d => .bl (g d)) = some (ds.map g)
  | [] => rfl
  | d :: r => by
    rw [List.map_cons, List.map_cons, bools, bools_map g r]
    rfl
end LA
namespace LA
open PySem PySem.Spec PyProof.Rows L2 Lay
mutual
/-- texts that are not too long -/
def shortD : D → Bool
  | .str z => decide (z.length ≤ 1000000)
  | .lst ds => decide (ds.length ≤ 1000000) && shortL ds
  | .scr ds => decide (ds.length ≤ 1000000) && shortL ds
  | .tup ds => decide (ds.length ≤ 1000000) && shortL ds
  | _ => true
def shortL : List D → Bool
  | [] => true
  | d :: r => shortD d && shortL r
end
theorem short_mem : ∀ {ds : List D} {d : D}, shortL ds = true → d ∈ ds → shortD d = true
  | d0 :: r, d, l, h => by
    rw [shortL, Bool.and_eq_true] at l
    rcases List.mem_cons.mp h with rfl | h
    · exact l.1
    · exact short_mem l.2 h
/-- data that all operators take -/
structure Fine (d : D) : Prop where
  plain : LA.plain d = true
  short : shortD d = true
  lay : (py d).canLay0 = true
  dep : (py d).depth ≤ 60
def eqD (x y : D) : Bool := PyData.eqv (py x) (py y)
def ltD (x y : D) : Bool := PySem.W.dataLt (py x) (py y)
section
variable {M : Mem} {Q : D → Mem → Prop} {a b : Int} {x y : Str} {d e : D} {ds : List D}
theorem Fine.shortL (h : Fine d) {ds : List D} (e : shortD d = (decide (ds.length ≤ 1000000) && LA.shortL ds)) : LA.shortL ds = true := by
  have := h.short
  rw [e, Bool.and_eq_true] at this
  exact this.2
theorem Fine.len {ds : List D} (h : Fine (.tup ds)) : ds.length ≤ 1000000 := by
  have : (decide (ds.length ≤ 1000000) && LA.shortL ds) = true := h.short
  rw [Bool.and_eq_true] at this
  exact of_decide_eq_true this.1
theorem Fine.lenL {ds : List D} (h : Fine (.lst ds)) : ds.length ≤ 1000000 := by
  have : (decide (ds.length ≤ 1000000) && LA.shortL ds) = true := h.short
  rw [Bool.and_eq_true] at this
  exact of_decide_eq_true this.1
theorem Fine.view (h : Fine d) : view M d = d := view_plain h.plain
theorem Fine.okE (h : Fine d) : okE d := ⟨h.plain, by unfold SeqAt.shaped; rw [h.lay, Bool.true_and]; exact decide_eq_true (by have := h.dep; omega)⟩
theorem fine_int : Fine (.int a) := ⟨rfl, rfl, rfl, by simp [py, PyData.depth]⟩
theorem fine_bl {c : Bool} : Fine (.bl c) := ⟨rfl, rfl, rfl, by simp [py, PyData.depth]⟩
theorem fine_non : Fine .non := ⟨rfl, rfl, rfl, by simp [py, PyData.depth]⟩
theorem fine_str (h : PyData.strOk x = true) (hl : x.length ≤ 1000000) : Fine (.str x) := ⟨rfl, decide_eq_true hl, by simpa [py, PyData.canLay0] using h, by simp [py, PyData.depth]⟩
theorem depth_mem : ∀ {ds : List D} {d : D}, d ∈ ds → (py d).depth ≤ PyData.depthAll (pyL ds)
  | d0 :: r, d, h => by
    rw [pyL]
    simp only [PyData.depthAll]
    rcases List.mem_cons.mp h with rfl | h
    · omega
    · have := depth_mem h
      omega
theorem lay_mem : ∀ {ds : List D} {d : D}, PyData.canLayAll0 (pyL ds) = true → d ∈ ds → (py d).canLay0 = true
  | d0 :: r, d, l, h => by
    rw [pyL, PyData.canLayAll0, Bool.and_eq_true] at l
    rcases List.mem_cons.mp h with rfl | h
    · exact l.1
    · exact lay_mem l.2 h
theorem plain_mem {ds : List D} {d : D} (l : plainL ds = true) (h : d ∈ ds) : LA.plain d = true := by
  rw [plainL_all, List.all_eq_true] at l
  exact l d h
theorem fine_tup (h : Fine (.tup ds)) : ∀ d ∈ ds, Fine d := fun d hd => by
  have h1 : plainL ds = true := h.plain
  have h2 : PyData.canLayAll0 (pyL ds) = true := by have := h.lay; simpa [py, PyData.canLay0] using this
  have h3 : PyData.depthAll (pyL ds) + 1 ≤ 60 := by have := h.dep; simp only [py, PyData.depth] at this; omega
  exact ⟨plain_mem h1 hd, short_mem (h.shortL rfl) hd, lay_mem h2 hd, by have := depth_mem hd; omega⟩
theorem fine_lst (h : Fine (.lst ds)) : ∀ d ∈ ds, Fine d := fun d hd => by
  have h1 : plainL ds = true := h.plain
  have h2 : PyData.canLayAll0 (pyL ds) = true := by have := h.lay; simpa [py, PyData.canLay0] using this
  have h3 : PyData.depthAll (pyL ds) + 1 ≤ 60 := by have := h.dep; simp only [py, PyData.depth] at this; omega
  exact ⟨plain_mem h1 hd, short_mem (h.shortL rfl) hd, lay_mem h2 hd, by have := depth_mem hd; omega⟩
/-! the operators on it -/
theorem aEq_f (h : Fine d) (k : Fine e) : aEq false d e M Q = Q (.bl (eqD d e)) M := by
  refine propext ⟨fun z => ?_, fun z => ?_⟩
  · have := z.2.2
    rw [h.view, k.view] at this
    exact this
  · refine ⟨by rw [h.view]; exact h.okE, by rw [k.view]; exact k.okE, ?_⟩
    rw [h.view, k.view]
    exact z
theorem aNe_f (h : Fine d) (k : Fine e) : aEq true d e M Q = Q (.bl (!eqD d e)) M := by
  refine propext ⟨fun z => ?_, fun z => ?_⟩
  · have := z.2.2
    rw [h.view, k.view] at this
    exact this
  · refine ⟨by rw [h.view]; exact h.okE, by rw [k.view]; exact k.okE, ?_⟩
    rw [h.view, k.view]
    exact z
theorem aLt_ii : aLt (.int a) (.int b) M Q = Q (.bl (decide (a < b))) M := by
  have e : PySem.W.dataLt (.int a) (.int b) = decide (a < b) := by
    simp [PySem.W.dataLt, PySem.W.keyToks, PyProof.Rows.lexLt, itemOrd, itemLt]
  refine propext ⟨fun z => ?_, fun z => ⟨⟨rfl, rfl⟩, rfl, (fun h => nomatch h), by simp [LA.view, py, PyData.depth], ?_⟩⟩
  · have := z.2.2.2.2
    rw [← e]
    exact this
  · rw [← e] at z
    exact z
theorem kit_is {U : String} (hp : LA.plain d = true) (hU : U = "int" ∨ U = "bool" ∨ U = "str" ∨ U = "tuple" ∨ U = "list") : ∃ T, tyD d = some T ∧ kitB T U = some (isTyB U d) := by
  cases d <;> simp only [LA.plain, Bool.false_eq_true] at hp <;>
    rcases hU with rfl | rfl | rfl | rfl | rfl <;> exact ⟨_, rfl, rfl⟩
theorem isi_f {U : String} (h : Fine d) (hU : U = "int" ∨ U = "bool" ∨ U = "str" ∨ U = "tuple" ∨ U = "list") : aIsi [d, .ty U] M Q = Q (.bl (isTyB U d)) M := by
  refine propext ⟨fun z => ?_, fun q => isi_plain h.plain hU q⟩
  obtain ⟨d', T, U', b, e, t, kb, q⟩ := z
  simp only [List.cons.injEq, D.ty.injEq, and_true] at e
  obtain ⟨rfl, rfl⟩ := e
  rw [h.view] at t
  obtain ⟨T', t', kb'⟩ := kit_is h.plain hU
  rw [t] at t'
  cases t'
  rw [kb] at kb'
  cases kb'
  exact q
theorem len_tup : aLen [.tup ds] M Q = Q (.int ds.length) M := by
  refine propext ⟨fun z => ?_, fun z => ⟨_, _, rfl, rfl, z⟩⟩
  obtain ⟨d, n, e, h, q⟩ := z
  cases e
  cases h
  exact q
theorem len_lst : aLen [.lst ds] M Q = Q (.int ds.length) M := by
  refine propext ⟨fun z => ?_, fun z => ⟨_, _, rfl, rfl, z⟩⟩
  obtain ⟨d, n, e, h, q⟩ := z
  cases e
  cases h
  exact q
theorem atI_nat {k : Nat} (h : ds[k]? = some d) : atI ds (k : Int) = some d := by
  have hl := (List.getElem?_eq_some_iff.mp h).1
  unfold atI ixN
  rw [if_pos (by omega), if_pos (by omega)]
  simpa using h
theorem ix_tk (k : Nat) (h : ds[k]? = some d) : aIx (.tup ds) (.int k) M Q = Q d M := by
  have e := atI_nat h
  refine propext ⟨fun ⟨d', h', q⟩ => ?_, fun q => ⟨_, e, q⟩⟩
  have : some d' = some d := h'.symm.trans e
  cases this
  exact q
theorem ix_lk (k : Nat) (h : ds[k]? = some d) : aIx (.lst ds) (.int k) M Q = Q d M := by
  have e := atI_nat h
  refine propext ⟨fun ⟨d', h', q⟩ => ?_, fun q => ⟨_, e, q⟩⟩
  have : some d' = some d := h'.symm.trans e
  cases this
  exact q
theorem ix_last (h : ds ≠ []) : aIx (.tup ds) (.int (-1)) M Q = Q (ds.getLast h) M := by
  have hl : 0 < ds.length := List.length_pos_iff.mpr h
  have e : atI ds (-1) = some (ds.getLast h) := by
    unfold atI ixN
    rw [if_neg (by omega), if_pos (by omega)]
    have : ((-1 : Int) + (ds.length : Int)).toNat = ds.length - 1 := by omega
    show ds[((-1 : Int) + (ds.length : Int)).toNat]? = _
    rw [this, List.getLast_eq_getElem]
    exact List.getElem?_eq_getElem (by omega)
  refine propext ⟨fun ⟨d', h', q⟩ => ?_, fun q => ⟨_, e, q⟩⟩
  have : some d' = some (ds.getLast h) := h'.symm.trans e
  cases this
  exact q
theorem ix_t0 : aIx (.tup (d :: ds)) (.int 0) M Q = Q d M := ix_tk 0 rfl
theorem ix_t1 {d1 : D} : aIx (.tup (d :: d1 :: ds)) (.int 1) M Q = Q d1 M := ix_tk 1 rfl
theorem ix_t2 {d1 d2 : D} : aIx (.tup (d :: d1 :: d2 :: ds)) (.int 2) M Q = Q d2 M := ix_tk 2 rfl
theorem ix_t3 {d1 d2 d3 : D} : aIx (.tup (d :: d1 :: d2 :: d3 :: ds)) (.int 3) M Q = Q d3 M := ix_tk 3 rfl
theorem Fine.len_str {z : Str} (h : Fine (.str z)) : z.length ≤ 1000000 := of_decide_eq_true h.short
theorem len_str {z : Str} (h : z.length ≤ 1000000) : aLen [.str z] M Q = Q (.int z.length) M := by
  refine propext ⟨fun w => ?_, fun w => ⟨_, _, rfl, by show (if z.length ≤ 1000000 then some (z.length : Int) else none) = _; rw [if_pos h], w⟩⟩
  obtain ⟨d, n, e, h', q⟩ := w
  cases e
  have h'' : (if z.length ≤ 1000000 then some (z.length : Int) else none) = some n := h'
  rw [if_pos h] at h''
  cases h''
  exact q
theorem aAdd_ii : aAdd (.int a) (.int b) M Q = Q (.int (a + b)) M := rfl
theorem aLt_f (h : Fine d) (k : Fine e) (hn : py d ≠ .none) (ha : PySem.W.alike (py d) (py e) = true) : aLt d e M Q = Q (.bl (ltD d e)) M := by
  refine propext ⟨fun z => ?_, fun z => ?_⟩
  · have := z.2.2.2.2
    rw [h.view, k.view] at this
    exact this
  · refine ⟨by rw [h.view, k.view]; exact ⟨h.plain, k.plain⟩, by rw [h.view, k.view]; exact ha, by rw [h.view]; exact hn, by rw [h.view]; exact h.dep, ?_⟩
    rw [h.view, k.view]
    exact z
theorem plainL_of (h : ∀ d ∈ ds, Fine d) : plainL ds = true := by
  rw [plainL_all, List.all_eq_true]
  exact fun d hd => (h d hd).plain
theorem layL_of : ∀ {ds : List D}, (∀ d ∈ ds, Fine d) → PyData.canLayAll0 (pyL ds) = true
  | [], _ => rfl
  | d :: r, h => by
    rw [pyL, PyData.canLayAll0, (h d (List.mem_cons_self ..)).lay, layL_of fun x hx => h x (List.mem_cons_of_mem _ hx)]
    rfl
theorem in_tup (hd : Fine d) (h : ∀ x ∈ ds, Fine x) : aIn false d (.tup ds) M Q = Q (.bl (ds.any fun z => eqD z d)) M := by
  refine propext ⟨fun z => ?_, fun z => ⟨⟨by rw [hd.view]; exact hd.okE, plainL_of h, layL_of h⟩, ?_⟩⟩
  · have := z.2
    rw [hd.view] at this
    exact this
  · rw [hd.view]
    exact z
theorem in_lst (hd : Fine d) (h : ∀ x ∈ ds, Fine x) : aIn false d (.lst ds) M Q = Q (.bl (ds.any fun z => eqD z d)) M := by
  refine propext ⟨fun z => ?_, fun z => ⟨⟨by rw [hd.view]; exact hd.okE, plainL_of h, layL_of h⟩, ?_⟩⟩
  · have := z.2
    rw [hd.view] at this
    exact this
  · rw [hd.view]
    exact z
theorem eqD_ss : eqD (.str x) (.str y) = decide (x = y) := by
  unfold eqD
  show (x == y) = _
  rw [Bool.eq_iff_iff]
  simp
theorem eqD_ii : eqD (.int a) (.int b) = decide (a = b) := by
  unfold eqD
  show (a == b) = _
  rw [Bool.eq_iff_iff]
  simp
/-- an item is less deep -/
theorem depth_tup {n : Nat} (h : (py (.tup ds)).depth ≤ n + 1) : ∀ d ∈ ds, (py d).depth ≤ n := fun d hd => by
  have := depth_mem hd
  simp only [py, PyData.depth] at h
  omega
theorem depth_pos {n : Nat} (h : (py (.tup ds)).depth ≤ n) : ∃ m, n = m + 1 := by
  simp only [py, PyData.depth] at h
  exact ⟨n - 1, by omega⟩
end
end LA
namespace LA
open PySem PySem.Spec PyProof.Rows L2 Lay
/-- a loop that looks at all, and may end early -/
theorem for_all {β : Type} {w : Walk} {ag : AG} {ab : AS} {A : AEnds} {Γ : Sl} {M : Mem} (p : D → Bool) (G : β → Sl) (h0 : ∃ x, Γ = G x) (hs : w.stay M)
    (step : ∀ d ∈ w.items, ∀ x, ∀ P : Sl → Mem → Prop, (p d = true → ∀ y, P (G y) M) → ag d (G x) M fun Γ2 M2 => ab { A with nx := P, ct := P, bk := A.nx } Γ2 M2)
    (fin : ∀ x, w.items.all p = true → A.nx (G x) M) : ForB w ag ab A Γ M := by
  refine ⟨fun i Γ' M' => M' = M ∧ (∃ x, Γ' = G x) ∧ (w.items.take i).all p = true, ⟨rfl, h0, rfl⟩, fun i Γ' M' _ e => by rw [e.1]; exact hs, ?_, ?_⟩
  · rintro i d Γ' M' hd ⟨rfl, ⟨x, rfl⟩, ha⟩
    refine step d (List.mem_of_getElem? hd) x _ fun hp y => ⟨rfl, ⟨y, rfl⟩, ?_⟩
    rw [List.take_succ, hd]
    simp [List.all_append, ha, hp]
  · rintro Γ' M' ⟨rfl, ⟨x, rfl⟩, ha⟩
    rw [List.take_length] at ha
    exact fin x ha
end LA
namespace LA
open PySem PySem.Spec PyProof.Rows L2 Lay
/-- a statement that is never reached -/
def aNever : AS := fun _ _ _ => False
theorem as_never {X : Cx} {K : PySem.W.Frag} {st : Stmt} : PS X st (cS K aNever) := ⟨fun pins s σ H D I w => by
  obtain ⟨N, M, Γ, A, o, q, k⟩ := w
  exact q.elim⟩
end LA
namespace LA
theorem isN_eq {d : D} {M : Mem} {Q : D → Mem → Prop} : aIsN false d .non M Q = Q (.bl (isNon d)) M := propext ⟨fun h => h.2, fun h => ⟨rfl, h⟩⟩
theorem notN_eq {d : D} {M : Mem} {Q : D → Mem → Prop} : aIsN true d .non M Q = Q (.bl (!isNon d)) M := propext ⟨fun h => h.2, fun h => ⟨rfl, h⟩⟩
end LA
namespace LA
open PySem PySem.Spec PyProof.Rows L2 Lay
/-! ### dicts that a comprehension fills -/
def putsD {κ : Type} [DecidableEq κ] (kvs more : List (κ × D)) : List (κ × D) := more.foldl (fun acc kv => putD acc kv.1 kv.2) kvs
theorem putD_new {κ : Type} [DecidableEq κ] {kvs : List (κ × D)} {k : κ} {d : D} (h : k ∉ kvs.map (·.1)) : putD kvs k d = kvs ++ [(k, d)] := by
  unfold putD
  have : (kvs.any fun kv => decide (kv.1 = k)) = false := by
    rw [List.any_eq_false]
    intro p hp
    rw [decide_eq_true_eq]
    exact fun e => h (e ▸ List.mem_map.mpr ⟨p, hp, rfl⟩)
  rw [this, if_neg (by decide)]
theorem puts_app {κ : Type} [DecidableEq κ] : ∀ (more kvs : List (κ × D)), ((kvs ++ more).map (·.1)).Nodup → putsD kvs more = kvs ++ more
  | [], kvs, _ => by simp [putsD]
  | (k, d) :: r, kvs, nd => by
    have hk : k ∉ kvs.map (·.1) := by
      rw [List.map_append, List.map_cons] at nd
      intro h
      exact (List.nodup_append.mp nd).2.2 k h k (List.mem_cons_self ..) rfl
    show putsD (putD kvs k d) r = _
    rw [putD_new hk, puts_app r (kvs ++ [(k, d)]) (by simpa using nd)]
    simp
theorem puts_nodup {κ : Type} [DecidableEq κ] {more : List (κ × D)} (h : (more.map (·.1)).Nodup) : putsD [] more = more := by
  rw [puts_app more [] (by simpa using h), List.nil_append]
theorem puts_snoc {κ : Type} [DecidableEq κ] {kvs more : List (κ × D)} {p : κ × D} : putsD kvs (more ++ [p]) = putD (putsD kvs more) p.1 p.2 := by
  unfold putsD
  rw [List.foldl_append]
  rfl
theorem len_putD {κ : Type} [DecidableEq κ] {kvs : List (κ × D)} {k : κ} {d : D} : (putD kvs k d).length ≤ kvs.length + 1 := by
  unfold putD
  split <;> simp
theorem len_putsD {κ : Type} [DecidableEq κ] : ∀ (more kvs : List (κ × D)), (putsD kvs more).length ≤ kvs.length + more.length
  | [], kvs => by simp [putsD]
  | p :: r, kvs => by
    have h1 := len_putsD r (putD kvs p.1 p.2)
    have h2 := len_putD (kvs := kvs) (k := p.1) (d := p.2)
    show (putsD (putD kvs p.1 p.2) r).length ≤ _
    rw [List.length_cons]
    omega
/-- keys that are tuples -/
theorem dcT_go {w : Walk} {ag : AG} {at' : AT} {ak av : AE} {vs : List Nat} {Γ : Sl} {M : Mem} {Q : D → Mem → Prop} (kd f : D → D) (key : D → List Key) (hs : w.stay M) (hl : w.items.length ≤ 1000000)
    (hk : ∀ d ∈ w.items, ∃ es, kd d = .tup es ∧ es.isEmpty = false ∧ keysOf es = some (key d))
    (h : ∀ d ∈ w.items, ∀ (C : D → D → Mem → Prop) (R : Mem → Prop), C (kd d) (f d) M → ag d (wipeA Γ vs) M fun Γ2 M2 => at' Γ2 M2 fun b M3 => if b = true then ak Γ2 M3 fun y M4 => av Γ2 M4 fun z M5 => C y z M5 else R M3)
    (q : Q (.dT (putsD [] (w.items.map fun d => (key d, f d)))) M) : DcB true w ag at' ak av vs Γ M Q := by
  refine ⟨fun i acc M' => M' = M ∧ acc = .dT (putsD [] ((w.items.take i).map fun d => (key d, f d))), ⟨rfl, rfl⟩, fun i acc M' _ e => by rw [e.1]; exact hs, ?_, fun acc M' e => by rw [e.1, e.2, List.take_length]; exact q⟩
  rintro i d acc M' hd ⟨rfl, rfl⟩
  have hlt : i < w.items.length := (List.getElem?_eq_some_iff.mp hd).1
  have hm := List.mem_of_getElem? hd
  obtain ⟨es, e1, e2, e3⟩ := hk d hm
  refine h d hm (fun y z M5 => ∃ acc', putAny _ y z = some acc' ∧ lenAny _ < 1000000 ∧ _) _ ⟨_, ?_, ?_, rfl, rfl⟩
  · rw [e1]
    show (if es.isEmpty = true then none else (keysOf es).map fun k => D.dT (putD _ k (f d))) = _
    rw [e2, if_neg (by decide), e3, Option.map_some, List.take_succ, hd]
    simp only [Option.toList_some, List.map_append, List.map_cons, List.map_nil, puts_snoc]
  · have := len_putsD ((w.items.take i).map fun d => (key d, f d)) []
    simp only [List.length_nil, List.length_map, List.length_take] at this
    show (putsD [] _).length < 1000000
    omega
/-- keys that are ints or texts -/
theorem dcK_go {w : Walk} {ag : AG} {at' : AT} {ak av : AE} {vs : List Nat} {Γ : Sl} {M : Mem} {Q : D → Mem → Prop} (kd f : D → D) (key : D → Key) (hs : w.stay M) (hl : w.items.length ≤ 1000000)
    (hk : ∀ d ∈ w.items, keyOf (kd d) = some (key d))
    (h : ∀ d ∈ w.items, ∀ (C : D → D → Mem → Prop) (R : Mem → Prop), C (kd d) (f d) M → ag d (wipeA Γ vs) M fun Γ2 M2 => at' Γ2 M2 fun b M3 => if b = true then ak Γ2 M3 fun y M4 => av Γ2 M4 fun z M5 => C y z M5 else R M3)
    (q : Q (.dK (putsD [] (w.items.map fun d => (key d, f d)))) M) : DcB false w ag at' ak av vs Γ M Q := by
  refine ⟨fun i acc M' => M' = M ∧ acc = .dK (putsD [] ((w.items.take i).map fun d => (key d, f d))), ⟨rfl, rfl⟩, fun i acc M' _ e => by rw [e.1]; exact hs, ?_, fun acc M' e => by rw [e.1, e.2, List.take_length]; exact q⟩
  rintro i d acc M' hd ⟨rfl, rfl⟩
  have hlt : i < w.items.length := (List.getElem?_eq_some_iff.mp hd).1
  have hm := List.mem_of_getElem? hd
  refine h d hm (fun y z M5 => ∃ acc', putAny _ y z = some acc' ∧ lenAny _ < 1000000 ∧ _) _ ⟨_, ?_, ?_, rfl, rfl⟩
  · show ((keyOf (kd d)).map fun k => D.dK (putD _ k (f d))) = _
    rw [hk d hm, Option.map_some, List.take_succ, hd]
    simp only [Option.toList_some, List.map_append, List.map_cons, List.map_nil, puts_snoc]
  · have := len_putsD ((w.items.take i).map fun d => (key d, f d)) []
    simp only [List.length_nil, List.length_map, List.length_take] at this
    show (putsD [] _).length < 1000000
    omega
end LA
/-! name = {k: v for ..}: the name is stored before the comprehension's own names are put back. -/
namespace Lay
open PySem PySem.Spec PyProof.Rows L2
section
variable {X : Cx}
theorem dcP_core {pins : List (Addr × Obj)} {s : Shared} {σ : L2.St} {H : Hp} {Q : VK} (tup : Bool) {kx vx tg iter : Expr} {ifs : List Expr} {scope : Scope} {own : List (Str × Nat)} {pos pos' : Pos} {wi : TI} {g : TG} {tt : TT} {tk tv : TE} {use : Option (Value → Sem Unit)} {Qf : Value → Shared → Prop}
    (hu : X.A.units + 1 < cLine) (hc : X.calm = true) (hN : X.N.Nodup) (I : Inv X pins σ H s) (hi : PI X tg iter wi) (ok : BlkOk X.N X.env.scope scope own)
    (hg : ∀ (s : Shared) (H : Hp) (C : Addr) (cl : List (Str × Addr)) (fp : List Addr), PG (X.blk s H scope (compEnvC scope cl C X.env) fp) tg g)
    (ht : ∀ (s : Shared) (H : Hp) (C : Addr) (cl : List (Str × Addr)) (fp : List Addr), PTs (X.blk s H scope (compEnvC scope cl C X.env) fp) ifs tt)
    (hk : ∀ (s : Shared) (H : Hp) (C : Addr) (cl : List (Str × Addr)) (fp : List Addr), PE (X.blk s H scope (compEnvC scope cl C X.env) fp) kx tk)
    (he : ∀ (s : Shared) (H : Hp) (C : Addr) (cl : List (Str × Addr)) (fp : List Addr), PE (X.blk s H scope (compEnvC scope cl C X.env) fp) vx tv)
    (hs : ∀ x, foldedSetIterable iter X.env x = pure x) (h : tDcP tup wi g tt tk tv (own.map (·.2)) σ H Q)
    (hRR : ∀ D C s' m H', Inv X pins σ H' s' → Q (.ref D) H' → s'.heap.Ns C m → FpOk X pins H' C → compPost (model X.prog X.w) X.A X.xe use Qf (.ref D) C (.ok .next) s') :
    wpAny (model X.prog X.w) X.A (comprehension (.DictComp kx vx [⟨tg, iter, ifs, 0⟩] scope pos) scope X.env pos' (newDict) false (eval iter X.env) use) Qf X.xe s := by
  have seen : ∀ y ∈ scope.names, y.2 = .free → ∃ c, X.env.cells.lookup y.1 = some c := by
    intro y hy e
    rcases ok.free y hy e with k | k
    · exact I.ok.has _ (.inl k)
    · exact I.ok.has _ (.inr k)
  refine wpAny_comprehension_free rfl hs (closure_ok seen) ok.kind (fun y hy e => by rw [ok.uniq y hy, e]) (thn (hi.run pins s σ H _ I h) ?_)
  intro xv s1 hx
  refine thn hx ?_
  rintro itv s2 ⟨it, fp, tn, J, H2, rfl, I2, T, st2, f2, q⟩
  refine wpAny_newObj_type (newEnv_comp ?_)
  generalize hD : s2.heap.objs.size = D
  have free_D : H2 D = none := I2.hok.fresh (Nat.le_of_eq hD)
  obtain ⟨W, ⟨m0, w0⟩, turn⟩ := q D free_D
  generalize hs3 : ({ s2 with heap := s2.heap.push { cls := .type "dict", data := .dict #[] } } : Shared) = s3
  have h3 : s3.heap = s2.heap.push { cls := .type "dict", data := .dict #[] } := by rw [← hs3]
  have I3 : Inv X pins σ (upd H2 D (bare tup)) s3 := by
    rw [← hs3]
    refine I2.laid (t' := s2.toks) (fun b o e => Heap.get?_push_of_some _ e) (Nat.le_of_eq hD) ?_
    rw [← hD]
    exact bare_ok tup s2.heap I2.big
  have f3 : ∀ b ∈ fp, FpOk X pins (upd H2 D (bare tup)) b ∧ b < s3.heap.objs.size := by
    intro b hb
    obtain ⟨o, e, _⟩ := T.obj _ _ st2 b hb
    have hlt := Heap.lt_size e
    refine ⟨⟨?_, (f2 b hb).2⟩, ?_⟩
    · rw [upd_ne (by rw [← hD]; exact Nat.ne_of_lt hlt)]
      exact (f2 b hb).1
    · rw [h3, Heap.size_push]
      exact Nat.lt_succ_of_lt hlt
  have st3 : tn 0 s3.heap := by
    refine T.keep _ _ _ st2 ?_
    intro b _ o e
    rw [h3]
    exact Heap.get?_push_of_some _ e
  have I4 := block_start I3 ok hN f3
  generalize hcl : cellsFrom (s3.heap.objs.size + 1) scope.names (cloFrom X.env.cells scope.names []) = cl at I4
  have pg := hg s3 (upd H2 D (bare tup)) s3.heap.objs.size cl fp
  have pt := ht s3 (upd H2 D (bare tup)) s3.heap.objs.size cl fp
  have pk := hk s3 (upd H2 D (bare tup)) s3.heap.objs.size cl fp
  have pe := he s3 (upd H2 D (bare tup)) s3.heap.objs.size cl fp
  have none_fp : ∀ b ∈ fp, (upd H2 D (bare tup)) b = none := fun b hb => (f3 b hb).1.1
  subst hcl
  show codeAny _ _ (.compStart (.DictComp kx vx [⟨tg, iter, ifs, 0⟩] scope pos) 0 (.ref it) (.ref D)
    (compEnvC scope (cellsFrom (s3.heap.objs.size + 1) scope.names (cloFrom X.env.cells scope.names [])) s3.heap.objs.size X.env)) (compPost (model X.prog X.w) X.A X.xe use Qf (.ref D) s3.heap.objs.size)
    { s3 with heap := pushCells (s3.heap.push { cls := .type "dict", data := .dict #[] }) scope.names }
  generalize hce : compEnvC scope (cellsFrom (s3.heap.objs.size + 1) scope.names (cloFrom X.env.cells scope.names [])) s3.heap.objs.size X.env = ce at I4 pg pt pk pe ⊢
  have at_C : ce.locals = s3.heap.objs.size := by
    subst hce
    rfl
  generalize hH3 : upd H2 D (bare tup) = H3 at I3 I4 pg pt pk pe w0 none_fp f3
  generalize hs4 : ({ s3 with heap := pushCells (s3.heap.push { cls := .type "dict", data := .dict #[] }) scope.names } : Shared) = s4 at I4 ⊢
  have st4 : tn 0 s4.heap := by
    refine T.keep _ _ _ st3 ?_
    intro b _ o e
    rw [← hs4]
    exact pushCells_keeps _ _ _ _ (Heap.get?_push_of_some _ e)
  have still : ∀ {σ' : L2.St} {H' : Hp} {s' : Shared}, Inv (X.blk s3 H3 scope ce fp) [] σ' H' s' → (∀ b ∈ fp, H' b = none) →
      ∀ b ∈ fp, FpOk (X.blk s3 H3 scope ce fp) [] H' b := by
    intro σ' H' s' I' hn b hb
    refine ⟨hn b hb, (I'.ok.exf b hb).1, I'.ok.exfs b hb, .inl hb, fun x c e => (I'.ok.exf b hb).2 x c e, ?_⟩
    intro p hp
    exact absurd (show p ∈ ([] : List (Addr × Obj)) ++ [] from hp) (by simp)
  refine codeAny_compStart_dict ?_ (T.self X.A 0 _ _ _ st4 ?_)
  all_goals
    refine compLoop_anyD (fun n s' => ∃ i H', Inv (X.blk s3 H3 scope ce fp) [] (wipe σ (own.map (·.2))) H' s' ∧ tn i s'.heap ∧
      (∀ b ∈ fp, H' b = none) ∧ W i n H') ?_ m0 ⟨0, H3, I4, st4, none_fp, w0⟩
    rintro n s5 ⟨i, H5, I5, st5, n5, w5⟩
    rcases turn i n H5 w5 with ⟨stop, qq⟩ | ⟨go, N, hN', step⟩
    · have td := T.done (X.blk s3 H3 scope ce fp) rfl rfl rfl hc i [] s5 _ H5 (fun _ _ => False) I5 (still I5 n5) st5 stop
      refine thnF td ?_
      rintro r s6 ⟨rfl, I6⟩
      have I7 : Inv X pins σ H5 s6 := I3.call' (ch := fp) I6.os I6.base I6.hok I6.bare fun b hb =>
        ⟨(f3 b hb).1.2.2.2.1, (f3 b hb).1.2.1, (f3 b hb).1.2.2.2.2.1, (f3 b hb).1.2.2.2.2.2⟩
      have none_C : H5 s3.heap.objs.size = none := by
        have z : H5 ce.locals = none := I6.free
        rw [at_C] at z
        exact z
      obtain ⟨m, hn, _⟩ := I6.loc
      have hn : s6.heap.Ns ce.locals m := hn
      rw [at_C] at hn
      exact hRR D s3.heap.objs.size s6 m H5 I7 qq hn (I3.fpOk (Nat.le_refl _) none_C)
    · have ti := T.item (X.blk s3 H3 scope ce fp) rfl rfl rfl hc i [] s5 _ H5 (fun _ _ => False) I5 (still I5 n5) st5 go
      refine thnF ti ?_
      rintro r s6 ⟨u, rfl, h6⟩
      refine thnF h6 ?_
      rintro _ s7 ⟨x, H7, I7, r7, y7, st7, n7⟩
      have I7' := I7.pinned (still I7 n7) (T.obj _ _ st7)
      refine thnF (pg.run _ s7 _ H7 x u _ I7' r7 (step x H7 y7)) ?_
      rintro _ s8 ⟨σ8, H8, I8, hw8, q8⟩
      refine thnF (pt.run _ s8 σ8 H8 _ I8 q8) ?_
      rintro b s9 ⟨H9, I9, q9⟩
      have fin : ∀ {s' : Shared} {H' : Hp}, Inv (X.blk s3 H3 scope ce fp) ([] ++ pinsAt fp s7.heap) σ8 H' s' → N H' →
          ∃ m, m < n ∧ ∃ i H', Inv (X.blk s3 H3 scope ce fp) [] (wipe σ (own.map (·.2))) H' s' ∧ tn i s'.heap ∧ (∀ b ∈ fp, H' b = none) ∧ W i m H' := by
        intro s' H' I' nx
        obtain ⟨m', hm, w'⟩ := hN' H' nx
        have pin' : ∀ b ∈ fp, ∀ o, s7.heap.get? b = some o → s'.heap.get? b = some o ∧ H' b = none := by
          intro b hb o e
          have z := I'.pin (b, o) (List.mem_append_right _ (List.mem_append_right _ (mem_pinsAt hb e)))
          exact ⟨z.1, z.2.1⟩
        have hl : (wipe σ (own.map (·.2))).length = σ8.length := by rw [← hw8, wipe_length]
        refine ⟨m', hm, i + 1, H', (I'.unpinned (pins := [])).weak hl ?_, T.keep _ _ _ st7 (fun b hb o e => (pin' b hb o e).1), ?_, w'⟩
        · intro j v e
          rw [← hw8] at e
          exact (wipe_some e).1
        · intro b hb
          obtain ⟨o, e, _⟩ := T.obj _ _ st7 b hb
          exact (pin' b hb o e).2
      cases b with
      | false =>
        simp only [Bool.false_eq_true, if_false] at q9 ⊢
        exact fin I9 q9
      | true =>
        simp only [if_true] at q9 ⊢
        refine thnF (pk.run _ s9 σ8 H9 _ I9 q9) ?_
        rintro z s10 ⟨yk, H10, I10, r10, q10⟩
        refine thnF (pe.run _ s10 σ8 H10 _ I10 q10) ?_
        rintro z2 s11 ⟨yv, H11, I11, r11, H12, put, nx⟩
        exact d_lay (X := X.blk s3 H3 scope ce fp) hu I11 put r10 r11 fun s12 I12 => fin I12 nx
theorem ps_setDcP (tup : Bool) {i : Nat} {y : Str} {py : Pos} {kx vx tg iter : Expr} {ifs : List Expr} {scope : Scope} {own : List (Str × Nat)} {pos spos : Pos} {wi : TI} {g : TG} {tt : TT} {tk tv : TE} (hu : X.A.units + 1 < cLine) (hc : X.calm = true) (hN : X.N.Nodup) (hy : X.N[i]? = some y) (hyl : X.env.scope.names.lookup y = some .local)
    (hsw : swapsWith (.DictComp kx vx [⟨tg, iter, ifs, 0⟩] scope pos) (some (.Name y py)) spos.line X.env = pure true) (hi : PI X tg iter wi) (ok : BlkOk X.N X.env.scope scope own)
    (hg : ∀ (s : Shared) (H : Hp) (C : Addr) (cl : List (Str × Addr)) (fp : List Addr), PG (X.blk s H scope (compEnvC scope cl C X.env) fp) tg g) (ht : ∀ (s : Shared) (H : Hp) (C : Addr) (cl : List (Str × Addr)) (fp : List Addr), PTs (X.blk s H scope (compEnvC scope cl C X.env) fp) ifs tt)
    (hk : ∀ (s : Shared) (H : Hp) (C : Addr) (cl : List (Str × Addr)) (fp : List Addr), PE (X.blk s H scope (compEnvC scope cl C X.env) fp) kx tk)
    (he : ∀ (s : Shared) (H : Hp) (C : Addr) (cl : List (Str × Addr)) (fp : List Addr), PE (X.blk s H scope (compEnvC scope cl C X.env) fp) vx tv) (hs : ∀ x, foldedSetIterable iter X.env x = pure x := by intro _; rfl) :
    PS X (.Assign [.Name y py] (.DictComp kx vx [⟨tg, iter, ifs, 0⟩] scope pos) spos) (tAsg (tDcP tup wi g tt tk tv (own.map (·.2))) (gName i)) := by
  refine ⟨fun pins s σ H D I h => ?_⟩
  rw [exec_Assign_Name_used _ _ _ _ hsw]
  refine wpAny_bind (wpAny_standAt (wpAny_bind ?_))
  show wpAny _ X.A (do let _ ← comprehension (.DictComp kx vx [⟨tg, iter, ifs, 0⟩] scope pos) scope X.env (firstIterPos [⟨tg, iter, ifs, 0⟩] pos) newDict false (eval iter X.env) (some (assign (.Name y py) X.env))) _ _ s
  have h : tDcP tup wi g tt tk tv (own.map (·.2)) σ H (fun x H1 => gName i x σ H1 D.nx) := h
  refine wpAny_bind (thn (dcP_core (Qf := fun _ s' => SP X pins D .next s') tup hu hc hN I hi ok hg ht hk he hs h fun L C s' m H' I' q hn f => ?_) fun _ s' hq => wpAny_pure (wpAny_pure hq))
  show wpAny _ _ (assign (.Name y py) X.env (.ref L)) _ _ _
  refine wpAny_assign_Name (store_ok2 (v := V.ref L) I' hN hy (.inl hyl) rfl (fun s2 I2 ⟨a, sb, ha⟩ => ?_) (.inr hyl))
  obtain ⟨f0, f1, f2, f3, f4, f5⟩ := f
  have haC : C ≠ a := by
    rcases ha with z | z
    · rw [z]; exact f1
    · exact fun e => f4 y a z e.symm
  refine ⟨m, hn.sameBut sb haC, fun h3 sb3 => ?_⟩
  exact ⟨_, H', I2.turned (t' := s2.toks) (fun b o hb e => (sb3.2 b hb).trans e) f0 f1 f3 f4 f5, q⟩
theorem sw_trueD {kx vx : Expr} {gs : List Comprehension} {scope : Scope} {pos py : Pos} {y : Str} {l : Nat} {env : Env} (hk : env.scope.kind = .function) (hy : env.scope.names.lookup y = some .local) (hl : (py.line == pos.line) = true)
    (ha : (scope.names.any fun (n, k) => n == y && (k == .local || k == .cell)) = false) : swapsWith (.DictComp kx vx gs scope pos) (some (.Name y py)) l env = pure true := by
  have ky : env.kindOf y = some .local := hy
  have hb : env.blockKind = .function := by unfold Env.blockKind; rw [hk]; rfl
  unfold swapsWith
  simp only [hb, ky, ha, Expr.pos, hl]
  rfl
end
end Lay
/-! Comprehensions with two fors. -/
namespace LA
open PySem PySem.Spec PyProof.Rows L2 Lay
/-- the turns of the second for, up to F -/
def LcIn (w : Walk) (ag : AG) (at' : AT) (ae : AE) (vs : List Nat) (Γ : Sl) (acc0 : List D) (M1 : Mem) (F : List D → Mem → Prop) : Prop := ∃ J : Nat → List D → Mem → Prop, J 0 acc0 M1 ∧ (∀ j acc M, j ≤ w.items.length → J j acc M → w.stay M) ∧
  (∀ j d acc M, w.items[j]? = some d → J j acc M → ag d (wipeA Γ vs) M fun Γ2 M2 => at' Γ2 M2 fun b M3 => if b = true then ae Γ2 M3 fun y M4 => acc.length < 1000000 ∧ J (j + 1) (acc ++ [y]) M4 else J (j + 1) acc M3) ∧
  ∀ acc M, J w.items.length acc M → F acc M
def LcB2 (w : Walk) (ag : AG) (at' : AT) (ai1 : AI) (ag1 : AG) (at1 : AT) (ae : AE) (vs vs1 : List Nat) (Γ : Sl) (M1 : Mem) (Q : D → Mem → Prop) : Prop := ∃ I : Nat → List D → Mem → Prop, I 0 [] M1 ∧ (∀ i acc M, i ≤ w.items.length → I i acc M → w.stay M) ∧
  (∀ i d acc M, w.items[i]? = some d → I i acc M → ag d (wipeA Γ vs) M fun Γ2 M2 => at' Γ2 M2 fun b M3 => if b = true then ai1 Γ2 M3 fun w1 M4 => LcIn w1 ag1 at1 ae vs1 Γ2 acc M4 (I (i + 1)) else I (i + 1) acc M3) ∧
  ∀ acc M, I w.items.length acc M → Q (.lst acc) M
def aLc2 (ai : AI) (ag : AG) (at' : AT) (ai1 : AI) (ag1 : AG) (at1 : AT) (ae : AE) (vs vs1 : List Nat) : AE := fun Γ M Q => ai Γ M fun w M1 => LcB2 w ag at' ai1 ag1 at1 ae vs vs1 Γ M1 Q
section
variable {X : Cx} {K : PySem.W.Frag} {pos : Pos} {N : Addr → Prop} {M M' : Mem} {H H' : Hp} {σ : L2.St} {Γ : Sl}
theorem lc2_run {ai ai1 : AI} {g g1 : TG} {ag ag1 : AG} {at' at1 : AT} {ae : AE} {vs tv vs1 tv1 : List Nat} (ok : GOk K g ag tv) (sub : ∀ i ∈ tv, i ∈ vs) (ok1 : GOk K g1 ag1 tv1) (sub1 : ∀ i ∈ tv1, i ∈ vs1) {Q : VK} (h : cE K (aLc2 ai ag at' ai1 ag1 at1 ae vs vs1) σ H Q) :
    tLc2 (cI K ai) g (cT K at') (cI K ai1) g1 (cT K at1) (cE K ae) vs vs1 σ H Q := by
  obtain ⟨N, M, Γ, Q', o, q, k⟩ := h
  refine ⟨N, M, Γ, _, o, q, ?_⟩
  rintro J H1 M1 w e1 m1 wk ⟨I, h0, hst, hstep, hend⟩ L hL
  obtain ⟨m1', s1⟩ := m1.hide (o := .lst []) hL
  let good : (List D → Mem → Prop) → Hp → Prop := fun R H2 => ∃ acc vacc M2, R acc M2 ∧ H2 L = some (.lst vacc) ∧ RepA K (imm (fun b => N b ∨ b = L) M2 H2) vacc acc ∧ MOk K (fun b => N b ∨ b = L) M2 H2 ∧
    Sam (imm N M1 H1) (imm (fun b => N b ∨ b = L) M2 H2) ∧ ∀ b, N b → H2 b = H1 b
  refine ⟨fun i m H2 => m + i = w.items.length ∧ good (I i) H2, ⟨w.items.length, rfl, [], [], M1, h0, upd_same, .nil, m1', s1, fun b n => upd_ne fun z => m1.nn b n (by rw [z]; exact hL)⟩, ?_⟩
  rintro i m H2 ⟨hm, acc, vacc, M2, i2, l2, r2, m2, s2, hid2⟩
  obtain ⟨go, stop⟩ := wk i (fun b => N b ∨ b = L) M2 H2 s2 m2 (hst i acc M2 (by omega) i2)
  by_cases hlt : i < w.items.length
  · obtain ⟨g1', yl⟩ := go hlt
    refine .inr ⟨g1', fun H' => m - 1 + (i + 1) = w.items.length ∧ good (I (i + 1)) H', fun H' z => ⟨m - 1, by omega, z⟩, fun x H3 y => ?_⟩
    obtain ⟨m3, e3, d, hd, rd⟩ := yl x H3 y
    have o3 : Ok K (fun b => N b ∨ b = L) M2 H3 (L2.wipe σ vs) (wipeA Γ vs) := ⟨m3, paired_wipe (paired_sub ((e1.im.trans s2).trans e3.im) o.sl)⟩
    refine ok o3 rd (hstep i d acc M2 hd i2) fun σ4 Γ4 hw o4 q4 => ⟨?_, ?_⟩
    · rw [hw vs sub, wipe_idem fun _ z => z]
    refine ⟨_, M2, Γ4, _, o4, q4, fun b H5 M5 e5 m5 q5 => ?_⟩
    have o5 := o4.go e5 m5
    have r5 := r2.sub (e3.im.trans e5.im)
    have s5 := s2.trans (e3.im.trans e5.im)
    have l5 : H5 L = some (.lst vacc) := by rw [e5.hid L (.inr rfl), e3.hid L (.inr rfl)]; exact l2
    have hid5 : ∀ b, N b → H5 b = H1 b := fun b n => by rw [e5.hid b (.inl n), e3.hid b (.inl n)]; exact hid2 b n
    cases b with
    | false =>
      rw [if_neg (by decide)] at q5
      exact iteF ⟨by omega, acc, vacc, M5, q5, l5, r5, m5, s5, hid5⟩
    | true =>
      rw [if_pos rfl] at q5
      refine iteT ⟨_, M5, Γ4, _, o5, q5, ?_⟩
      rintro J1 H6 M6 w1 e6 m6 wk1 ⟨I1, h01, hst1, hstep1, hend1⟩
      have l6 : H6 L = some (.lst vacc) := by rw [e6.hid L (.inr rfl)]; exact l5
      have s6 := s5.trans e6.im
      have hid6 : ∀ b, N b → H6 b = H1 b := fun b n => by rw [e6.hid b (.inl n)]; exact hid5 b n
      let good1 : (List D → Mem → Prop) → Hp → Prop := fun R H7 => ∃ acc vacc M7, R acc M7 ∧ H7 L = some (.lst vacc) ∧ RepA K (imm (fun b => N b ∨ b = L) M7 H7) vacc acc ∧ MOk K (fun b => N b ∨ b = L) M7 H7 ∧
        Sam (imm (fun b => N b ∨ b = L) M6 H6) (imm (fun b => N b ∨ b = L) M7 H7) ∧ ∀ b, N b → H7 b = H1 b
      refine ⟨fun j k1 H7 => k1 + j = w1.items.length ∧ good1 (I1 j) H7, ⟨w1.items.length, rfl, acc, vacc, M6, h01, l6, r5.sub e6.im, m6, Sam.refl, hid6⟩, ?_⟩
      rintro j k1 H7 ⟨hk, acc7, vacc7, M7, i7, l7, r7, m7, s7, hid7⟩
      obtain ⟨go1, stop1⟩ := wk1 j (fun b => N b ∨ b = L) M7 H7 s7 m7 (hst1 j acc7 M7 (by omega) i7)
      by_cases hlt1 : j < w1.items.length
      · obtain ⟨g1'', yl1⟩ := go1 hlt1
        refine .inr ⟨g1'', fun H' => k1 - 1 + (j + 1) = w1.items.length ∧ good1 (I1 (j + 1)) H', fun H' z => ⟨k1 - 1, by omega, z⟩, fun x8 H8 y8 => ?_⟩
        obtain ⟨m8, e8, d8, hd8, rd8⟩ := yl1 x8 H8 y8
        have o8 : Ok K (fun b => N b ∨ b = L) M7 H8 (L2.wipe σ4 vs1) (wipeA Γ4 vs1) := ⟨m8, paired_wipe (paired_sub ((e6.im.trans s7).trans e8.im) o5.sl)⟩
        refine ok1 o8 rd8 (hstep1 j d8 acc7 M7 hd8 i7) fun σ9 Γ9 hw9 o9 q9 => ⟨?_, ?_⟩
        · rw [hw9 vs1 sub1, wipe_idem fun _ z => z]
        refine ⟨_, M7, Γ9, _, o9, q9, fun b9 H9 M9 e9 m9 q9' => ?_⟩
        have o10 := o9.go e9 m9
        have r9 := r7.sub (e8.im.trans e9.im)
        have s9 := s7.trans (e8.im.trans e9.im)
        have l9 : H9 L = some (.lst vacc7) := by rw [e9.hid L (.inr rfl), e8.hid L (.inr rfl)]; exact l7
        have hid9 : ∀ b, N b → H9 b = H1 b := fun b n => by rw [e9.hid b (.inl n), e8.hid b (.inl n)]; exact hid7 b n
        cases b9 with
        | false =>
          rw [if_neg (by decide)] at q9'
          exact iteF ⟨by omega, acc7, vacc7, M9, q9', l9, r9, m9, s9, hid9⟩
        | true =>
          rw [if_pos rfl] at q9'
          refine iteT ⟨_, M9, Γ9, _, o10, q9', ?_⟩
          rintro v y H10 M10 e10 m10 r10 ⟨hl, q10⟩
          have l10 : H10 L = some (.lst vacc7) := by rw [e10.hid L (.inr rfl)]; exact l9
          obtain ⟨m11, e11⟩ := m10.hidden (o := .lst (vacc7 ++ [v]))
          refine ⟨vacc7, l10, ltline _ ?_, by omega, acc7 ++ [y], vacc7 ++ [v], M10, q10, upd_same, by rw [e11]; exact (r9.sub e10.im).snoc r10, m11, by rw [e11]; exact s9.trans e10.im, fun b n => ?_⟩
          · rw [r7.len]
            omega
          · rw [upd_ne (fun z => m1.nn b n (by rw [z]; exact hL)), e10.hid b (.inl n)]
            exact hid9 b n
      · have ej : j = w1.items.length := by omega
        subst ej
        exact .inl ⟨stop1 rfl, by omega, acc7, vacc7, M7, hend1 acc7 M7 i7, l7, r7, m7, s6.trans s7, hid7⟩
  · have ei : i = w.items.length := by omega
    subst ei
    refine .inl ⟨stop rfl, ?_⟩
    have nL : ¬ N L := m1.freshN hL
    refine k (.ref L) (.lst acc) H2 M2 (e1.trans ⟨s2.trans hide_sub, hid2⟩) m2.unhide (.lst (imm_of nL (m2.nm L (.inr rfl)) l2) (r2.sub hide_sub)) (hend acc M2 i2)
theorem ae_lc2 {elt tg iter tg1 iter1 : Expr} {ifs ifs1 : List Expr} {scope : Scope} {own : List (Str × Nat)} {vs1 : List Nat} {ai ai1 : AI} {g g1 : TG} {ag ag1 : AG} {at' at1 : AT} {ae : AE} {tv tv1 : List Nat} (hc : X.calm = true) (hN : X.N.Nodup) (hi : PI X tg iter (cI K ai)) (ok : BlkOk X.N X.env.scope scope own) (hv : ∀ i ∈ vs1, i ∈ own.map (·.2))
    (hg : ∀ (s : Shared) (H : Hp) (C : Addr) (cl : List (Str × Addr)) (fp : List Addr), PG (X.blk s H scope (compEnvC scope cl C X.env) fp) tg g) (gk : GOk K g ag tv) (sub : ∀ i ∈ tv, i ∈ own.map (·.2)) (ht : ∀ (s : Shared) (H : Hp) (C : Addr) (cl : List (Str × Addr)) (fp : List Addr), PTs (X.blk s H scope (compEnvC scope cl C X.env) fp) ifs (cT K at'))
    (hi1 : ∀ (s : Shared) (H : Hp) (C : Addr) (cl : List (Str × Addr)) (fp : List Addr), PI (X.blk s H scope (compEnvC scope cl C X.env) fp) tg1 iter1 (cI K ai1))
    (hg1 : ∀ (s : Shared) (H : Hp) (C : Addr) (cl : List (Str × Addr)) (fp : List Addr), PG (X.blk s H scope (compEnvC scope cl C X.env) fp) tg1 g1) (gk1 : GOk K g1 ag1 tv1) (sub1 : ∀ i ∈ tv1, i ∈ vs1) (ht1 : ∀ (s : Shared) (H : Hp) (C : Addr) (cl : List (Str × Addr)) (fp : List Addr), PTs (X.blk s H scope (compEnvC scope cl C X.env) fp) ifs1 (cT K at1))
    (he : ∀ (s : Shared) (H : Hp) (C : Addr) (cl : List (Str × Addr)) (fp : List Addr), PE (X.blk s H scope (compEnvC scope cl C X.env) fp) elt (cE K ae)) (hs : ∀ x, foldedSetIterable iter X.env x = pure x := by intro _; rfl) (hs1 : ∀ env x, foldedSetIterable iter1 env x = pure x := by intro _ _; rfl) :
    PE X (.ListComp elt [⟨tg, iter, ifs, 0⟩, ⟨tg1, iter1, ifs1, 0⟩] scope pos) (cE K (aLc2 ai ag at' ai1 ag1 at1 ae (own.map (·.2)) vs1)) :=
  PE.to (pe_lc2 hc hN hi ok hv hg ht hi1 hg1 ht1 he hs hs1) fun _ _ _ h => lc2_run gk sub gk1 sub1 h
theorem as_setDc (tup : Bool) {i : Nat} {y : Str} {py : Pos} {kx vx tg iter : Expr} {ifs : List Expr} {scope : Scope} {own : List (Str × Nat)} {spos : Pos} {ai : AI} {g : TG} {ag : AG} {at' : AT} {ak av : AE} {tv : List Nat} (hu : X.A.units + 1 < cLine) (hc : X.calm = true) (hN : X.N.Nodup) (hy : X.N[i]? = some y) (hyl : X.env.scope.names.lookup y = some .local)
    (hsw : swapsWith (.DictComp kx vx [⟨tg, iter, ifs, 0⟩] scope pos) (some (.Name y py)) spos.line X.env = pure true) (hi : PI X tg iter (cI K ai)) (ok : BlkOk X.N X.env.scope scope own)
    (hg : ∀ (s : Shared) (H : Hp) (C : Addr) (cl : List (Str × Addr)) (fp : List Addr), PG (X.blk s H scope (compEnvC scope cl C X.env) fp) tg g) (gk : GOk K g ag tv) (sub : ∀ i ∈ tv, i ∈ own.map (·.2)) (ht : ∀ (s : Shared) (H : Hp) (C : Addr) (cl : List (Str × Addr)) (fp : List Addr), PTs (X.blk s H scope (compEnvC scope cl C X.env) fp) ifs (cT K at'))
    (hk : ∀ (s : Shared) (H : Hp) (C : Addr) (cl : List (Str × Addr)) (fp : List Addr), PE (X.blk s H scope (compEnvC scope cl C X.env) fp) kx (cE K ak))
    (he : ∀ (s : Shared) (H : Hp) (C : Addr) (cl : List (Str × Addr)) (fp : List Addr), PE (X.blk s H scope (compEnvC scope cl C X.env) fp) vx (cE K av)) (hs : ∀ x, foldedSetIterable iter X.env x = pure x := by intro _; rfl) :
    PS X (.Assign [.Name y py] (.DictComp kx vx [⟨tg, iter, ifs, 0⟩] scope pos) spos) (cS K (aAsg (aDc tup ai ag at' ak av (own.map (·.2))) (aGName i))) :=
  PS.to (ps_setDcP tup hu hc hN hy hyl hsw hi ok hg ht hk he hs) (asg_run (go_name i) fun _ _ _ h => dc_run tup gk sub h)
end
end LA
namespace LA
open PySem PySem.Spec PyProof.Rows L2 Lay
theorem lcIn_map {w : Walk} {ag : AG} {at' : AT} {ae : AE} {vs : List Nat} {Γ : Sl} {acc0 : List D} {M : Mem} {F : List D → Mem → Prop} (f : D → D) (hs : w.stay M) (hl : acc0.length + w.items.length ≤ 1000000)
    (h : ∀ d ∈ w.items, ∀ (P : D → Mem → Prop) (R : Mem → Prop), P (f d) M → ag d (wipeA Γ vs) M fun Γ2 M2 => at' Γ2 M2 fun b M3 => if b = true then ae Γ2 M3 P else R M3)
    (q : F (acc0 ++ w.items.map f) M) : LcIn w ag at' ae vs Γ acc0 M F := by
  refine ⟨fun i acc M' => M' = M ∧ acc = acc0 ++ (w.items.take i).map f, ⟨rfl, by simp⟩, fun i acc M' _ e => by rw [e.1]; exact hs, ?_, fun acc M' e => by rw [e.1, e.2, List.take_length]; exact q⟩
  rintro i d acc M' hd ⟨rfl, rfl⟩
  have hlt : i < w.items.length := (List.getElem?_eq_some_iff.mp hd).1
  refine h d (List.mem_of_getElem? hd) _ _ ⟨?_, rfl, ?_⟩
  · rw [List.length_append, List.length_map, List.length_take]
    omega
  · rw [List.take_succ, hd]
    simp
theorem lc2_map {w : Walk} {ag : AG} {at' : AT} {ai1 : AI} {ag1 : AG} {at1 : AT} {ae : AE} {vs vs1 : List Nat} {Γ : Sl} {M : Mem} {Q : D → Mem → Prop} (sub : D → List D) (hs : w.stay M) (hl : (w.items.flatMap sub).length ≤ 1000000)
    (h : ∀ d ∈ w.items, ∀ (acc : List D) (F : List D → Mem → Prop) (R : Mem → Prop), acc.length + (sub d).length ≤ 1000000 → F (acc ++ sub d) M →
      ag d (wipeA Γ vs) M fun Γ2 M2 => at' Γ2 M2 fun b M3 => if b = true then ai1 Γ2 M3 fun w1 M4 => LcIn w1 ag1 at1 ae vs1 Γ2 acc M4 F else R M3)
    (q : Q (.lst (w.items.flatMap sub)) M) : LcB2 w ag at' ai1 ag1 at1 ae vs vs1 Γ M Q := by
  refine ⟨fun i acc M' => M' = M ∧ acc = (w.items.take i).flatMap sub, ⟨rfl, by simp⟩, fun i acc M' _ e => by rw [e.1]; exact hs, ?_, fun acc M' e => by rw [e.1, e.2, List.take_length]; exact q⟩
  rintro i d acc M' hd ⟨rfl, rfl⟩
  have e : (w.items.take (i + 1)).flatMap sub = (w.items.take i).flatMap sub ++ sub d := by
    rw [List.take_succ, hd, List.flatMap_append]
    simp
  refine h d (List.mem_of_getElem? hd) _ _ _ ?_ ⟨rfl, e.symm⟩
  rw [← List.length_append, ← e]
  have : (w.items.flatMap sub).length = ((w.items.take (i + 1)).flatMap sub).length + ((w.items.drop (i + 1)).flatMap sub).length := by
    rw [← List.length_append, ← List.flatMap_append, List.take_append_drop]
  omega
end LA
namespace LA
open PySem PySem.Spec PyProof.Rows L2 Lay
theorem c_tupleF {X : Cx} (K : PySem.W.Frag) (h : X.K = K := by rfl) : CallR X (.type "tuple") (rTupleF K) := h ▸ call_tupleF
theorem c_dictT {X : Cx} (K : PySem.W.Frag) (calm : X.calm = true) (hu : X.A.units + 3 < cLine) (h : X.K = K := by rfl) : CallR X (.type "dict") (LT.rDictT K) := LT.dictTK K calm hu h
theorem tuple_lst {ds : List D} {M : Mem} {Q : D → Mem → Prop} : aTuple [.lst ds] M Q = Q (.tup ds) M := propext ⟨fun ⟨d, es, e, h, q⟩ => by cases e; cases h; exact q, fun q => ⟨_, _, rfl, rfl, q⟩⟩
end LA
namespace LA
open PySem PySem.Spec PyProof.Rows L2 Lay
theorem fldD_put {f g : Str} {v : D} : ∀ {fs : List (Str × D)}, fldD f (putFD g v fs) = if g = f then some v else fldD f fs
  | [] => by simp [putFD, fldD]
  | (h, x) :: r => by
    by_cases e : h = g
    · subst e
      by_cases k : h = f <;> simp [putFD, fldD, k]
    · have i := fldD_put (f := f) (g := g) (v := v) (fs := r)
      by_cases k : h = f
      · subst k
        have n1 : ¬ g = h := fun z => e z.symm
        simp [putFD, fldD, e, n1]
      · simp [putFD, fldD, e, k, i]
theorem len_putFD {g : Str} {v : D} : ∀ {fs : List (Str × D)}, (putFD g v fs).length ≤ fs.length + 1
  | [] => by simp [putFD]
  | p :: r => by
    have := len_putFD (g := g) (v := v) (fs := r)
    unfold putFD
    split
    · simp
    · simp only [List.length_cons]
      omega
end LA
namespace LA
open PySem PySem.Spec PyProof.Rows L2 Lay
/-- xs[::-1], which may change -/
def aRevM (ae : AE) : AE := fun Γ M Q => ae Γ M fun d M1 => ∃ ds, listD M1 d = some ds ∧ ∀ a, M1 a = none → Q (.ref a) (put M1 a (.lst ds.reverse))
theorem ae_revM {X : Cx} {K : PySem.W.Frag} {pos : Pos} {e : Expr} {ae : AE} {k : Nat} {p1 p2 p3 : Pos} (he : PE X e (cE K ae)) (h : X.K = K := by rfl) : PE X (.Subscript e (.Slice none none (some (.UnaryOp .USub (.Constant (.int 1) k p1) p2)) p3) pos) (cE K (aRevM ae)) := by
  subst h
  exact PE.to (pe_revL he) fun σ H Q ⟨N, M, Γ, Q', o, q, k⟩ => ⟨N, M, Γ, _, o, q, by
    rintro x dx H1 M1 e1 m1 r1 ⟨ds, hl, q1⟩
    obtain ⟨a, xs, rfl, h1, h2⟩ := (see m1 r1).list hl
    exact ⟨a, xs, rfl, h1, fun p hp => (k.go e1).newM (u := .lst ds.reverse) m1 hp (fun F H' s f => ⟨_, f, (h2.sub s).rev⟩) fun z => q1 p z⟩⟩
/-- all of the memory stays, but for these two; there may be more -/
def KeepM (p l : Addr) (M M' : Mem) : Prop := ∀ b, b ≠ p → b ≠ l → M b ≠ none → M' b = M b
theorem KeepM.refl {p l : Addr} {M : Mem} : KeepM p l M M := fun _ _ _ _ => rfl
theorem KeepM.trans {p l : Addr} {M M1 M2 : Mem} (a : KeepM p l M M1) (b : KeepM p l M1 M2) : KeepM p l M M2 := fun c h1 h2 h3 => by
  have e := a c h1 h2 h3
  rw [b c h1 h2 (by rw [e]; exact h3), e]
theorem KeepM.putP {p l : Addr} {M M' : Mem} {o : Mo} (a : KeepM p l M M') : KeepM p l M (put M' p o) := fun c h1 h2 h3 => by rw [put_ne h1]; exact a c h1 h2 h3
theorem KeepM.putL {p l : Addr} {M M' : Mem} {o : Mo} (a : KeepM p l M M') : KeepM p l M (put M' l o) := fun c h1 h2 h3 => by rw [put_ne h2]; exact a c h1 h2 h3
/-- a new thing -/
theorem KeepM.new {p l z : Addr} {M M' : Mem} {o : Mo} (a : KeepM p l M M') (h : M z = none) : KeepM p l M (put M' z o) := fun c h1 h2 h3 => by
  rw [put_ne (fun e => h3 (by rw [e]; exact h))]
  exact a c h1 h2 h3
theorem KeepM.at {p l z : Addr} {M M' : Mem} {o : Mo} (a : KeepM p l M M') (h : M z = some o) (h1 : z ≠ p) (h2 : z ≠ l) : M' z = some o := by
  rw [a z h1 h2 (by rw [h]; exact fun e => nomatch e), h]
end LA
namespace LA
open PySem PySem.Spec PyProof.Rows L2 Lay
section
variable {M : Mem} {a : Addr} {ds : List D} {d v : D} {Q : D → Mem → Prop} {R : Mem → Prop} {i : Int}
theorem view_m (h : M a = some (.lst ds)) : view M (.ref a) = .lst ds := by
  show (match M a with | some (.lst ds) => D.lst ds | some (.dK k) => .dK k | some (.dT k) => .dT k | some (.ins C fs) => .ins C fs | none => .ref a) = _
  rw [h]
theorem ix_m (k : Nat) (h : M a = some (.lst ds)) (hk : ds[k]? = some d) (hi : i = k) : aIx (.ref a) (.int i) M Q = Q d M := by
  subst hi
  have e := atI_nat hk
  refine propext ⟨fun ⟨d', h', q⟩ => ?_, fun q => ⟨_, by rw [view_m h]; exact e, q⟩⟩
  rw [view_m h] at h'
  have : some d' = some d := h'.symm.trans e
  cases this
  exact q
theorem set_m (k : Nat) (h : M a = some (.lst ds)) (hk : k < ds.length) (hi : i = k) (q : R (put M a (.lst (ds.set k v)))) : aSetAt (.ref a) (.int i) v M R := by
  subst hi
  refine ⟨a, rfl, ?_⟩
  rw [h]
  refine ⟨_, k, rfl, ?_, q⟩
  unfold ixN
  rw [if_pos (by omega), if_pos (by omega)]
  simp
theorem ty_m (h : M a = some (.lst ds)) : isTy "list" M (.ref a) := .inl ⟨_, h, rfl⟩
end
end LA
namespace LA
open PySem PySem.Spec PyProof.Rows L2 Lay
section
variable {M : Mem} {a : Addr} {ds : List D} {d d0 d1 : D} {Q : D → Mem → Prop}
theorem ix_m0 (h : M a = some (.lst (d :: ds))) : aIx (.ref a) (.int 0) M Q = Q d M := ix_m (i := 0) 0 h rfl rfl
theorem ix_m1 (h : M a = some (.lst (d0 :: d :: ds))) : aIx (.ref a) (.int 1) M Q = Q d M := ix_m (i := 1) 1 h rfl rfl
theorem ix_m2 (h : M a = some (.lst (d0 :: d1 :: d :: ds))) : aIx (.ref a) (.int 2) M Q = Q d M := ix_m (i := 2) 2 h rfl rfl
end
end LA
namespace LA
open PySem PySem.Spec PyProof.Rows L2 Lay
theorem pyL_ints : ∀ ns : List Int, pyL (ns.map D.int) = ns.map PyData.int
  | [] => rfl
  | i :: r => by rw [List.map_cons, pyL, pyL_ints r]; rfl
theorem lay_ints : ∀ ns : List Int, PyData.canLayAll0 (ns.map PyData.int) = true
  | [] => rfl
  | i :: r => by rw [List.map_cons, PyData.canLayAll0, lay_ints r]; rfl
theorem dep_ints : ∀ ns : List Int, PyData.depthAll (ns.map PyData.int) = 0
  | [] => rfl
  | i :: r => by simp [PyData.depthAll, PyData.depth, dep_ints r]
theorem plain_ints (ns : List Int) : plainL (ns.map D.int) = true := by
  rw [plainL_all, List.all_map]
  exact List.all_eq_true.mpr fun _ _ => rfl
theorem okE_ints (ns : List Int) : okE (.lst (ns.map D.int)) := by
  refine ⟨plain_ints ns, ?_⟩
  show SeqAt.shaped (.list (pyL (ns.map D.int))) = true
  rw [pyL_ints]
  unfold SeqAt.shaped
  rw [PyData.canLay0, lay_ints, Bool.true_and]
  simp [PyData.depth, dep_ints]
/-- xs != [] of a list of ints -/
theorem ne_nil {M : Mem} {l : Addr} {ns : List Int} {Q : D → Mem → Prop} (h : M l = some (.lst (ns.map D.int))) : aEq true (.ref l) (.lst []) M Q = Q (.bl (!ns.isEmpty)) M := by
  have e : PyData.eqv (py (.lst (ns.map D.int))) (py (.lst [])) = ns.isEmpty := by
    show PyData.eqv (.list (pyL (ns.map D.int))) (.list []) = _
    rw [pyL_ints]
    cases ns <;> simp [PyData.eqv, PyData.eqvAll]
  have v := view_m h
  refine propext ⟨fun z => ?_, fun z => ⟨by rw [v]; exact okE_ints ns, okE_ints [], ?_⟩⟩
  · have := z.2.2
    rw [v] at this
    rw [← e]
    exact this
  · rw [v]
    rw [← e] at z
    exact z
end LA
namespace LA
open PySem PySem.Spec PyProof.Rows L2 Lay
theorem ix_sk {M : Mem} {Q : D → Mem → Prop} {z : Str} {d : D} (k : Nat) (h : (signs z)[k]? = some d) (hz : z.length ≤ 1000000) : aIx (.str z) (.int k) M Q = Q d M := by
  have e : ixD (.str z) (.int k) = some d := by
    show (if z.length ≤ 1000000 then (atI z.cps.toList (k : Int)).map fun c => D.str ⟨#[c]⟩ else none) = _
    rw [if_pos hz]
    unfold signs at h
    rw [List.getElem?_map, Option.map_eq_some_iff] at h
    obtain ⟨c, hc, rfl⟩ := h
    have : atI z.cps.toList (k : Int) = some c := by
      have hl := (List.getElem?_eq_some_iff.mp hc).1
      unfold atI ixN
      rw [if_pos (by omega), if_pos (by omega)]
      simpa using hc
    rw [this]
    rfl
  refine propext ⟨fun ⟨d', h', q⟩ => ?_, fun q => ⟨_, e, q⟩⟩
  have : some d' = some d := h'.symm.trans e
  cases this
  exact q
end LA
namespace E60
open PySem PySem.Spec PyProof.Rows L2 Lay LA
def topS (i : Nat) : Stmt := PySem.Challenge.pw_heldparts_k60_expressions_evaluated.main.body.getD i (.Pass ⟨0, 0, 0, 0⟩)
abbrev s_NoModule_init : Stmt := (bodyOf (topS 2)).getD 0 (.Pass ⟨0, 0, 0, 0⟩)
abbrev N_NoModule_init : List Str := ["self", "part"]
theorem sc_NoModule_init : FnScope N_NoModule_init ["self", "part"] (defScope s_NoModule_init) := ⟨rfl, rfl, rfl, by decide +kernel, rfl, by decide +kernel, by decide +kernel⟩
abbrev s_Module_init : Stmt := (bodyOf (topS 32)).getD 0 (.Pass ⟨0, 0, 0, 0⟩)
abbrev N_Module_init : List Str := ["self", "cells", "handles", "operations", "promise", "number", "cell", "size", "_", "name", "body", "first"]
theorem sc_Module_init : FnScope N_Module_init ["self", "cells", "handles", "operations", "promise"] (defScope s_Module_init) := ⟨rfl, rfl, rfl, by decide +kernel, rfl, by decide +kernel, by decide +kernel⟩
abbrev s_Module_eq : Stmt := (bodyOf (topS 32)).getD 1 (.Pass ⟨0, 0, 0, 0⟩)
abbrev N_Module_eq : List Str := ["self", "other"]
theorem sc_Module_eq : FnScope N_Module_eq ["self", "other"] (defScope s_Module_eq) := ⟨rfl, rfl, rfl, by decide +kernel, rfl, by decide +kernel, by decide +kernel⟩
abbrev s_Module_evaluate : Stmt := (bodyOf (topS 32)).getD 2 (.Pass ⟨0, 0, 0, 0⟩)
abbrev N_Module_evaluate : List Str := ["self", "expression", "content", "number", "cell", "value"]
theorem sc_Module_evaluate : FnScope N_Module_evaluate ["self", "expression", "content", "number"] (defScope s_Module_evaluate) := ⟨rfl, rfl, rfl, by decide +kernel, rfl, by decide +kernel, by decide +kernel⟩
abbrev s_Module_holds : Stmt := (bodyOf (topS 32)).getD 3 (.Pass ⟨0, 0, 0, 0⟩)
abbrev N_Module_holds : List Str := ["self", "test", "content", "number", "cell", "value"]
theorem sc_Module_holds : FnScope N_Module_holds ["self", "test", "content", "number"] (defScope s_Module_holds) := ⟨rfl, rfl, rfl, by decide +kernel, rfl, by decide +kernel, by decide +kernel⟩
abbrev s_is_int : Stmt := topS 4
abbrev N_is_int : List Str := ["thing"]
theorem sc_is_int : FnScope N_is_int ["thing"] (defScope s_is_int) := ⟨rfl, rfl, rfl, by decide +kernel, rfl, by decide +kernel, by decide +kernel⟩
abbrev s_is_pair : Stmt := topS 5
abbrev N_is_pair : List Str := ["thing"]
theorem sc_is_pair : FnScope N_is_pair ["thing"] (defScope s_is_pair) := ⟨rfl, rfl, rfl, by decide +kernel, rfl, by decide +kernel, by decide +kernel⟩
abbrev s_ascends : Stmt := topS 6
abbrev N_ascends : List Str := ["row", "at"]
theorem sc_ascends : FnScope N_ascends ["row"] (defScope s_ascends) := ⟨rfl, rfl, rfl, by decide +kernel, rfl, by decide +kernel, by decide +kernel⟩
abbrev s_is_cell : Stmt := topS 7
abbrev N_is_cell : List Str := ["thing"]
theorem sc_is_cell : FnScope N_is_cell ["thing"] (defScope s_is_cell) := ⟨rfl, rfl, rfl, by decide +kernel, rfl, by decide +kernel, by decide +kernel⟩
abbrev s_is_name : Stmt := topS 8
abbrev N_is_name : List Str := ["thing"]
theorem sc_is_name : FnScope N_is_name ["thing"] (defScope s_is_name) := ⟨rfl, rfl, rfl, by decide +kernel, rfl, by decide +kernel, by decide +kernel⟩
abbrev s_begins_with_word : Stmt := topS 14
abbrev N_begins_with_word : List Str := ["thing"]
theorem sc_begins_with_word : FnScope N_begins_with_word ["thing"] (defScope s_begins_with_word) := ⟨rfl, rfl, rfl, by decide +kernel, rfl, by decide +kernel, by decide +kernel⟩
abbrev s_is_cell_in : Stmt := topS 15
abbrev N_is_cell_in : List Str := ["thing", "cells"]
theorem sc_is_cell_in : FnScope N_is_cell_in ["thing", "cells"] (defScope s_is_cell_in) := ⟨rfl, rfl, rfl, by decide +kernel, rfl, by decide +kernel, by decide +kernel⟩
abbrev s_is_expression : Stmt := topS 16
abbrev N_is_expression : List Str := ["thing", "cells", "has_input", "word"]
theorem sc_is_expression : FnScope N_is_expression ["thing", "cells", "has_input"] (defScope s_is_expression) := ⟨rfl, rfl, rfl, by decide +kernel, rfl, by decide +kernel, by decide +kernel⟩
abbrev s_is_test : Stmt := topS 17
abbrev N_is_test : List Str := ["thing", "cells", "has_input", "word"]
theorem sc_is_test : FnScope N_is_test ["thing", "cells", "has_input"] (defScope s_is_test) := ⟨rfl, rfl, rfl, by decide +kernel, rfl, by decide +kernel, by decide +kernel⟩
abbrev s_are_sized_cells : Stmt := topS 18
abbrev N_are_sized_cells : List Str := ["thing", "part"]
theorem sc_are_sized_cells : FnScope N_are_sized_cells ["thing"] (defScope s_are_sized_cells) := ⟨rfl, rfl, rfl, by decide +kernel, rfl, by decide +kernel, by decide +kernel⟩
abbrev s_are_handles : Stmt := topS 19
abbrev N_are_handles : List Str := ["thing", "part"]
theorem sc_are_handles : FnScope N_are_handles ["thing"] (defScope s_are_handles) := ⟨rfl, rfl, rfl, by decide +kernel, rfl, by decide +kernel, by decide +kernel⟩
abbrev s_are_operations : Stmt := topS 20
abbrev N_are_operations : List Str := ["thing", "part"]
theorem sc_are_operations : FnScope N_are_operations ["thing"] (defScope s_are_operations) := ⟨rfl, rfl, rfl, by decide +kernel, rfl, by decide +kernel, by decide +kernel⟩
abbrev s_are_handles_of : Stmt := topS 21
abbrev N_are_handles_of : List Str := ["thing", "handles", "part"]
theorem sc_are_handles_of : FnScope N_are_handles_of ["thing", "handles"] (defScope s_are_handles_of) := ⟨rfl, rfl, rfl, by decide +kernel, rfl, by decide +kernel, by decide +kernel⟩
abbrev s_are_put_writes : Stmt := topS 22
abbrev N_are_put_writes : List Str := ["thing", "cells", "part"]
theorem sc_are_put_writes : FnScope N_are_put_writes ["thing", "cells"] (defScope s_are_put_writes) := ⟨rfl, rfl, rfl, by decide +kernel, rfl, by decide +kernel, by decide +kernel⟩
abbrev s_is_put : Stmt := topS 23
abbrev N_is_put : List Str := ["thing", "cells", "handles", "_", "writes", "after", "handle"]
theorem sc_is_put : FnScope N_is_put ["thing", "cells", "handles"] (defScope s_is_put) := ⟨rfl, rfl, rfl, by decide +kernel, rfl, by decide +kernel, by decide +kernel⟩
abbrev s_is_statement : Stmt := topS 24
abbrev N_is_statement : List Str := ["thing", "cells", "handles", "word"]
theorem sc_is_statement : FnScope N_is_statement ["thing", "cells", "handles"] (defScope s_is_statement) := ⟨rfl, rfl, rfl, by decide +kernel, rfl, by decide +kernel, by decide +kernel⟩
abbrev s_is_body : Stmt := topS 25
abbrev N_is_body : List Str := ["thing", "cells", "handles", "part"]
theorem sc_is_body : FnScope N_is_body ["thing", "cells", "handles"] (defScope s_is_body) := ⟨rfl, rfl, rfl, by decide +kernel, rfl, by decide +kernel, by decide +kernel⟩
abbrev s_is_promise : Stmt := topS 26
abbrev N_is_promise : List Str := ["thing", "cells", "part"]
theorem sc_is_promise : FnScope N_is_promise ["thing", "cells"] (defScope s_is_promise) := ⟨rfl, rfl, rfl, by decide +kernel, rfl, by decide +kernel, by decide +kernel⟩
abbrev s_value_of : Stmt := topS 28
abbrev N_value_of : List Str := ["expression", "values", "number", "word", "left", "right"]
theorem sc_value_of : FnScope N_value_of ["expression", "values", "number"] (defScope s_value_of) := ⟨rfl, rfl, rfl, by decide +kernel, rfl, by decide +kernel, by decide +kernel⟩
abbrev s_truth_of : Stmt := topS 29
abbrev N_truth_of : List Str := ["test", "values", "number", "word", "left", "right"]
theorem sc_truth_of : FnScope N_truth_of ["test", "values", "number"] (defScope s_truth_of) := ⟨rfl, rfl, rfl, by decide +kernel, rfl, by decide +kernel, by decide +kernel⟩
abbrev s_check_module : Stmt := topS 31
abbrev N_check_module : List Str := ["cells", "handles", "operations", "promise", "known", "index", "_", "body", "cell"]
theorem sc_check_module : FnScope N_check_module ["cells", "handles", "operations", "promise"] (defScope s_check_module) := ⟨rfl, rfl, rfl, by decide +kernel, rfl, by decide +kernel, by decide +kernel⟩
abbrev s_law_deck : Stmt := topS 34
abbrev N_law_deck : List Str := ["_law_script", "_law_cell", "_law_numbers", "_law_total"]
theorem sc_law_deck : FnScope N_law_deck ["_law_script"] (defScope s_law_deck) := ⟨rfl, rfl, rfl, by decide +kernel, rfl, by decide +kernel, by decide +kernel⟩
abbrev s_law_draw : Stmt := topS 35
abbrev N_law_draw : List Str := ["_law_deck_here", "_law_below", "_law_cell", "_law_mixed"]
theorem sc_law_draw : FnScope N_law_draw ["_law_deck_here", "_law_below"] (defScope s_law_draw) := ⟨rfl, rfl, rfl, by decide +kernel, rfl, by decide +kernel, by decide +kernel⟩
abbrev s_law_pick : Stmt := topS 36
abbrev N_law_pick : List Str := ["_law_deck_here", "_law_items"]
theorem sc_law_pick : FnScope N_law_pick ["_law_deck_here", "_law_items"] (defScope s_law_pick) := ⟨rfl, rfl, rfl, by decide +kernel, rfl, by decide +kernel, by decide +kernel⟩
abbrev s_law_words : Stmt := topS 37
abbrev N_law_words : List Str := ["_law_deck_here", "_law_many", "_law_turn", "_law_letters", "_law_found", "_law_size", "_law_word", "_law_k"]
theorem sc_law_words : FnScope N_law_words ["_law_deck_here", "_law_many"] (defScope s_law_words) := ⟨rfl, rfl, rfl, by decide +kernel, rfl, by decide +kernel, by decide +kernel⟩
abbrev s_law_cells : Stmt := topS 38
abbrev N_law_cells : List Str := ["_law_deck_here", "_law_pool", "_law_cell", "_law_block", "_law_place", "_law_many", "_law_found", "_law_size"]
theorem sc_law_cells : FnScope N_law_cells ["_law_deck_here"] (defScope s_law_cells) := ⟨rfl, rfl, rfl, by decide +kernel, rfl, by decide +kernel, by decide +kernel⟩
abbrev s_law_expression : Stmt := topS 39
abbrev N_law_expression : List Str := ["_law_deck_here", "_law_here", "_law_deep", "_law_has_input", "_law_way", "_law_two", "_law_spots", "_law_plain", "_law_k"]
theorem sc_law_expression : FnScope N_law_expression ["_law_deck_here", "_law_here", "_law_deep", "_law_has_input"] (defScope s_law_expression) := ⟨rfl, rfl, rfl, by decide +kernel, rfl, by decide +kernel, by decide +kernel⟩
abbrev s_law_test : Stmt := topS 40
abbrev N_law_test : List Str := ["_law_deck_here", "_law_here", "_law_deep", "_law_has_input", "_law_way", "_law_two", "_law_k"]
theorem sc_law_test : FnScope N_law_test ["_law_deck_here", "_law_here", "_law_deep", "_law_has_input"] (defScope s_law_test) := ⟨rfl, rfl, rfl, by decide +kernel, rfl, by decide +kernel, by decide +kernel⟩
abbrev s_law_put_drawn : Stmt := topS 41
abbrev N_law_put_drawn : List Str := ["_law_deck_here", "_law_here", "_law_grips", "_law_block", "_law_some", "_law_writes", "_law_after", "_law_cell", "_law_one"]
theorem sc_law_put_drawn : FnScope N_law_put_drawn ["_law_deck_here", "_law_here", "_law_grips"] (defScope s_law_put_drawn) := ⟨rfl, rfl, rfl, by decide +kernel, rfl, by decide +kernel, by decide +kernel⟩
abbrev s_law_body : Stmt := topS 42
abbrev N_law_body : List Str := ["_law_deck_here", "_law_here", "_law_grips", "_law_many", "_law_deep", "_law_body_here", "_law_turn", "_law_way", "_law_two", "_law_k"]
theorem sc_law_body : FnScope N_law_body ["_law_deck_here", "_law_here", "_law_grips", "_law_many", "_law_deep"] (defScope s_law_body) := ⟨rfl, rfl, rfl, by decide +kernel, rfl, by decide +kernel, by decide +kernel⟩
abbrev s_law_parts : Stmt := topS 43
abbrev N_law_parts : List Str := ["_law_deck_here", "_law_some", "_law_word", "_law_shown", "_law_rows", "_law_grips", "_law_here", "_law_deeds", "_law_body_here", "_law_one", "_law_k"]
theorem sc_law_parts : FnScope N_law_parts ["_law_deck_here"] (defScope s_law_parts) := ⟨rfl, rfl, rfl, by decide +kernel, rfl, by decide +kernel, by decide +kernel⟩
abbrev s_law_value : Stmt := topS 44
abbrev N_law_value : List Str := ["_law_one", "_law_values", "_law_given", "_law_first", "_law_second"]
theorem sc_law_value : FnScope N_law_value ["_law_one", "_law_values", "_law_given"] (defScope s_law_value) := ⟨rfl, rfl, rfl, by decide +kernel, rfl, by decide +kernel, by decide +kernel⟩
abbrev s_law_so : Stmt := topS 45
abbrev N_law_so : List Str := ["_law_one", "_law_values", "_law_given", "_law_first", "_law_second"]
theorem sc_law_so : FnScope N_law_so ["_law_one", "_law_values", "_law_given"] (defScope s_law_so) := ⟨rfl, rfl, rfl, by decide +kernel, rfl, by decide +kernel, by decide +kernel⟩
abbrev s_law_content : Stmt := topS 46
abbrev N_law_content : List Str := ["_law_deck_here", "_law_here", "_law_cells_here", "_law_k", "_law_other", "_law_cell"]
theorem sc_law_content : FnScope N_law_content ["_law_deck_here", "_law_here"] (defScope s_law_content) := ⟨rfl, rfl, rfl, by decide +kernel, rfl, by decide +kernel, by decide +kernel⟩
abbrev s_law_told : Stmt := topS 47
abbrev N_law_told : List Str := ["_law_it", "_law_one", "_law_left", "_law_given", "_law_told_here"]
theorem sc_law_told : FnScope N_law_told ["_law_it", "_law_one", "_law_left", "_law_given"] (defScope s_law_told) := ⟨rfl, rfl, rfl, by decide +kernel, rfl, by decide +kernel, by decide +kernel⟩
abbrev s_law_said : Stmt := topS 48
abbrev N_law_said : List Str := ["_law_it", "_law_one", "_law_left", "_law_given", "_law_told_here"]
theorem sc_law_said : FnScope N_law_said ["_law_it", "_law_one", "_law_left", "_law_given"] (defScope s_law_said) := ⟨rfl, rfl, rfl, by decide +kernel, rfl, by decide +kernel, by decide +kernel⟩
abbrev s_law : Stmt := topS 49
abbrev N_law : List Str := ["_law_script", "_law_deck_here", "_law_turn", "_law_three", "_law_some", "_law_parts_here", "_law_it", "_law_here", "_law_k", "_law_due", "_law_row", "_law_left", "_law_given", "_law_one", "_law_other", "_law_kept", "_law_part"]
theorem sc_law : FnScope N_law ["_law_script"] (defScope s_law) := ⟨rfl, rfl, rfl, by decide +kernel, rfl, by decide +kernel, by decide +kernel⟩
section
variable {P : Program} {w : World} {K : PySem.W.Frag} {mg : Str → Option Value} {base : Heap}
/-- a def that tells of data whether it is so -/
def aTells (f : D → Bool) : ASp := fun ds M Q => ∃ d, ds = [d] ∧ Fine d ∧ Q (.bl (f d)) M
def isInt : D → Bool
  | .int _ => true
  | _ => false
def isPair : D → Bool
  | .tup [_, _] => true
  | _ => false
def isCell : D → Bool
  | .tup [.int a, .int b] => decide (0 ≤ a) && decide (0 ≤ b)
  | _ => false
def isName : D → Bool
  | .str z => decide (1 ≤ z.length ∧ z.length ≤ 8) && Txt.isascii z && Txt.isalpha z && Txt.islower z
  | _ => false
theorem ok_is_int {f : Addr} {fd : FuncData} (F : Fun K "is_int" "is_int" s_is_int f fd) (z_isinstance : mg "isinstance" = none) (z_int : mg "int" = none) (z_bool : mg "bool" = none) :
    FnG P w K mg base CX0 1 f fd ["thing"] (spA K (aTells isInt)) := by
  have nd := sc_is_int.nd
  refine okA F sc_is_int (fun ds M Q h => by obtain ⟨d, rfl, _⟩ := h; rfl) (fun cv A' out t G Z hr hq => (ass_one (as_ret (ae_and (ae_callB (isiK K) s_isi z_isinstance (by decide +kernel) (aa_cons (av 0) (aa_cons (ae_ty (n := "int") z_int (by decide +kernel)) aa_nil))) (ae_one (ae_not (ae_callB (isiK K) s_isi z_isinstance (by decide +kernel) (aa_cons (av 0) (aa_cons (ae_ty (n := "bool") z_bool (by decide +kernel)) aa_nil))))))))) (fun ds M Q h => ?_)
  obtain ⟨d, rfl, hf, q⟩ := h
  simp only [aSeq, aAsg, aGName, aGTup, aGCons, aGNil, unTup, aVar, aC, aOp, aUn, aTest, aChain, aAnd, aOr, aNot, aIf, aAndT, aOrT, aNotT, aNil, aCons, aTup, aLst, aLstM, aDictM, aCB, aLc, aLc2, aDc, aFld, aFldSet, aMeth, aMethK, aMake, aMakeM, aPairs, aDisp, aRev, aRevM, aPutAt, aAugI, aFor, aWhile, aSeqW, aRng1, aRng2, aEnum, aNext, aNever, aBreak, aCont, aDrop, aRet, aRetN, aIfS, aPar, aCall, aYes, startA, endsA, aI, aU, aBM, aBM0, aTx, aSl, aNoPart, aPart, List.map_cons, List.map_nil, List.length_cons, List.length_nil, List.replicate_succ, List.replicate_zero, List.cons_append, List.nil_append, List.append_nil, List.set_cons_zero, List.set_cons_succ, List.getElem?_cons_zero, List.getElem?_cons_succ, Option.some.injEq, exists_eq_left', D.int.injEq, D.str.injEq, D.bl.injEq, D.ref.injEq, D.tup.injEq, D.lst.injEq, List.cons.injEq, and_true, true_and, exists_and_left, exists_eq_left, exists_eq, and_assoc, Nat.reduceAdd, Nat.reduceSub, Nat.zero_add, exists_and_right, exists_const, if_true, if_false, Bool.not_true, Bool.not_false, Bool.false_eq_true, wipeA, N_is_int]
  simp only [isi_f hf (.inl rfl), isi_f hf (.inr (.inl rfl)), D.bl.injEq, exists_eq_left']
  cases d <;> simpa [isTyB, isInt] using q
theorem ok_is_pair {f : Addr} {fd : FuncData} (F : Fun K "is_pair" "is_pair" s_is_pair f fd) (z_isinstance : mg "isinstance" = none) (z_tuple : mg "tuple" = none) (z_len : mg "len" = none) :
    FnG P w K mg base CX0 1 f fd ["thing"] (spA K (aTells isPair)) := by
  have nd := sc_is_pair.nd
  refine okA F sc_is_pair (fun ds M Q h => by obtain ⟨d, rfl, _⟩ := h; rfl) (fun cv A' out t G Z hr hq => (ass_one (as_ret (ae_and (ae_callB (isiK K) s_isi z_isinstance (by decide +kernel) (aa_cons (av 0) (aa_cons (ae_ty (n := "tuple") z_tuple (by decide +kernel)) aa_nil))) (ae_one (ae_cmp (eqDK K hr.units) s_eq (ae_callB (c_len K) s_len z_len (by decide +kernel) (aa_cons (av 0) aa_nil)) ae_int (nomark _))))))) (fun ds M Q h => ?_)
  obtain ⟨d, rfl, hf, q⟩ := h
  simp only [aSeq, aAsg, aGName, aGTup, aGCons, aGNil, unTup, aVar, aC, aOp, aUn, aTest, aChain, aAnd, aOr, aNot, aIf, aAndT, aOrT, aNotT, aNil, aCons, aTup, aLst, aLstM, aDictM, aCB, aLc, aLc2, aDc, aFld, aFldSet, aMeth, aMethK, aMake, aMakeM, aPairs, aDisp, aRev, aRevM, aPutAt, aAugI, aFor, aWhile, aSeqW, aRng1, aRng2, aEnum, aNext, aNever, aBreak, aCont, aDrop, aRet, aRetN, aIfS, aPar, aCall, aYes, startA, endsA, aI, aU, aBM, aBM0, aTx, aSl, aNoPart, aPart, List.map_cons, List.map_nil, List.length_cons, List.length_nil, List.replicate_succ, List.replicate_zero, List.cons_append, List.nil_append, List.append_nil, List.set_cons_zero, List.set_cons_succ, List.getElem?_cons_zero, List.getElem?_cons_succ, Option.some.injEq, exists_eq_left', D.int.injEq, D.str.injEq, D.bl.injEq, D.ref.injEq, D.tup.injEq, D.lst.injEq, List.cons.injEq, and_true, true_and, exists_and_left, exists_eq_left, exists_eq, and_assoc, Nat.reduceAdd, Nat.reduceSub, Nat.zero_add, exists_and_right, exists_const, if_true, if_false, Bool.not_true, Bool.not_false, Bool.false_eq_true, wipeA, N_is_pair]
  simp only [isi_f hf (.inr (.inr (.inr (.inl rfl)))), D.bl.injEq, exists_eq_left']
  cases d with
  | tup ds =>
    simp only [isTyB, decide_true, if_true, len_tup, aEq_f fine_int fine_int, eqD, py, PyData.eqv]
    rcases ds with _ | ⟨a, _ | ⟨b, _ | ⟨c, r⟩⟩⟩ <;> simp [isPair] at q ⊢ <;> first | exact q | skip
  | _ => simpa [isTyB, isPair] using q
theorem ok_is_cell {f : Addr} {fd : FuncData} (F : Fun K "is_cell" "is_cell" s_is_cell f fd) {k : Nat} (D_is_pair : Has P w K mg base 1 "is_pair" ["thing"] (spA K (aTells isPair))) (D_is_int : Has P w K mg base 1 "is_int" ["thing"] (spA K (aTells isInt))) :
    FnG P w K mg base CX0 2 f fd ["thing"] (spA K (aTells isCell)) := by
  have nd := sc_is_cell.nd
  refine okA F sc_is_cell (fun ds M Q h => by obtain ⟨d, rfl, _⟩ := h; rfl) (fun cv A' out t G Z hr hq => (ass_cons (as_if (at_not (PW.pt (aw_and (at_val (ae_c D_is_pair (hr.mono (by decide)) hq (aa_cons (av 0) aa_nil))) (aw_and (at_val (ae_c D_is_int (hr.mono (by decide)) hq (aa_cons (ae_ix hr.u1 (av 0) ae_int (fun _ _ => rfl)) aa_nil))) (aw_and1 (at_val (ae_c D_is_int (hr.mono (by decide)) hq (aa_cons (ae_ix hr.u1 (av 0) ae_int (fun _ _ => rfl)) aa_nil)))))))) (ass_one (as_ret ae_bl)) ass_nil)
      (ass_one (as_ret (ae_and (ae_cmp op_geA s_B (ae_ix hr.u1 (av 0) ae_int (fun _ _ => rfl)) ae_int (nomark _)) (ae_one (ae_cmp op_geA s_B (ae_ix hr.u1 (av 0) ae_int (fun _ _ => rfl)) ae_int (nomark _)))))))) (fun ds M Q h => ?_)
  obtain ⟨d, rfl, hf, q⟩ := h
  simp only [aSeq, aAsg, aGName, aGTup, aGCons, aGNil, unTup, aVar, aC, aOp, aUn, aTest, aChain, aAnd, aOr, aNot, aIf, aAndT, aOrT, aNotT, aNil, aCons, aTup, aLst, aLstM, aDictM, aCB, aLc, aLc2, aDc, aFld, aFldSet, aMeth, aMethK, aMake, aMakeM, aPairs, aDisp, aRev, aRevM, aPutAt, aAugI, aFor, aWhile, aSeqW, aRng1, aRng2, aEnum, aNext, aNever, aBreak, aCont, aDrop, aRet, aRetN, aIfS, aPar, aCall, aYes, startA, endsA, aI, aU, aBM, aBM0, aTx, aSl, aNoPart, aPart, List.map_cons, List.map_nil, List.length_cons, List.length_nil, List.replicate_succ, List.replicate_zero, List.cons_append, List.nil_append, List.append_nil, List.set_cons_zero, List.set_cons_succ, List.getElem?_cons_zero, List.getElem?_cons_succ, Option.some.injEq, exists_eq_left', D.int.injEq, D.str.injEq, D.bl.injEq, D.ref.injEq, D.tup.injEq, D.lst.injEq, List.cons.injEq, and_true, true_and, exists_and_left, exists_eq_left, exists_eq, and_assoc, Nat.reduceAdd, Nat.reduceSub, Nat.zero_add, exists_and_right, exists_const, if_true, if_false, Bool.not_true, Bool.not_false, Bool.false_eq_true, wipeA, N_is_cell]
  simp only [aTells, List.cons.injEq, and_true, exists_eq_left', exists_eq_left]
  refine ⟨hf, _, rfl, ?_⟩
  by_cases hp : isPair d = true
  · obtain ⟨a, b, rfl⟩ : ∃ a b, d = .tup [a, b] := by
      cases d <;> simp only [isPair, Bool.false_eq_true] at hp
      rename_i ds
      rcases ds with _ | ⟨a, _ | ⟨b, _ | ⟨c, r⟩⟩⟩ <;> simp at hp
      exact ⟨a, b, rfl⟩
    have fa := fine_tup hf a (by simp)
    have fb := fine_tup hf b (by simp)
    rw [if_pos hp]
    simp only [ix_t0, ix_t1]
    refine ⟨fa, _, rfl, ?_⟩
    cases a <;> simp only [isInt, Bool.false_eq_true, if_false, if_true, Bool.not_false, isCell, D.bl.injEq, exists_eq_left'] at q ⊢ <;> try exact q
    refine ⟨fb, ?_⟩
    cases b <;> simp only [isInt, Bool.false_eq_true, if_false, if_true, Bool.not_false, Bool.not_true, isCell, D.bl.injEq, exists_eq_left', aB] at q ⊢ <;> try exact q
    rename_i a b
    by_cases h0 : 0 ≤ a
    · simpa [h0] using q
    · simpa [h0] using q
  · rw [if_neg hp]
    have : isCell d = false := by
      cases d <;> first | rfl | skip
      rename_i ds
      rcases ds with _ | ⟨a, _ | ⟨b, _ | ⟨c, r⟩⟩⟩
      · rfl
      · cases a <;> rfl
      · simp [isPair] at hp
      · cases a <;> first | rfl | (cases b <;> rfl)
    rw [this] at q
    simpa using q
theorem ok_is_name {f : Addr} {fd : FuncData} (F : Fun K "is_name" "is_name" s_is_name f fd) (z_isinstance : mg "isinstance" = none) (z_str : mg "str" = none) (z_len : mg "len" = none) :
    FnG P w K mg base CX0 1 f fd ["thing"] (spA K (aTells isName)) := by
  have nd := sc_is_name.nd
  refine okA F sc_is_name (fun ds M Q h => by obtain ⟨d, rfl, _⟩ := h; rfl) (fun cv A' out t G Z hr hq => (ass_cons (as_if (at_not (PW.pt (aw_and (at_val (ae_callB (isiK K) s_isi z_isinstance (by decide +kernel) (aa_cons (av 0) (aa_cons (ae_ty (n := "str") z_str (by decide +kernel)) aa_nil)))) (aw_and1 (at_chain op_leA s_B op_leA s_B ae_int (ae_callB (c_len K) s_len z_len (by decide +kernel) (aa_cons (av 0) aa_nil)) ae_int))))) (ass_one (as_ret ae_bl)) ass_nil)
      (ass_one (as_ret (ae_and (ae_bm0 K s_tx (pe_bm0 PySem.F.plainAttrs_str PySem.F.slot_str_isascii PySem.F.type_str_isascii mt_isascii (av 0))) (ae_and (ae_bm0 K s_tx (pe_bm0 PySem.F.plainAttrs_str PySem.F.slot_str_isalpha PySem.F.type_str_isalpha mt_isalpha (av 0))) (ae_one (ae_bm0 K s_tx (pe_bm0 PySem.F.plainAttrs_str PySem.F.slot_str_islower PySem.F.type_str_islower mt_islower (av 0)))))))))) (fun ds M Q h => ?_)
  obtain ⟨d, rfl, hf, q⟩ := h
  simp only [aSeq, aAsg, aGName, aGTup, aGCons, aGNil, unTup, aVar, aC, aOp, aUn, aTest, aChain, aAnd, aOr, aNot, aIf, aAndT, aOrT, aNotT, aNil, aCons, aTup, aLst, aLstM, aDictM, aCB, aLc, aLc2, aDc, aFld, aFldSet, aMeth, aMethK, aMake, aMakeM, aPairs, aDisp, aRev, aRevM, aPutAt, aAugI, aFor, aWhile, aSeqW, aRng1, aRng2, aEnum, aNext, aNever, aBreak, aCont, aDrop, aRet, aRetN, aIfS, aPar, aCall, aYes, startA, endsA, aI, aU, aBM, aBM0, aTx, aSl, aNoPart, aPart, List.map_cons, List.map_nil, List.length_cons, List.length_nil, List.replicate_succ, List.replicate_zero, List.cons_append, List.nil_append, List.append_nil, List.set_cons_zero, List.set_cons_succ, List.getElem?_cons_zero, List.getElem?_cons_succ, Option.some.injEq, exists_eq_left', D.int.injEq, D.str.injEq, D.bl.injEq, D.ref.injEq, D.tup.injEq, D.lst.injEq, List.cons.injEq, and_true, true_and, exists_and_left, exists_eq_left, exists_eq, and_assoc, Nat.reduceAdd, Nat.reduceSub, Nat.zero_add, exists_and_right, exists_const, if_true, if_false, Bool.not_true, Bool.not_false, Bool.false_eq_true, wipeA, N_is_name]
  simp only [isi_f hf (.inr (.inr (.inl rfl))), D.bl.injEq, exists_eq_left']
  cases d <;> simp only [isTyB, decide_true, decide_false, Bool.false_eq_true, if_false, if_true, isName, reduceCtorEq, String.reduceEq] at q ⊢ <;> try exact q
  rename_i z
  have hz := hf.len_str
  rw [len_str hz]
  simp only [aB, D.bl.injEq, exists_eq_left', isTy, true_and, D.str.injEq, decide_eq_true_eq]
  by_cases h1 : (1 : Int) ≤ z.length
  · rw [if_pos h1]
    have h1' : 1 ≤ z.length := by omega
    by_cases h2 : (z.length : Int) ≤ 8
    · have h2' : z.length ≤ 8 := by omega
      simp only [h2, h1', h2', decide_true, Bool.not_true, Bool.false_eq_true, if_false, and_self, Bool.true_and] at q ⊢
      cases h3 : Txt.isascii z <;> simp only [h3, Bool.false_and, Bool.true_and, Bool.false_eq_true, if_false, if_true] at q ⊢
      · exact q
      cases h4 : Txt.isalpha z <;> simp only [h4, Bool.false_and, Bool.true_and, Bool.false_eq_true, if_false, if_true] at q ⊢ <;> exact q
    · have h2' : ¬ z.length ≤ 8 := by omega
      simpa [h2, h2'] using q
  · have h1' : ¬ 1 ≤ z.length := by omega
    simpa [h1, h1'] using q
/-- each item is less than the next -/
def ascD : List D → Bool
  | a :: b :: r => ltD a b && ascD (b :: r)
  | _ => true
def aAsc : ASp := fun ds M Q => ∃ d es, ds = [d] ∧ (d = .tup es ∨ d = .lst es) ∧ (∀ x ∈ es, Fine x ∧ py x ≠ .none) ∧ (∀ x ∈ es, ∀ y ∈ es, PySem.W.alike (py x) (py y) = true) ∧ es.length ≤ 1000000 ∧ Q (.bl (ascD es)) M
def stepD (es : List D) : D → Bool
  | .int i => ltD (es.getD i.toNat .non) (es.getD (i.toNat + 1) .non)
  | _ => false
theorem asc_all : ∀ es : List D, (intsD 0 (es.length - 1)).all (stepD es) = ascD es
  | [] => rfl
  | [_] => rfl
  | a :: b :: r => by
    have ih := asc_all (b :: r)
    have e : intsD 0 ((a :: b :: r).length - 1) = .int 0 :: (intsD 0 ((b :: r).length - 1)).map (fun d => match d with | .int i => .int (i + 1) | x => x) := by
      unfold intsD
      simp only [List.length_cons, Nat.add_sub_cancel, List.range_succ_eq_map, List.map_cons, List.map_map]
      congr 1
    rw [e, List.all_cons, List.all_map]
    have e2 : (intsD 0 ((b :: r).length - 1)).all ((stepD (a :: b :: r)) ∘ fun d => match d with | .int i => .int (i + 1) | x => x) = (intsD 0 ((b :: r).length - 1)).all (stepD (b :: r)) := by
      unfold intsD
      rw [List.all_map, List.all_map]
      refine congrArg (fun f => List.all _ f) (funext fun i => ?_)
      have h1 : ((0 : Int) + (i : Int) + 1).toNat = i + 1 := by omega
      have h2 : ((0 : Int) + (i : Int)).toNat = i := by omega
      simp only [Function.comp, stepD, h1, h2, List.getD_cons_succ]
    rw [e2, ih]
    rfl
theorem ok_ascends {f : Addr} {fd : FuncData} (F : Fun K "ascends" "ascends" s_ascends f fd) (z_all : mg "all" = none) (z_range : mg "range" = none) (z_len : mg "len" = none) :
    FnG P w K mg base CX0 1 f fd ["row"] (spA K aAsc) := by
  have nd := sc_ascends.nd
  refine okA F sc_ascends (fun ds M Q h => by obtain ⟨d, _, rfl, _⟩ := h; rfl) (fun cv A' out t G Z hr hq => (ass_one (as_ret (ae_callB (c_all K rfl) s_all z_all (by decide +kernel) (aa_cons (ae_lc (own := [("at", 1)]) rfl nd (ai_rng1 z_range (aa_cons (ae_op op_sub s_I0 (ae_callB (c_len K) s_len z_len (by decide +kernel) (aa_cons (av 0) aa_nil)) ae_int) aa_nil)) (blkOk_by (own := [("at", 1)]) (N := N_ascends) (sc := defScope s_ascends) (by decide +kernel)) (fun _ _ _ _ _ => (pg_name (i := 1) nd rfl (by first | exact Or.inl rfl | exact Or.inr rfl))) (go_name 1) (by decide) (fun _ _ _ _ _ => ats_nil) (fun _ _ _ _ _ => (ae_cmp (ltDK K hr.units) s_lt (ae_ix hr.u1 (av 0) (av 1) (fun _ _ => rfl)) (ae_ix hr.u1 (av 0) (ae_op (op_addA K) s_add (av 1) ae_int) (fun _ _ => rfl)) (nomark _)))) aa_nil))))) (fun ds M Q h => ?_)
  obtain ⟨d, es, rfl, hd, hf, ha, hl, q⟩ := h
  simp only [aSeq, aAsg, aGName, aGTup, aGCons, aGNil, unTup, aVar, aC, aOp, aUn, aTest, aChain, aAnd, aOr, aNot, aIf, aAndT, aOrT, aNotT, aNil, aCons, aTup, aLst, aLstM, aDictM, aCB, aLc, aLc2, aDc, aFld, aFldSet, aMeth, aMethK, aMake, aMakeM, aPairs, aDisp, aRev, aRevM, aPutAt, aAugI, aFor, aWhile, aSeqW, aRng1, aRng2, aEnum, aNext, aNever, aBreak, aCont, aDrop, aRet, aRetN, aIfS, aPar, aCall, aYes, startA, endsA, aI, aU, aBM, aBM0, aTx, aSl, aNoPart, aPart, List.map_cons, List.map_nil, List.length_cons, List.length_nil, List.replicate_succ, List.replicate_zero, List.cons_append, List.nil_append, List.append_nil, List.set_cons_zero, List.set_cons_succ, List.getElem?_cons_zero, List.getElem?_cons_succ, Option.some.injEq, exists_eq_left', D.int.injEq, D.str.injEq, D.bl.injEq, D.ref.injEq, D.tup.injEq, D.lst.injEq, List.cons.injEq, and_true, true_and, exists_and_left, exists_eq_left, exists_eq, and_assoc, Nat.reduceAdd, Nat.reduceSub, Nat.zero_add, exists_and_right, exists_const, if_true, if_false, Bool.not_true, Bool.not_false, Bool.false_eq_true, wipeA, N_ascends]
  have hlen : ∀ {Q : D → Mem → Prop}, aLen [d] M Q = Q (.int es.length) M := by
    intro Q
    rcases hd with rfl | rfl
    · exact len_tup
    · exact len_lst
  have hix : ∀ {Q : D → Mem → Prop} (k : Nat) (x : D), es[k]? = some x → aIx d (.int k) M Q = Q x M := by
    intro Q k x hk
    rcases hd with rfl | rfl
    · exact ix_tk k hk
    · exact ix_lk k hk
  rw [hlen]
  refine ⟨_, rfl, by omega, by omega, ?_⟩
  have hn : ((es.length : Int) - 1).toNat = es.length - 1 := by omega
  rw [hn]
  refine lc_map (fun d => .bl (stepD es d)) trivial (by rw [intsD_len]; omega) (fun x hx P R hP => ?_) ?_
  · obtain ⟨i, hi, rfl⟩ : ∃ i : Nat, i < es.length - 1 ∧ x = .int i := by
      unfold intsD at hx
      obtain ⟨i, hi, rfl⟩ := List.mem_map.mp hx
      exact ⟨i, List.mem_range.mp hi, by simp⟩
    simp only [aSeq, aAsg, aGName, aGTup, aGCons, aGNil, unTup, aVar, aC, aOp, aUn, aTest, aChain, aAnd, aOr, aNot, aIf, aAndT, aOrT, aNotT, aNil, aCons, aTup, aLst, aLstM, aDictM, aCB, aLc, aLc2, aDc, aFld, aFldSet, aMeth, aMethK, aMake, aMakeM, aPairs, aDisp, aRev, aRevM, aPutAt, aAugI, aFor, aWhile, aSeqW, aRng1, aRng2, aEnum, aNext, aNever, aBreak, aCont, aDrop, aRet, aRetN, aIfS, aPar, aCall, aYes, startA, endsA, aI, aU, aBM, aBM0, aTx, aSl, aNoPart, aPart, List.map_cons, List.map_nil, List.length_cons, List.length_nil, List.replicate_succ, List.replicate_zero, List.cons_append, List.nil_append, List.append_nil, List.set_cons_zero, List.set_cons_succ, List.getElem?_cons_zero, List.getElem?_cons_succ, Option.some.injEq, exists_eq_left', D.int.injEq, D.str.injEq, D.bl.injEq, D.ref.injEq, D.tup.injEq, D.lst.injEq, List.cons.injEq, and_true, true_and, exists_and_left, exists_eq_left, exists_eq, and_assoc, Nat.reduceAdd, Nat.reduceSub, Nat.zero_add, exists_and_right, exists_const, if_true, if_false, Bool.not_true, Bool.not_false, Bool.false_eq_true, wipeA]
    have h0 : es[i]? = some es[i] := List.getElem?_eq_getElem (by omega)
    have h1 : es[i + 1]? = some es[i + 1] := List.getElem?_eq_getElem (by omega)
    have f0 := hf _ (List.mem_of_getElem? h0)
    have f1 := hf _ (List.mem_of_getElem? h1)
    rw [hix i _ h0, aAdd_ii]
    have e1 : ((i : Int) + 1) = ((i + 1 : Nat) : Int) := by omega
    rw [e1, hix (i + 1) _ h1, aLt_f f0.1 f1.1 f0.2 (ha _ (List.mem_of_getElem? h0) _ (List.mem_of_getElem? h1))]
    have : stepD es (.int i) = ltD es[i] es[i + 1] := by
      simp only [stepD, Int.toNat_natCast, List.getD_eq_getElem?_getD, h0, h1, Option.getD_some]
    rw [← this]
    exact hP
  · refine ⟨_, _, _, rfl, rfl, bools_map _ _, ?_⟩
    rw [List.all_map]
    have : (intsD 0 (es.length - 1)).all (id ∘ stepD es) = ascD es := asc_all es
    rw [this]
    exact q
end
end E60
namespace E60
open PySem PySem.Spec PyProof.Rows L2 Lay LA
section
variable {P : Program} {w : World} {K : PySem.W.Frag} {mg : Str → Option Value} {base : Heap}
abbrev Cells := List (List Key × D)
def startsW : D → Bool
  | .tup (.str _ :: _) => true
  | _ => false
def isCellIn (cs : Cells) : D → Bool
  | .tup [.int a, .int b] => decide (0 ≤ a) && decide (0 ≤ b) && (valD cs [.inl a, .inl b]).isSome
  | _ => false
def no0 (b : Bool) : List D → Bool
  | [] => b
  | _ => false
def one (f : D → Bool) : List D → Bool
  | [a] => f a
  | _ => false
def two (f g : D → Bool) : List D → Bool
  | [a, b] => f a && g b
  | _ => false
def three (f g h : D → Bool) : List D → Bool
  | [a, b, c] => f a && (g b && h c)
  | _ => false
mutual
def exprD (cs : Cells) (inp : Bool) : Nat → D → Bool
  | 0, d => (match d with | .int i => decide (0 ≤ i) && decide (i ≤ 20) | _ => false)
  | n + 1, d => (match d with
    | .int i => decide (0 ≤ i) && decide (i ≤ 20)
    | .tup (.str x :: r) => if x = "cell" then one (isCellIn cs) r else if x = "input" then no0 inp r
      else if x = "pick" then three (testD cs inp n) (exprD cs inp n) (exprD cs inp n) r
      else (decide (x = "plus") || (decide (x = "minus") || decide (x = "times"))) && two (exprD cs inp n) (exprD cs inp n) r
    | _ => false)
def testD (cs : Cells) (inp : Bool) : Nat → D → Bool
  | 0, _ => false
  | n + 1, d => (match d with
    | .tup (.str x :: r) => if x = "less" ∨ x = "same" then two (exprD cs inp n) (exprD cs inp n) r
      else if x = "not" then one (testD cs inp n) r
      else decide (x = "and") && two (testD cs inp n) (testD cs inp n) r
    | _ => false)
end
theorem exprD_int {cs : Cells} {inp : Bool} {n : Nat} {i : Int} : exprD cs inp n (.int i) = (decide (0 ≤ i) && decide (i ≤ 20)) := by cases n <;> rw [exprD]
theorem exprD_tup {cs : Cells} {inp : Bool} {m : Nat} {x : Str} {r : List D} : exprD cs inp (m + 1) (.tup (.str x :: r)) = if x = "cell" then one (isCellIn cs) r else if x = "input" then no0 inp r
      else if x = "pick" then three (testD cs inp m) (exprD cs inp m) (exprD cs inp m) r
      else (decide (x = "plus") || (decide (x = "minus") || decide (x = "times"))) && two (exprD cs inp m) (exprD cs inp m) r := by rw [exprD]
theorem testD_tup {cs : Cells} {inp : Bool} {m : Nat} {x : Str} {r : List D} : testD cs inp (m + 1) (.tup (.str x :: r)) = if x = "less" ∨ x = "same" then two (exprD cs inp m) (exprD cs inp m) r
      else if x = "not" then one (testD cs inp m) r
      else decide (x = "and") && two (testD cs inp m) (testD cs inp m) r := by rw [testD]
theorem exprD_no {cs : Cells} {inp : Bool} {n : Nat} {d : D} (h1 : isInt d = false) (h2 : startsW d = false) : exprD cs inp n d = false := by
  cases n <;> cases d <;> first | rfl | cases h1 | skip
  rename_i ds
  cases ds with
  | nil => rfl
  | cons a r => cases a <;> first | rfl | cases h2
theorem testD_no {cs : Cells} {inp : Bool} {n : Nat} {d : D} (h2 : startsW d = false) : testD cs inp n d = false := by
  cases n <;> cases d <;> first | rfl | skip
  rename_i ds
  cases ds with
  | nil => rfl
  | cons a r => cases a <;> first | rfl | cases h2
theorem startsW_is {d : D} (h : startsW d = true) : ∃ x r, d = .tup (.str x :: r) := by
  unfold startsW at h
  split at h
  · exact ⟨_, _, rfl⟩
  · cases h
theorem isInt_is {d : D} (h : isInt d = true) : ∃ i, d = .int i := by
  unfold isInt at h
  split at h
  · exact ⟨_, rfl⟩
  · cases h
theorem many_ne {α : Type} (y0 y1 y2 y3 : α) (r' : List α) : ¬ (((y0 :: y1 :: y2 :: y3 :: r').length + 1 : Nat) : Int) = 2 ∧ ¬ (((y0 :: y1 :: y2 :: y3 :: r').length + 1 : Nat) : Int) = 1 ∧ ¬ (((y0 :: y1 :: y2 :: y3 :: r').length + 1 : Nat) : Int) = 3 ∧ ¬ (((y0 :: y1 :: y2 :: y3 :: r').length + 1 : Nat) : Int) = 4 := by
  simp only [List.length_cons]
  omega
def aIsE (f : Cells → Bool → D → Bool) (n : Nat) : ASp := fun ds M Q => ∃ d cs inp, ds = [d, .dT cs, .bl inp] ∧ Fine d ∧ (py d).depth ≤ n ∧ Q (.bl (f cs inp d)) M
/-- what is asked one level below -/
def aBelow (A : Nat → ASp) : Nat → ASp
  | 0 => fun _ _ _ => False
  | n + 1 => A n
theorem ok_begins_with_word {f : Addr} {fd : FuncData} (F : Fun K "begins_with_word" "begins_with_word" s_begins_with_word f fd) (z_isinstance : mg "isinstance" = none) (z_str : mg "str" = none) (z_tuple : mg "tuple" = none) (z_len : mg "len" = none) :
    FnG P w K mg base CX0 1 f fd ["thing"] (spA K (aTells startsW)) := by
  have nd := sc_begins_with_word.nd
  refine okA F sc_begins_with_word (fun ds M Q h => by obtain ⟨d, rfl, _⟩ := h; rfl) (fun cv A' out t G Z hr hq => (ass_one (as_ret (ae_and (ae_callB (isiK K) s_isi z_isinstance (by decide +kernel) (aa_cons (av 0) (aa_cons (ae_ty (n := "tuple") z_tuple (by decide +kernel)) aa_nil))) (ae_and (ae_cmp op_gtA s_B (ae_callB (c_len K) s_len z_len (by decide +kernel) (aa_cons (av 0) aa_nil)) ae_int (nomark _)) (ae_one (ae_callB (isiK K) s_isi z_isinstance (by decide +kernel) (aa_cons (ae_ix hr.u1 (av 0) ae_int (fun _ _ => rfl)) (aa_cons (ae_ty (n := "str") z_str (by decide +kernel)) aa_nil))))))))) (fun ds M Q h => ?_)
  obtain ⟨d, rfl, hf, q⟩ := h
  simp only [aSeq, aAsg, aGName, aGTup, aGCons, aGNil, unTup, aVar, aC, aOp, aUn, aTest, aChain, aAnd, aOr, aNot, aIf, aAndT, aOrT, aNotT, aNil, aCons, aTup, aLst, aLstM, aDictM, aCB, aLc, aLc2, aDc, aFld, aFldSet, aMeth, aMethK, aMake, aMakeM, aPairs, aDisp, aRev, aRevM, aPutAt, aAugI, aFor, aWhile, aSeqW, aRng1, aRng2, aEnum, aNext, aNever, aBreak, aCont, aDrop, aRet, aRetN, aIfS, aPar, aCall, aYes, startA, endsA, aI, aU, aBM, aBM0, aTx, aSl, aNoPart, aPart, List.map_cons, List.map_nil, List.length_cons, List.length_nil, List.replicate_succ, List.replicate_zero, List.cons_append, List.nil_append, List.append_nil, List.set_cons_zero, List.set_cons_succ, List.getElem?_cons_zero, List.getElem?_cons_succ, Option.some.injEq, exists_eq_left', D.int.injEq, D.str.injEq, D.bl.injEq, D.ref.injEq, D.tup.injEq, D.lst.injEq, List.cons.injEq, and_true, true_and, exists_and_left, exists_eq_left, exists_eq, and_assoc, Nat.reduceAdd, Nat.reduceSub, Nat.zero_add, exists_and_right, exists_const, if_true, if_false, Bool.not_true, Bool.not_false, Bool.false_eq_true, wipeA, N_begins_with_word]
  simp only [isi_f hf (.inr (.inr (.inr (.inl rfl)))), D.bl.injEq, exists_eq_left']
  cases d with
  | tup ds =>
    simp only [isTyB, decide_true, if_true, len_tup, aGt, aB, D.bl.injEq, exists_eq_left']
    cases ds with
    | nil => simpa [startsW] using q
    | cons a r =>
      have h0 : (0 : Int) < ((a :: r).length : Nat) := by simp only [List.length_cons]; omega
      simp only [h0, decide_true, if_true, ix_t0, isi_f (fine_tup hf a (by simp)) (.inr (.inr (.inl rfl)))]
      cases a <;> simpa [isTyB, startsW] using q
  | _ => simpa [isTyB, startsW] using q
theorem ok_is_cell_in {f : Addr} {fd : FuncData} (F : Fun K "is_cell_in" "is_cell_in" s_is_cell_in f fd) (D_is_cell : Has P w K mg base 2 "is_cell" ["thing"] (spA K (aTells isCell))) :
    FnG P w K mg base CX0 3 f fd ["thing", "cells"] (spA K fun ds M Q => ∃ d cs, ds = [d, .dT cs] ∧ Fine d ∧ Q (.bl (isCellIn cs d)) M) := by
  have nd := sc_is_cell_in.nd
  refine okA F sc_is_cell_in (fun ds M Q h => by obtain ⟨d, _, rfl, _⟩ := h; rfl) (fun cv A' out t G Z hr hq => (ass_one (as_ret (ae_and (ae_c D_is_cell (hr.mono (by decide)) hq (aa_cons (av 0) aa_nil)) (ae_one (ae_cmp (op_inA K hr.u65) (s_in false) (av 0) (av 1) rfl)))))) (fun ds M Q h => ?_)
  obtain ⟨d, cs, rfl, hf, q⟩ := h
  simp only [aSeq, aAsg, aGName, aGTup, aGCons, aGNil, unTup, aVar, aC, aOp, aUn, aTest, aChain, aAnd, aOr, aNot, aIf, aAndT, aOrT, aNotT, aNil, aCons, aTup, aLst, aLstM, aDictM, aCB, aLc, aLc2, aDc, aFld, aFldSet, aMeth, aMethK, aMake, aMakeM, aPairs, aDisp, aRev, aRevM, aPutAt, aAugI, aFor, aWhile, aSeqW, aRng1, aRng2, aEnum, aNext, aNever, aBreak, aCont, aDrop, aRet, aRetN, aIfS, aPar, aCall, aYes, startA, endsA, aI, aU, aBM, aBM0, aTx, aSl, aNoPart, aPart, List.map_cons, List.map_nil, List.length_cons, List.length_nil, List.replicate_succ, List.replicate_zero, List.cons_append, List.nil_append, List.append_nil, List.set_cons_zero, List.set_cons_succ, List.getElem?_cons_zero, List.getElem?_cons_succ, Option.some.injEq, exists_eq_left', D.int.injEq, D.str.injEq, D.bl.injEq, D.ref.injEq, D.tup.injEq, D.lst.injEq, List.cons.injEq, and_true, true_and, exists_and_left, exists_eq_left, exists_eq, and_assoc, Nat.reduceAdd, Nat.reduceSub, Nat.zero_add, exists_and_right, exists_const, if_true, if_false, Bool.not_true, Bool.not_false, Bool.false_eq_true, wipeA, N_is_cell_in]
  simp only [aTells, List.cons.injEq, and_true, exists_eq_left', exists_eq_left]
  refine ⟨hf, _, rfl, ?_⟩
  by_cases hc : isCell d = true
  · obtain ⟨a, b, rfl⟩ : ∃ a b, d = .tup [.int a, .int b] := by
      unfold isCell at hc
      split at hc
      · exact ⟨_, _, rfl⟩
      · cases hc
    rw [if_pos hc]
    refine ⟨_, _, rfl, rfl, ?_⟩
    simpa [isCellIn, isCell] using (by
      have : isCellIn cs (.tup [.int a, .int b]) = (valD cs [.inl a, .inl b]).isSome := by
        simp only [isCell] at hc
        simp only [isCellIn, hc, Bool.true_and]
      rw [← this]
      exact q)
  · rw [if_neg hc]
    have : isCellIn cs d = false := by
      unfold isCellIn
      split
      · simp only [isCell] at hc
        simp [hc]
      · rfl
    rw [this] at q
    exact q
section
variable {n : Nat} (D_is_int : Has P w K mg base 1 "is_int" ["thing"] (spA K (aTells isInt))) (D_begins_with_word : Has P w K mg base 1 "begins_with_word" ["thing"] (spA K (aTells startsW)))
  (D_is_cell_in : Has P w K mg base 3 "is_cell_in" ["thing", "cells"] (spA K fun ds M Q => ∃ d cs, ds = [d, .dT cs] ∧ Fine d ∧ Q (.bl (isCellIn cs d)) M))
  (D_is_expression : Has P w K mg base (n + 3) "is_expression" ["thing", "cells", "has_input"] (spA K (aBelow (fun n => aIsE (fun cs inp => exprD cs inp n) n) n)))
  (D_is_test : Has P w K mg base (n + 3) "is_test" ["thing", "cells", "has_input"] (spA K (aBelow (fun n => aIsE (fun cs inp => testD cs inp n) n) n)))
include D_is_int D_begins_with_word D_is_cell_in D_is_expression D_is_test in
theorem ok_is_expression {f : Addr} {fd : FuncData} {t0 : Tok} (F : Fun K "is_expression" "is_expression" s_is_expression f fd) (z_len : mg "len" = none) (c_MOST_NUMBER : mg "MOST_NUMBER" = some (.int 20 t0)) :
    FnG P w K mg base CX0 (n + 4) f fd ["thing", "cells", "has_input"] (spA K (aIsE (fun cs inp => exprD cs inp n) n)) := by
  have nd := sc_is_expression.nd
  refine okA (k := n + 3) F sc_is_expression (fun ds M Q h => by obtain ⟨d, _, _, rfl, _⟩ := h; rfl) (fun cv A' out t G Z hr hq => (ass_cons (as_if (at_val (ae_c D_is_int (hr.mono (by omega)) hq (aa_cons (av 0) aa_nil))) (ass_one (as_ret (ae_chain op_leA s_B op_leA s_B ae_int (av 0) (ae_gI c_MOST_NUMBER)))) ass_nil)
      (ass_cons (as_if (at_not (at_val (ae_c D_begins_with_word (hr.mono (by omega)) hq (aa_cons (av 0) aa_nil)))) (ass_one (as_ret ae_bl)) ass_nil)
      (ass_cons (as_set (i := 3) nd rfl (Or.inl rfl) (ae_ix hr.u1 (av 0) ae_int (fun _ _ => rfl)))
      (ass_cons (as_if (at_cmp (eqDK K hr.units) s_eq (av 3) ae_str (nomark _)) (ass_one (as_ret (ae_and (ae_cmp (eqDK K hr.units) s_eq (ae_callB (c_len K) s_len z_len (by decide +kernel) (aa_cons (av 0) aa_nil)) ae_int (nomark _)) (ae_one (ae_c D_is_cell_in (hr.mono (by omega)) hq (aa_cons (ae_ix hr.u1 (av 0) ae_int (fun _ _ => rfl)) (aa_cons (av 1) aa_nil))))))) ass_nil)
      (ass_cons (as_if (at_cmp (eqDK K hr.units) s_eq (av 3) ae_str (nomark _)) (ass_one (as_ret (ae_and (ae_cmp (eqDK K hr.units) s_eq (ae_callB (c_len K) s_len z_len (by decide +kernel) (aa_cons (av 0) aa_nil)) ae_int (nomark _)) (ae_one (av 2))))) ass_nil)
      (ass_cons (as_if (at_cmp (eqDK K hr.units) s_eq (av 3) ae_str (nomark _)) (ass_one (as_ret (ae_and (ae_cmp (eqDK K hr.units) s_eq (ae_callB (c_len K) s_len z_len (by decide +kernel) (aa_cons (av 0) aa_nil)) ae_int (nomark _)) (ae_and (ae_c D_is_test (hr.mono (by omega)) hq (aa_cons (ae_ix hr.u1 (av 0) ae_int (fun _ _ => rfl)) (aa_cons (av 1) (aa_cons (av 2) aa_nil)))) (ae_and (ae_c D_is_expression (hr.mono (by omega)) hq (aa_cons (ae_ix hr.u1 (av 0) ae_int (fun _ _ => rfl)) (aa_cons (av 1) (aa_cons (av 2) aa_nil)))) (ae_one (ae_c D_is_expression (hr.mono (by omega)) hq (aa_cons (ae_ix hr.u1 (av 0) ae_int (fun _ _ => rfl)) (aa_cons (av 1) (aa_cons (av 2) aa_nil)))))))))) ass_nil)
      (ass_one (as_ret (ae_and (ae_cmp (op_inA K hr.u65) (s_in false) (av 3) (ae_tup (aa_cons ae_str (aa_cons ae_str (aa_cons ae_str aa_nil)))) rfl) (ae_and (ae_cmp (eqDK K hr.units) s_eq (ae_callB (c_len K) s_len z_len (by decide +kernel) (aa_cons (av 0) aa_nil)) ae_int (nomark _)) (ae_and (ae_c D_is_expression (hr.mono (by omega)) hq (aa_cons (ae_ix hr.u1 (av 0) ae_int (fun _ _ => rfl)) (aa_cons (av 1) (aa_cons (av 2) aa_nil)))) (ae_one (ae_c D_is_expression (hr.mono (by omega)) hq (aa_cons (ae_ix hr.u1 (av 0) ae_int (fun _ _ => rfl)) (aa_cons (av 1) (aa_cons (av 2) aa_nil))))))))))))))))) (fun ds M Q h => ?_)
  obtain ⟨d, cs, inp, rfl, hf, hdep, q⟩ := h
  have q : Q (.bl (exprD cs inp n d)) M := q
  simp only [aSeq, aAsg, aGName, aGTup, aGCons, aGNil, unTup, aVar, aC, aOp, aUn, aTest, aChain, aAnd, aOr, aNot, aIf, aAndT, aOrT, aNotT, aNil, aCons, aTup, aLst, aLstM, aDictM, aCB, aLc, aLc2, aDc, aFld, aFldSet, aMeth, aMethK, aMake, aMakeM, aPairs, aDisp, aRev, aRevM, aPutAt, aAugI, aFor, aWhile, aSeqW, aRng1, aRng2, aEnum, aNext, aNever, aBreak, aCont, aDrop, aRet, aRetN, aIfS, aPar, aCall, aYes, startA, endsA, aI, aU, aBM, aBM0, aTx, aSl, aNoPart, aPart, List.map_cons, List.map_nil, List.length_cons, List.length_nil, List.replicate_succ, List.replicate_zero, List.cons_append, List.nil_append, List.append_nil, List.set_cons_zero, List.set_cons_succ, List.getElem?_cons_zero, List.getElem?_cons_succ, Option.some.injEq, exists_eq_left', D.int.injEq, D.str.injEq, D.bl.injEq, D.ref.injEq, D.tup.injEq, D.lst.injEq, List.cons.injEq, and_true, true_and, exists_and_left, exists_eq_left, exists_eq, and_assoc, Nat.reduceAdd, Nat.reduceSub, Nat.zero_add, exists_and_right, exists_const, if_true, if_false, Bool.not_true, Bool.not_false, Bool.false_eq_true, wipeA, N_is_expression]
  simp only [aTells, List.cons.injEq, and_true, exists_eq_left', exists_eq_left, D.bl.injEq]
  refine ⟨hf, ?_⟩
  cases hi : isInt d
  · simp only [Bool.false_eq_true, if_false]
    refine ⟨hf, ?_⟩
    cases hs : startsW d
    · have := exprD_no (cs := cs) (inp := inp) (n := n) hi hs
      rw [this] at q
      simpa using q
    · obtain ⟨x, r, rfl⟩ := startsW_is hs
      obtain ⟨m, rfl⟩ := depth_pos hdep
      have fx := fine_tup hf (.str x) (by simp)
      have fr : ∀ y ∈ r, Fine y := fun y hy => fine_tup hf y (List.mem_cons_of_mem _ hy)
      have dr : ∀ y ∈ r, (py y).depth ≤ m := fun y hy => depth_tup hdep y (List.mem_cons_of_mem _ hy)
      have fl : ∀ z ∈ [D.str (Str.ofString "plus"), D.str (Str.ofString "minus"), D.str (Str.ofString "times")], Fine z := by
        intro z hz
        simp only [List.mem_cons, List.not_mem_nil, or_false] at hz
        rcases hz with rfl | rfl | rfl <;> exact fine_str (by decide +kernel) (by decide +kernel)
      simp only [Bool.not_true, Bool.false_eq_true, if_false, ix_t0, aEq_f fx (fine_str (x := Str.ofString "cell") (by decide +kernel) (by decide +kernel)), aEq_f fx (fine_str (x := Str.ofString "input") (by decide +kernel) (by decide +kernel)),
        aEq_f fx (fine_str (x := Str.ofString "pick") (by decide +kernel) (by decide +kernel)), eqD_ss, D.bl.injEq, exists_eq_left', decide_eq_true_eq, in_tup fx fl, len_tup, aEq_f fine_int fine_int, eqD_ii, aBelow, aIsE]
      rw [exprD_tup] at q
      have many := @many_ne D
      by_cases h1 : x = "cell"
      · rw [if_pos h1] at q
        rw [if_pos h1]
        rcases r with _ | ⟨y0, _ | ⟨y1, _ | ⟨y2, _ | ⟨y3, r'⟩⟩⟩⟩
        · simpa [one, no0, three] using q
        · rw [if_pos (by simp)]
          simp only [ix_t1]
          exact ⟨cs, rfl, fr _ (by simp), q⟩
        · simpa [one, no0, three] using q
        · simpa [one, no0, three] using q
        · have := (many y0 y1 y2 y3 r').1
          rw [List.length_cons, if_neg this]
          simpa [one, no0, three] using q
      rw [if_neg h1] at q
      rw [if_neg h1]
      by_cases h2 : x = "input"
      · rw [if_pos h2] at q
        rw [if_pos h2]
        rcases r with _ | ⟨y0, _ | ⟨y1, _ | ⟨y2, _ | ⟨y3, r'⟩⟩⟩⟩
        · simpa [one, no0, three] using q
        · simpa [one, no0, three] using q
        · simpa [one, no0, three] using q
        · simpa [one, no0, three] using q
        · have := (many y0 y1 y2 y3 r').2.1
          rw [List.length_cons, if_neg this]
          simpa [one, no0, three] using q
      rw [if_neg h2] at q
      rw [if_neg h2]
      by_cases h3 : x = "pick"
      · rw [if_pos h3] at q
        rw [if_pos h3]
        rcases r with _ | ⟨y0, _ | ⟨y1, _ | ⟨y2, _ | ⟨y3, r'⟩⟩⟩⟩
        · simpa [one, no0, three] using q
        · simpa [one, no0, three] using q
        · simpa [one, no0, three] using q
        · rw [if_pos (by simp)]
          simp only [ix_t1, ix_t2, ix_t3, three] at q ⊢
          refine ⟨_, _, _, rfl, fr _ (by simp), dr _ (by simp), ?_⟩
          cases ha : testD cs inp m y0 <;> simp only [ha, Bool.false_and, Bool.true_and, Bool.false_eq_true, if_false, if_true] at q ⊢
          · exact q
          refine ⟨_, _, _, rfl, fr _ (by simp), dr _ (by simp), ?_⟩
          cases hb : exprD cs inp m y1 <;> simp only [hb, Bool.false_and, Bool.true_and, Bool.false_eq_true, if_false, if_true] at q ⊢
          · exact q
          exact ⟨_, _, _, rfl, fr _ (by simp), dr _ (by simp), q⟩
        · have := (many y0 y1 y2 y3 r').2.2.2
          rw [List.length_cons, if_neg this]
          simpa [one, no0, three] using q
      rw [if_neg h3] at q
      rw [if_neg h3]
      refine ⟨by omega, ?_⟩
      have e3 : ([D.str (Str.ofString "plus"), D.str (Str.ofString "minus"), D.str (Str.ofString "times")].any fun z => eqD z (.str x)) = (decide (x = "plus") || (decide (x = "minus") || decide (x = "times"))) := by
        simp only [List.any_cons, List.any_nil, Bool.or_false, eqD_ss]
        congr 1
        · rw [Bool.eq_iff_iff, decide_eq_true_eq, decide_eq_true_eq]; exact eq_comm
        congr 1
        · rw [Bool.eq_iff_iff, decide_eq_true_eq, decide_eq_true_eq]; exact eq_comm
        · rw [Bool.eq_iff_iff, decide_eq_true_eq, decide_eq_true_eq]; exact eq_comm
      rw [e3]
      cases hw : (decide (x = "plus") || (decide (x = "minus") || decide (x = "times")))
      · rw [hw] at q
        simpa using q
      rw [hw, Bool.true_and] at q
      rw [if_pos rfl]
      rcases r with _ | ⟨y0, _ | ⟨y1, _ | ⟨y2, _ | ⟨y3, r'⟩⟩⟩⟩
      · simpa [two] using q
      · simpa [two] using q
      · rw [if_pos (by simp)]
        simp only [ix_t1, ix_t2, two] at q ⊢
        refine ⟨_, _, _, rfl, fr _ (by simp), dr _ (by simp), ?_⟩
        cases ha : exprD cs inp m y0 <;> simp only [ha, Bool.false_and, Bool.true_and, Bool.false_eq_true, if_false, if_true] at q ⊢
        · exact q
        exact ⟨_, _, _, rfl, fr _ (by simp), dr _ (by simp), q⟩
      · simpa [two] using q
      · have := (many y0 y1 y2 y3 r').2.2.1
        rw [List.length_cons, if_neg this]
        simpa [two] using q
  · obtain ⟨i, rfl⟩ := isInt_is hi
    rw [exprD_int] at q
    simp only [if_true, aB, D.bl.injEq, exists_eq_left']
    by_cases h0 : 0 ≤ i
    · simpa [h0] using q
    · simpa [h0] using q
end
end
end E60
namespace E60
open PySem PySem.Spec PyProof.Rows L2 Lay LA
section
variable {P : Program} {w : World} {K : PySem.W.Frag} {mg : Str → Option Value} {base : Heap}
theorem many_ne' {α : Type} (y0 y1 y2 y3 : α) (r' : List α) : ¬ (((y0 :: y1 :: y2 :: y3 :: r').length : Nat) : Int) = 3 := by
  simp only [List.length_cons]
  omega
/-- a cell with a size and a first value -/
def isSized : D → Bool
  | .tup [c, .int s, .int f] => isCell c && (decide (1 ≤ s) && decide (s ≤ 9) && decide (0 ≤ f) && decide (f < s))
  | _ => false
def firsts : List D → List D
  | .tup (a :: _) :: r => a :: firsts r
  | _ :: r => firsts r
  | [] => []
def sizedD : D → Bool
  | .tup [] => false
  | .tup ds => ds.all isSized && ascD (firsts ds)
  | _ => false
def headD : D → D
  | .tup (a :: _) => a
  | d => d
theorem heads_firsts : ∀ {ds : List D}, (∀ d ∈ ds, ∃ a r, d = .tup (a :: r)) → ds.map headD = firsts ds
  | [], _ => rfl
  | d :: r, h => by
    obtain ⟨a, r', rfl⟩ := h d (List.mem_cons_self ..)
    rw [List.map_cons, heads_firsts fun x hx => h x (List.mem_cons_of_mem _ hx)]
    rfl
theorem cell_is {x : D} (h : isCell x = true) : ∃ a b : Int, x = .tup [.int a, .int b] ∧ 0 ≤ a ∧ 0 ≤ b := by
  unfold isCell at h
  split at h
  · rw [Bool.and_eq_true, decide_eq_true_eq, decide_eq_true_eq] at h
    exact ⟨_, _, rfl, h⟩
  · cases h
theorem cell_py {x : D} (h : isCell x = true) : py x ≠ .none := by
  obtain ⟨a, b, rfl, _⟩ := cell_is h
  exact fun z => nomatch z
theorem cells_alike {x y : D} (h : isCell x = true) (k : isCell y = true) : PySem.W.alike (py x) (py y) = true := by
  obtain ⟨a, b, rfl, _⟩ := cell_is h
  obtain ⟨c, d, rfl, _⟩ := cell_is k
  rfl
theorem sized_is {d : D} (h : isSized d = true) : ∃ a r, d = .tup (a :: r) ∧ isCell a = true := by
  unfold isSized at h
  split at h
  · rw [Bool.and_eq_true] at h
    exact ⟨_, _, rfl, h.1⟩
  · cases h
theorem ok_are_sized_cells {f : Addr} {fd : FuncData} {t0 : Tok} (F : Fun K "are_sized_cells" "are_sized_cells" s_are_sized_cells f fd) (D_is_int : Has P w K mg base 1 "is_int" ["thing"] (spA K (aTells isInt)))
    (D_is_cell : Has P w K mg base 2 "is_cell" ["thing"] (spA K (aTells isCell))) (D_ascends : Has P w K mg base 1 "ascends" ["row"] (spA K aAsc)) (z_isinstance : mg "isinstance" = none) (z_tuple : mg "tuple" = none) (z_len : mg "len" = none)
    (c_MOST_SIZE : mg "MOST_SIZE" = some (.int 9 t0)) :
    FnG P w K mg base CX0 3 f fd ["thing"] (spA K (aTells sizedD)) := by
  have nd := sc_are_sized_cells.nd
  refine okA F sc_are_sized_cells (fun ds M Q h => by obtain ⟨d, rfl, _⟩ := h; rfl) (fun cv A' out t G Z hr hq => (ass_cons (as_if (PW.pt (aw_or (at_not (at_val (ae_callB (isiK K) s_isi z_isinstance (by decide +kernel) (aa_cons (av 0) (aa_cons (ae_ty (n := "tuple") z_tuple (by decide +kernel)) aa_nil))))) (aw_or1 (at_cmp (eqDK K hr.units) s_eq (ae_callB (c_len K) s_len z_len (by decide +kernel) (aa_cons (av 0) aa_nil)) ae_int (nomark _))))) (ass_one (as_ret ae_bl)) ass_nil)
      (ass_cons (as_for PassesOwn.never rfl (ai_seq (av 0)) (pg_name (i := 1) nd rfl (Or.inl rfl)) (go_name 1)
        (ass_cons (as_if (at_not (PW.pt (aw_and (at_val (ae_callB (isiK K) s_isi z_isinstance (by decide +kernel) (aa_cons (av 1) (aa_cons (ae_ty (n := "tuple") z_tuple (by decide +kernel)) aa_nil)))) (aw_and (at_cmp (eqDK K hr.units) s_eq (ae_callB (c_len K) s_len z_len (by decide +kernel) (aa_cons (av 1) aa_nil)) ae_int (nomark _)) (aw_and1 (at_val (ae_c D_is_cell (hr.mono (by decide)) hq (aa_cons (ae_ix hr.u1 (av 1) ae_int (fun _ _ => rfl)) aa_nil)))))))) (ass_one (as_ret ae_bl)) ass_nil)
        (ass_one (as_if (at_not (PW.pt (aw_and (at_val (ae_c D_is_int (hr.mono (by decide)) hq (aa_cons (ae_ix hr.u1 (av 1) ae_int (fun _ _ => rfl)) aa_nil))) (aw_and (at_chain op_leA s_B op_leA s_B ae_int (ae_ix hr.u1 (av 1) ae_int (fun _ _ => rfl)) (ae_gI c_MOST_SIZE)) (aw_and (at_val (ae_c D_is_int (hr.mono (by decide)) hq (aa_cons (ae_ix hr.u1 (av 1) ae_int (fun _ _ => rfl)) aa_nil))) (aw_and1 (at_chain op_leA s_B (ltDK K hr.units) s_lt ae_int (ae_ix hr.u1 (av 1) ae_int (fun _ _ => rfl)) (ae_ix hr.u1 (av 1) ae_int (fun _ _ => rfl))))))))) (ass_one (as_ret ae_bl)) ass_nil))))
      (ass_one (as_ret (ae_c D_ascends (hr.mono (by decide)) hq (aa_cons (ae_lc (own := [("part", 1)]) rfl nd (ai_seq (av 0)) (blkOk_by (own := [("part", 1)]) (N := N_are_sized_cells) (sc := defScope s_are_sized_cells) (by decide +kernel)) (fun _ _ _ _ _ => (pg_name (i := 1) nd rfl (by first | exact Or.inl rfl | exact Or.inr rfl))) (go_name 1) (by decide) (fun _ _ _ _ _ => ats_nil) (fun _ _ _ _ _ => (ae_ix hr.u1 (av 1) ae_int (fun _ _ => rfl)))) aa_nil))))))) (fun ds M Q h => ?_)
  obtain ⟨d, rfl, hf, q⟩ := h
  simp only [aSeq, aAsg, aGName, aGTup, aGCons, aGNil, unTup, aVar, aC, aOp, aUn, aTest, aChain, aAnd, aOr, aNot, aIf, aAndT, aOrT, aNotT, aNil, aCons, aTup, aLst, aLstM, aDictM, aCB, aLc, aLc2, aDc, aFld, aFldSet, aMeth, aMethK, aMake, aMakeM, aPairs, aDisp, aRev, aRevM, aPutAt, aAugI, aFor, aWhile, aSeqW, aRng1, aRng2, aEnum, aNext, aNever, aBreak, aCont, aDrop, aRet, aRetN, aIfS, aPar, aCall, aYes, startA, endsA, aI, aU, aBM, aBM0, aTx, aSl, aNoPart, aPart, List.map_cons, List.map_nil, List.length_cons, List.length_nil, List.replicate_succ, List.replicate_zero, List.cons_append, List.nil_append, List.append_nil, List.set_cons_zero, List.set_cons_succ, List.getElem?_cons_zero, List.getElem?_cons_succ, Option.some.injEq, exists_eq_left', D.int.injEq, D.str.injEq, D.bl.injEq, D.ref.injEq, D.tup.injEq, D.lst.injEq, List.cons.injEq, and_true, true_and, exists_and_left, exists_eq_left, exists_eq, and_assoc, Nat.reduceAdd, Nat.reduceSub, Nat.zero_add, exists_and_right, exists_const, if_true, if_false, Bool.not_true, Bool.not_false, Bool.false_eq_true, wipeA, N_are_sized_cells]
  simp only [isi_f hf (.inr (.inr (.inr (.inl rfl)))), D.bl.injEq, exists_eq_left']
  cases d with
  | tup ds =>
    simp only [isTyB, decide_true, Bool.not_true, Bool.false_eq_true, if_false, len_tup, aEq_f fine_int fine_int, eqD_ii, D.bl.injEq, exists_eq_left', decide_eq_true_eq]
    by_cases hne : ds = []
    · subst hne
      simpa [sizedD] using q
    have hl : ds.length ≠ 0 := fun h => hne (List.length_eq_zero_iff.mp h)
    rw [if_neg (by omega)]
    have e : sizedD (.tup ds) = (ds.all isSized && ascD (firsts ds)) := by
      cases ds with
      | nil => exact absurd rfl hne
      | cons _ _ => rfl
    rw [e] at q
    refine ⟨_, rfl, for_all isSized (fun x => [some (.tup ds), x]) ⟨none, rfl⟩ trivial (fun d hd x P hP => ?_) fun x ha => ?_⟩
    · have fd := fine_tup hf d hd
      have qf : isSized d = false → Q (.bl false) M := fun h => by
        have : ds.all isSized = false := List.all_eq_false.mpr ⟨d, hd, by rw [h]; decide⟩
        rw [this] at q
        exact q
      simp only [aSeq, aAsg, aGName, aGTup, aGCons, aGNil, unTup, aVar, aC, aOp, aUn, aTest, aChain, aAnd, aOr, aNot, aIf, aAndT, aOrT, aNotT, aNil, aCons, aTup, aLst, aLstM, aDictM, aCB, aLc, aLc2, aDc, aFld, aFldSet, aMeth, aMethK, aMake, aMakeM, aPairs, aDisp, aRev, aRevM, aPutAt, aAugI, aFor, aWhile, aSeqW, aRng1, aRng2, aEnum, aNext, aNever, aBreak, aCont, aDrop, aRet, aRetN, aIfS, aPar, aCall, aYes, startA, endsA, aI, aU, aBM, aBM0, aTx, aSl, aNoPart, aPart, List.map_cons, List.map_nil, List.length_cons, List.length_nil, List.replicate_succ, List.replicate_zero, List.cons_append, List.nil_append, List.append_nil, List.set_cons_zero, List.set_cons_succ, List.getElem?_cons_zero, List.getElem?_cons_succ, Option.some.injEq, exists_eq_left', D.int.injEq, D.str.injEq, D.bl.injEq, D.ref.injEq, D.tup.injEq, D.lst.injEq, List.cons.injEq, and_true, true_and, exists_and_left, exists_eq_left, exists_eq, and_assoc, Nat.reduceAdd, Nat.reduceSub, Nat.zero_add, exists_and_right, exists_const, if_true, if_false, Bool.not_true, Bool.not_false, Bool.false_eq_true, wipeA]
      simp only [isi_f fd (.inr (.inr (.inr (.inl rfl)))), D.bl.injEq, exists_eq_left']
      cases d with
      | tup ps =>
        simp only [isTyB, decide_true, if_true, len_tup, aEq_f fine_int fine_int, eqD_ii, D.bl.injEq, exists_eq_left', decide_eq_true_eq]
        rcases ps with _ | ⟨a, _ | ⟨b, _ | ⟨c, _ | ⟨z, r⟩⟩⟩⟩
        · simpa using qf rfl
        · simpa using qf (by cases a <;> rfl)
        · simpa using qf (by cases a <;> first | rfl | (cases b <;> rfl))
        · simp only [List.length_cons, List.length_nil]
          rw [if_pos (by rfl)]
          have fa := fine_tup fd a (by simp)
          have fb := fine_tup fd b (by simp)
          have fc := fine_tup fd c (by simp)
          simp only [ix_t0, ix_t1, ix_t2, aTells, List.cons.injEq, and_true, exists_eq_left', exists_eq_left, D.bl.injEq]
          refine ⟨fa, ?_⟩
          cases ha : isCell a
          · simpa using qf (by cases b <;> first | rfl | (cases c <;> first | rfl | (simp [isSized, ha])))
          simp only [Bool.not_true, Bool.false_eq_true, if_false]
          refine ⟨fb, ?_⟩
          cases hb : isInt b
          · simpa using qf (by cases b <;> first | rfl | cases hb)
          obtain ⟨sz, rfl⟩ := isInt_is hb
          simp only [if_true, aB, D.bl.injEq, exists_eq_left']
          by_cases h1 : 1 ≤ sz
          · by_cases h2 : sz ≤ 9
            · simp only [h1, h2, decide_true, if_true, D.bl.injEq, exists_eq_left']
              refine ⟨fc, ?_⟩
              cases hc : isInt c
              · simpa using qf (by cases c <;> first | rfl | cases hc)
              obtain ⟨fi, rfl⟩ := isInt_is hc
              simp only [if_true]
              by_cases h3 : 0 ≤ fi
              · simp only [h3, decide_true, if_true, aLt_ii, D.bl.injEq, exists_eq_left']
                by_cases h4 : fi < sz
                · simpa [h4] using hP (by simp [isSized, ha, h1, h2, h3, h4]) _
                · simpa [h4] using qf (by simp [isSized, h4])
              · simpa [h3] using qf (by simp [isSized, h3])
            · have : isSized (.tup [a, .int sz, c]) = false := by cases c <;> first | rfl | simp [isSized, h2]
              simpa [h1, h2] using qf this
          · have : isSized (.tup [a, .int sz, c]) = false := by cases c <;> first | rfl | simp [isSized, h1]
            simpa [h1] using qf this
        · have h4 := (many_ne' a b c z r)
          rw [if_neg h4]
          simpa using qf (by cases a <;> first | rfl | (cases b <;> first | rfl | (cases c <;> rfl)))
      | _ => simpa [isTyB] using qf rfl
    · simp only [aSeq, aAsg, aGName, aGTup, aGCons, aGNil, unTup, aVar, aC, aOp, aUn, aTest, aChain, aAnd, aOr, aNot, aIf, aAndT, aOrT, aNotT, aNil, aCons, aTup, aLst, aLstM, aDictM, aCB, aLc, aLc2, aDc, aFld, aFldSet, aMeth, aMethK, aMake, aMakeM, aPairs, aDisp, aRev, aRevM, aPutAt, aAugI, aFor, aWhile, aSeqW, aRng1, aRng2, aEnum, aNext, aNever, aBreak, aCont, aDrop, aRet, aRetN, aIfS, aPar, aCall, aYes, startA, endsA, aI, aU, aBM, aBM0, aTx, aSl, aNoPart, aPart, List.map_cons, List.map_nil, List.length_cons, List.length_nil, List.replicate_succ, List.replicate_zero, List.cons_append, List.nil_append, List.append_nil, List.set_cons_zero, List.set_cons_succ, List.getElem?_cons_zero, List.getElem?_cons_succ, Option.some.injEq, exists_eq_left', D.int.injEq, D.str.injEq, D.bl.injEq, D.ref.injEq, D.tup.injEq, D.lst.injEq, List.cons.injEq, and_true, true_and, exists_and_left, exists_eq_left, exists_eq, and_assoc, Nat.reduceAdd, Nat.reduceSub, Nat.zero_add, exists_and_right, exists_const, if_true, if_false, Bool.not_true, Bool.not_false, Bool.false_eq_true, wipeA]
      have ha : ds.all isSized = true := ha
      rw [ha, Bool.true_and] at q
      have each : ∀ d ∈ ds, ∃ a r, d = .tup (a :: r) ∧ isCell a = true := fun d hd => sized_is (List.all_eq_true.mp ha d hd)
      refine ⟨_, rfl, lc_map headD trivial hf.len (fun d hd P R hP => ?_) ?_⟩
      · obtain ⟨a, r, rfl, _⟩ := each d hd
        simp only [aSeq, aAsg, aGName, aGTup, aGCons, aGNil, unTup, aVar, aC, aOp, aUn, aTest, aChain, aAnd, aOr, aNot, aIf, aAndT, aOrT, aNotT, aNil, aCons, aTup, aLst, aLstM, aDictM, aCB, aLc, aLc2, aDc, aFld, aFldSet, aMeth, aMethK, aMake, aMakeM, aPairs, aDisp, aRev, aRevM, aPutAt, aAugI, aFor, aWhile, aSeqW, aRng1, aRng2, aEnum, aNext, aNever, aBreak, aCont, aDrop, aRet, aRetN, aIfS, aPar, aCall, aYes, startA, endsA, aI, aU, aBM, aBM0, aTx, aSl, aNoPart, aPart, List.map_cons, List.map_nil, List.length_cons, List.length_nil, List.replicate_succ, List.replicate_zero, List.cons_append, List.nil_append, List.append_nil, List.set_cons_zero, List.set_cons_succ, List.getElem?_cons_zero, List.getElem?_cons_succ, Option.some.injEq, exists_eq_left', D.int.injEq, D.str.injEq, D.bl.injEq, D.ref.injEq, D.tup.injEq, D.lst.injEq, List.cons.injEq, and_true, true_and, exists_and_left, exists_eq_left, exists_eq, and_assoc, Nat.reduceAdd, Nat.reduceSub, Nat.zero_add, exists_and_right, exists_const, if_true, if_false, Bool.not_true, Bool.not_false, Bool.false_eq_true, wipeA]
        rw [ix_t0]
        exact hP
      · have e1 : ds.map headD = firsts ds := heads_firsts fun d hd => by obtain ⟨a, r, h, _⟩ := each d hd; exact ⟨a, r, h⟩
        show aAsc [.lst (ds.map headD)] M Q
        rw [e1]
        have fc : ∀ x ∈ firsts ds, isCell x = true ∧ Fine x := fun x hx => by
          rw [← e1] at hx
          obtain ⟨d, hd, rfl⟩ := List.mem_map.mp hx
          obtain ⟨a, r, rfl, hc⟩ := each d hd
          exact ⟨hc, fine_tup (fine_tup hf _ hd) a (by simp)⟩
        refine ⟨_, firsts ds, rfl, .inr rfl, fun x hx => ⟨(fc x hx).2, cell_py (fc x hx).1⟩, fun x hx y hy => cells_alike (fc x hx).1 (fc y hy).1, ?_, q⟩
        rw [← e1, List.length_map]
        exact hf.len
  | _ => simpa [isTyB, sizedD] using q
end
end E60
namespace E60
open PySem PySem.Spec PyProof.Rows L2 Lay LA
section
variable {P : Program} {w : World} {K : PySem.W.Frag} {mg : Str → Option Value} {base : Heap}
section
variable {n : Nat} (D_begins_with_word : Has P w K mg base 1 "begins_with_word" ["thing"] (spA K (aTells startsW)))
  (D_is_expression : Has P w K mg base (n + 3) "is_expression" ["thing", "cells", "has_input"] (spA K (aBelow (fun n => aIsE (fun cs inp => exprD cs inp n) n) n)))
  (D_is_test : Has P w K mg base (n + 3) "is_test" ["thing", "cells", "has_input"] (spA K (aBelow (fun n => aIsE (fun cs inp => testD cs inp n) n) n)))
include D_begins_with_word D_is_expression D_is_test in
theorem ok_is_test {f : Addr} {fd : FuncData} (F : Fun K "is_test" "is_test" s_is_test f fd) (z_len : mg "len" = none) :
    FnG P w K mg base CX0 (n + 4) f fd ["thing", "cells", "has_input"] (spA K (aIsE (fun cs inp => testD cs inp n) n)) := by
  have nd := sc_is_test.nd
  refine okA (k := n + 3) F sc_is_test (fun ds M Q h => by obtain ⟨d, _, _, rfl, _⟩ := h; rfl) (fun cv A' out t G Z hr hq => (ass_cons (as_if (at_not (at_val (ae_c D_begins_with_word (hr.mono (by omega)) hq (aa_cons (av 0) aa_nil)))) (ass_one (as_ret ae_bl)) ass_nil)
      (ass_cons (as_set (i := 3) nd rfl (Or.inl rfl) (ae_ix hr.u1 (av 0) ae_int (fun _ _ => rfl)))
      (ass_cons (as_if (at_cmp (op_inA K hr.u65) (s_in false) (av 3) (ae_tup (aa_cons ae_str (aa_cons ae_str aa_nil))) rfl) (ass_one (as_ret (ae_and (ae_cmp (eqDK K hr.units) s_eq (ae_callB (c_len K) s_len z_len (by decide +kernel) (aa_cons (av 0) aa_nil)) ae_int (nomark _)) (ae_and (ae_c D_is_expression (hr.mono (by omega)) hq (aa_cons (ae_ix hr.u1 (av 0) ae_int (fun _ _ => rfl)) (aa_cons (av 1) (aa_cons (av 2) aa_nil)))) (ae_one (ae_c D_is_expression (hr.mono (by omega)) hq (aa_cons (ae_ix hr.u1 (av 0) ae_int (fun _ _ => rfl)) (aa_cons (av 1) (aa_cons (av 2) aa_nil))))))))) ass_nil)
      (ass_cons (as_if (at_cmp (eqDK K hr.units) s_eq (av 3) ae_str (nomark _)) (ass_one (as_ret (ae_and (ae_cmp (eqDK K hr.units) s_eq (ae_callB (c_len K) s_len z_len (by decide +kernel) (aa_cons (av 0) aa_nil)) ae_int (nomark _)) (ae_one (ae_c D_is_test (hr.mono (by omega)) hq (aa_cons (ae_ix hr.u1 (av 0) ae_int (fun _ _ => rfl)) (aa_cons (av 1) (aa_cons (av 2) aa_nil)))))))) ass_nil)
      (ass_one (as_ret (ae_and (ae_cmp (eqDK K hr.units) s_eq (av 3) ae_str (nomark _)) (ae_and (ae_cmp (eqDK K hr.units) s_eq (ae_callB (c_len K) s_len z_len (by decide +kernel) (aa_cons (av 0) aa_nil)) ae_int (nomark _)) (ae_and (ae_c D_is_test (hr.mono (by omega)) hq (aa_cons (ae_ix hr.u1 (av 0) ae_int (fun _ _ => rfl)) (aa_cons (av 1) (aa_cons (av 2) aa_nil)))) (ae_one (ae_c D_is_test (hr.mono (by omega)) hq (aa_cons (ae_ix hr.u1 (av 0) ae_int (fun _ _ => rfl)) (aa_cons (av 1) (aa_cons (av 2) aa_nil))))))))))))))) (fun ds M Q h => ?_)
  obtain ⟨d, cs, inp, rfl, hf, hdep, q⟩ := h
  have q : Q (.bl (testD cs inp n d)) M := q
  simp only [aSeq, aAsg, aGName, aGTup, aGCons, aGNil, unTup, aVar, aC, aOp, aUn, aTest, aChain, aAnd, aOr, aNot, aIf, aAndT, aOrT, aNotT, aNil, aCons, aTup, aLst, aLstM, aDictM, aCB, aLc, aLc2, aDc, aFld, aFldSet, aMeth, aMethK, aMake, aMakeM, aPairs, aDisp, aRev, aRevM, aPutAt, aAugI, aFor, aWhile, aSeqW, aRng1, aRng2, aEnum, aNext, aNever, aBreak, aCont, aDrop, aRet, aRetN, aIfS, aPar, aCall, aYes, startA, endsA, aI, aU, aBM, aBM0, aTx, aSl, aNoPart, aPart, List.map_cons, List.map_nil, List.length_cons, List.length_nil, List.replicate_succ, List.replicate_zero, List.cons_append, List.nil_append, List.append_nil, List.set_cons_zero, List.set_cons_succ, List.getElem?_cons_zero, List.getElem?_cons_succ, Option.some.injEq, exists_eq_left', D.int.injEq, D.str.injEq, D.bl.injEq, D.ref.injEq, D.tup.injEq, D.lst.injEq, List.cons.injEq, and_true, true_and, exists_and_left, exists_eq_left, exists_eq, and_assoc, Nat.reduceAdd, Nat.reduceSub, Nat.zero_add, exists_and_right, exists_const, if_true, if_false, Bool.not_true, Bool.not_false, Bool.false_eq_true, wipeA, N_is_test]
  simp only [aTells, List.cons.injEq, and_true, exists_eq_left', exists_eq_left, D.bl.injEq]
  refine ⟨hf, ?_⟩
  cases hs : startsW d
  · have := testD_no (cs := cs) (inp := inp) (n := n) hs
    rw [this] at q
    simpa using q
  · obtain ⟨x, r, rfl⟩ := startsW_is hs
    obtain ⟨m, rfl⟩ := depth_pos hdep
    have fx := fine_tup hf (.str x) (by simp)
    have fr : ∀ y ∈ r, Fine y := fun y hy => fine_tup hf y (List.mem_cons_of_mem _ hy)
    have dr : ∀ y ∈ r, (py y).depth ≤ m := fun y hy => depth_tup hdep y (List.mem_cons_of_mem _ hy)
    have fl : ∀ z ∈ [D.str (Str.ofString "less"), D.str (Str.ofString "same")], Fine z := by
      intro z hz
      simp only [List.mem_cons, List.not_mem_nil, or_false] at hz
      rcases hz with rfl | rfl <;> exact fine_str (by decide +kernel) (by decide +kernel)
    have e3 : ([D.str (Str.ofString "less"), D.str (Str.ofString "same")].any fun z => eqD z (.str x)) = decide (x = "less" ∨ x = "same") := by
      simp only [List.any_cons, List.any_nil, Bool.or_false, eqD_ss]
      rw [Bool.eq_iff_iff]
      simp only [Bool.or_eq_true, decide_eq_true_eq]
      constructor
      · rintro (h | h)
        · exact .inl h.symm
        · exact .inr h.symm
      · rintro (h | h)
        · exact .inl h.symm
        · exact .inr h.symm
    simp only [Bool.not_true, Bool.false_eq_true, if_false, ix_t0, aEq_f fx (fine_str (x := Str.ofString "not") (by decide +kernel) (by decide +kernel)), aEq_f fx (fine_str (x := Str.ofString "and") (by decide +kernel) (by decide +kernel)),
      eqD_ss, D.bl.injEq, exists_eq_left', decide_eq_true_eq, in_tup fx fl, e3, len_tup, aEq_f fine_int fine_int, eqD_ii, aBelow, aIsE]
    rw [testD_tup] at q
    have many := @many_ne D
    refine ⟨by omega, ?_⟩
    by_cases h1 : x = "less" ∨ x = "same"
    · rw [if_pos h1] at q
      rw [if_pos h1]
      rcases r with _ | ⟨y0, _ | ⟨y1, _ | ⟨y2, _ | ⟨y3, r'⟩⟩⟩⟩
      · simpa [two] using q
      · simpa [two] using q
      · rw [if_pos (by simp)]
        simp only [ix_t1, ix_t2, two] at q ⊢
        refine ⟨_, _, _, rfl, fr _ (by simp), dr _ (by simp), ?_⟩
        cases ha : exprD cs inp m y0 <;> simp only [ha, Bool.false_and, Bool.true_and, Bool.false_eq_true, if_false, if_true] at q ⊢
        · exact q
        exact ⟨_, _, _, rfl, fr _ (by simp), dr _ (by simp), q⟩
      · simpa [two] using q
      · have := (many y0 y1 y2 y3 r').2.2.1
        rw [List.length_cons, if_neg this]
        simpa [two] using q
    rw [if_neg h1] at q
    rw [if_neg h1]
    by_cases h2 : x = "not"
    · rw [if_pos h2] at q
      rw [if_pos h2]
      rcases r with _ | ⟨y0, _ | ⟨y1, _ | ⟨y2, _ | ⟨y3, r'⟩⟩⟩⟩
      · simpa [one] using q
      · rw [if_pos (by simp)]
        simp only [ix_t1]
        exact ⟨_, _, _, rfl, fr _ (by simp), dr _ (by simp), q⟩
      · simpa [one] using q
      · simpa [one] using q
      · have := (many y0 y1 y2 y3 r').1
        rw [List.length_cons, if_neg this]
        simpa [one] using q
    rw [if_neg h2] at q
    rw [if_neg h2]
    by_cases h3 : x = "and"
    · rw [decide_eq_true h3, Bool.true_and] at q
      rw [if_pos h3]
      rcases r with _ | ⟨y0, _ | ⟨y1, _ | ⟨y2, _ | ⟨y3, r'⟩⟩⟩⟩
      · simpa [two] using q
      · simpa [two] using q
      · rw [if_pos (by simp)]
        simp only [ix_t1, ix_t2, two] at q ⊢
        refine ⟨_, _, _, rfl, fr _ (by simp), dr _ (by simp), ?_⟩
        cases ha : testD cs inp m y0 <;> simp only [ha, Bool.false_and, Bool.true_and, Bool.false_eq_true, if_false, if_true] at q ⊢
        · exact q
        exact ⟨_, _, _, rfl, fr _ (by simp), dr _ (by simp), q⟩
      · simpa [two] using q
      · have := (many y0 y1 y2 y3 r').2.2.1
        rw [List.length_cons, if_neg this]
        simpa [two] using q
    · rw [decide_eq_false h3, Bool.false_and] at q
      simpa [h3] using q
end
/-! ### handles, operations -/
def handlesD : D → Bool
  | .tup ds => decide (ds.length ≤ 3) && (ds.all isName && ascD ds)
  | _ => false
theorem name_is {d : D} (h : isName d = true) : ∃ z, d = .str z := by
  unfold isName at h
  split at h
  · exact ⟨_, rfl⟩
  · cases h
theorem name_py {x : D} (h : isName x = true) : py x ≠ .none := by
  obtain ⟨z, rfl⟩ := name_is h
  exact fun z => nomatch z
theorem names_alike {x y : D} (h : isName x = true) (k : isName y = true) : PySem.W.alike (py x) (py y) = true := by
  obtain ⟨a, rfl⟩ := name_is h
  obtain ⟨c, rfl⟩ := name_is k
  rfl
theorem ok_are_handles {f : Addr} {fd : FuncData} {t0 : Tok} (F : Fun K "are_handles" "are_handles" s_are_handles f fd)
    (D_is_name : Has P w K mg base 1 "is_name" ["thing"] (spA K (aTells isName))) (D_ascends : Has P w K mg base 1 "ascends" ["row"] (spA K aAsc)) (z_isinstance : mg "isinstance" = none) (z_tuple : mg "tuple" = none) (z_len : mg "len" = none) (z_all : mg "all" = none)
    (c_MOST_HANDLES : mg "MOST_HANDLES" = some (.int 3 t0)) :
    FnG P w K mg base CX0 2 f fd ["thing"] (spA K (aTells handlesD)) := by
  have nd := sc_are_handles.nd
  refine okA F sc_are_handles (fun ds M Q h => by obtain ⟨d, rfl, _⟩ := h; rfl) (fun cv A' out t G Z hr hq => (ass_cons (as_if (PW.pt (aw_or (at_not (at_val (ae_callB (isiK K) s_isi z_isinstance (by decide +kernel) (aa_cons (av 0) (aa_cons (ae_ty (n := "tuple") z_tuple (by decide +kernel)) aa_nil))))) (aw_or1 (at_cmp op_gtA s_B (ae_callB (c_len K) s_len z_len (by decide +kernel) (aa_cons (av 0) aa_nil)) (ae_gI c_MOST_HANDLES) (nomark _))))) (ass_one (as_ret ae_bl)) ass_nil)
      (ass_one (as_ret (ae_and (ae_callB (c_all K rfl) s_all z_all (by decide +kernel) (aa_cons (ae_lc (own := [("part", 1)]) rfl nd (ai_seq (av 0)) (blkOk_by (own := [("part", 1)]) (N := N_are_handles) (sc := defScope s_are_handles) (by decide +kernel)) (fun _ _ _ _ _ => (pg_name (i := 1) nd rfl (by first | exact Or.inl rfl | exact Or.inr rfl))) (go_name 1) (by decide) (fun _ _ _ _ _ => ats_nil) (fun _ _ _ _ _ => (ae_c D_is_name (hr.mono (by decide)) hq (aa_cons (av 1) aa_nil)))) aa_nil)) (ae_one (ae_c D_ascends (hr.mono (by decide)) hq (aa_cons (av 0) aa_nil)))))))) (fun ds M Q h => ?_)
  obtain ⟨d, rfl, hf, q⟩ := h
  simp only [aSeq, aAsg, aGName, aGTup, aGCons, aGNil, unTup, aVar, aC, aOp, aUn, aTest, aChain, aAnd, aOr, aNot, aIf, aAndT, aOrT, aNotT, aNil, aCons, aTup, aLst, aLstM, aDictM, aCB, aLc, aLc2, aDc, aFld, aFldSet, aMeth, aMethK, aMake, aMakeM, aPairs, aDisp, aRev, aRevM, aPutAt, aAugI, aFor, aWhile, aSeqW, aRng1, aRng2, aEnum, aNext, aNever, aBreak, aCont, aDrop, aRet, aRetN, aIfS, aPar, aCall, aYes, startA, endsA, aI, aU, aBM, aBM0, aTx, aSl, aNoPart, aPart, List.map_cons, List.map_nil, List.length_cons, List.length_nil, List.replicate_succ, List.replicate_zero, List.cons_append, List.nil_append, List.append_nil, List.set_cons_zero, List.set_cons_succ, List.getElem?_cons_zero, List.getElem?_cons_succ, Option.some.injEq, exists_eq_left', D.int.injEq, D.str.injEq, D.bl.injEq, D.ref.injEq, D.tup.injEq, D.lst.injEq, List.cons.injEq, and_true, true_and, exists_and_left, exists_eq_left, exists_eq, and_assoc, Nat.reduceAdd, Nat.reduceSub, Nat.zero_add, exists_and_right, exists_const, if_true, if_false, Bool.not_true, Bool.not_false, Bool.false_eq_true, wipeA, N_are_handles]
  simp only [isi_f hf (.inr (.inr (.inr (.inl rfl)))), D.bl.injEq, exists_eq_left']
  cases d with
  | tup ds =>
    have q : Q (.bl (decide (ds.length ≤ 3) && (ds.all isName && ascD ds))) M := q
    simp only [isTyB, decide_true, Bool.not_true, Bool.false_eq_true, if_false, len_tup, aGt, aB, D.bl.injEq, exists_eq_left', decide_eq_true_eq]
    by_cases hl : ds.length ≤ 3
    · rw [decide_eq_true hl, Bool.true_and] at q
      rw [if_neg (by omega)]
      refine ⟨_, rfl, lc_map (fun d => .bl (isName d)) trivial hf.len (fun d hd P R hP => ?_) ?_⟩
      · simp only [aSeq, aAsg, aGName, aGTup, aGCons, aGNil, unTup, aVar, aC, aOp, aUn, aTest, aChain, aAnd, aOr, aNot, aIf, aAndT, aOrT, aNotT, aNil, aCons, aTup, aLst, aLstM, aDictM, aCB, aLc, aLc2, aDc, aFld, aFldSet, aMeth, aMethK, aMake, aMakeM, aPairs, aDisp, aRev, aRevM, aPutAt, aAugI, aFor, aWhile, aSeqW, aRng1, aRng2, aEnum, aNext, aNever, aBreak, aCont, aDrop, aRet, aRetN, aIfS, aPar, aCall, aYes, startA, endsA, aI, aU, aBM, aBM0, aTx, aSl, aNoPart, aPart, List.map_cons, List.map_nil, List.length_cons, List.length_nil, List.replicate_succ, List.replicate_zero, List.cons_append, List.nil_append, List.append_nil, List.set_cons_zero, List.set_cons_succ, List.getElem?_cons_zero, List.getElem?_cons_succ, Option.some.injEq, exists_eq_left', D.int.injEq, D.str.injEq, D.bl.injEq, D.ref.injEq, D.tup.injEq, D.lst.injEq, List.cons.injEq, and_true, true_and, exists_and_left, exists_eq_left, exists_eq, and_assoc, Nat.reduceAdd, Nat.reduceSub, Nat.zero_add, exists_and_right, exists_const, if_true, if_false, Bool.not_true, Bool.not_false, Bool.false_eq_true, wipeA]
        exact ⟨_, rfl, fine_tup hf d hd, hP⟩
      · refine ⟨_, _, _, rfl, rfl, bools_map _ _, ?_⟩
        rw [List.all_map]
        show ∃ c, D.bl (ds.all isName) = D.bl c ∧ _
        cases ha : ds.all isName
        · rw [ha] at q
          exact ⟨_, rfl, q⟩
        · rw [ha, Bool.true_and] at q
          refine ⟨_, rfl, ?_⟩
          rw [if_pos rfl]
          have fc : ∀ x ∈ ds, isName x = true := fun x hx => List.all_eq_true.mp ha x hx
          exact ⟨_, ds, rfl, .inl rfl, fun x hx => ⟨fine_tup hf x hx, name_py (fc x hx)⟩, fun x hx y hy => names_alike (fc x hx) (fc y hy), hf.len, q⟩
    · rw [decide_eq_false hl, Bool.false_and] at q
      rw [if_pos (by omega)]
      exact q
  | _ => simpa [isTyB, handlesD] using q
end
end E60
namespace E60
open PySem PySem.Spec PyProof.Rows L2 Lay LA
section
variable {P : Program} {w : World} {K : PySem.W.Frag} {mg : Str → Option Value} {base : Heap}
def isOp : D → Bool
  | .tup [x, .int s, _] => isName x && (decide (1 ≤ s) && decide (s ≤ 4))
  | _ => false
def opsD : D → Bool
  | .tup ds => ds.all isOp && ascD (firsts ds)
  | _ => false
theorem op_is {d : D} (h : isOp d = true) : ∃ a r, d = .tup (a :: r) ∧ isName a = true := by
  unfold isOp at h
  split at h
  · rw [Bool.and_eq_true] at h
    exact ⟨_, _, rfl, h.1⟩
  · cases h
theorem ok_are_operations {f : Addr} {fd : FuncData} {t0 : Tok} (F : Fun K "are_operations" "are_operations" s_are_operations f fd) (D_is_int : Has P w K mg base 1 "is_int" ["thing"] (spA K (aTells isInt)))
    (D_is_name : Has P w K mg base 1 "is_name" ["thing"] (spA K (aTells isName))) (D_ascends : Has P w K mg base 1 "ascends" ["row"] (spA K aAsc)) (z_isinstance : mg "isinstance" = none) (z_tuple : mg "tuple" = none) (z_len : mg "len" = none)
    (c_MOST_INPUTS : mg "MOST_INPUTS" = some (.int 4 t0)) :
    FnG P w K mg base CX0 2 f fd ["thing"] (spA K (aTells opsD)) := by
  have nd := sc_are_operations.nd
  refine okA F sc_are_operations (fun ds M Q h => by obtain ⟨d, rfl, _⟩ := h; rfl) (fun cv A' out t G Z hr hq => (ass_cons (as_if (at_not (at_val (ae_callB (isiK K) s_isi z_isinstance (by decide +kernel) (aa_cons (av 0) (aa_cons (ae_ty (n := "tuple") z_tuple (by decide +kernel)) aa_nil))))) (ass_one (as_ret ae_bl)) ass_nil)
      (ass_cons (as_for PassesOwn.never rfl (ai_seq (av 0)) (pg_name (i := 1) nd rfl (Or.inl rfl)) (go_name 1)
        (ass_cons (as_if (at_not (PW.pt (aw_and (at_val (ae_callB (isiK K) s_isi z_isinstance (by decide +kernel) (aa_cons (av 1) (aa_cons (ae_ty (n := "tuple") z_tuple (by decide +kernel)) aa_nil)))) (aw_and (at_cmp (eqDK K hr.units) s_eq (ae_callB (c_len K) s_len z_len (by decide +kernel) (aa_cons (av 1) aa_nil)) ae_int (nomark _)) (aw_and1 (at_val (ae_c D_is_name (hr.mono (by decide)) hq (aa_cons (ae_ix hr.u1 (av 1) ae_int (fun _ _ => rfl)) aa_nil)))))))) (ass_one (as_ret ae_bl)) ass_nil)
        (ass_one (as_if (at_not (PW.pt (aw_and (at_val (ae_c D_is_int (hr.mono (by decide)) hq (aa_cons (ae_ix hr.u1 (av 1) ae_int (fun _ _ => rfl)) aa_nil))) (aw_and1 (at_chain op_leA s_B op_leA s_B ae_int (ae_ix hr.u1 (av 1) ae_int (fun _ _ => rfl)) (ae_gI c_MOST_INPUTS)))))) (ass_one (as_ret ae_bl)) ass_nil))))
      (ass_one (as_ret (ae_c D_ascends (hr.mono (by decide)) hq (aa_cons (ae_lc (own := [("part", 1)]) rfl nd (ai_seq (av 0)) (blkOk_by (own := [("part", 1)]) (N := N_are_operations) (sc := defScope s_are_operations) (by decide +kernel)) (fun _ _ _ _ _ => (pg_name (i := 1) nd rfl (by first | exact Or.inl rfl | exact Or.inr rfl))) (go_name 1) (by decide) (fun _ _ _ _ _ => ats_nil) (fun _ _ _ _ _ => (ae_ix hr.u1 (av 1) ae_int (fun _ _ => rfl)))) aa_nil))))))) (fun ds M Q h => ?_)
  obtain ⟨d, rfl, hf, q⟩ := h
  simp only [aSeq, aAsg, aGName, aGTup, aGCons, aGNil, unTup, aVar, aC, aOp, aUn, aTest, aChain, aAnd, aOr, aNot, aIf, aAndT, aOrT, aNotT, aNil, aCons, aTup, aLst, aLstM, aDictM, aCB, aLc, aLc2, aDc, aFld, aFldSet, aMeth, aMethK, aMake, aMakeM, aPairs, aDisp, aRev, aRevM, aPutAt, aAugI, aFor, aWhile, aSeqW, aRng1, aRng2, aEnum, aNext, aNever, aBreak, aCont, aDrop, aRet, aRetN, aIfS, aPar, aCall, aYes, startA, endsA, aI, aU, aBM, aBM0, aTx, aSl, aNoPart, aPart, List.map_cons, List.map_nil, List.length_cons, List.length_nil, List.replicate_succ, List.replicate_zero, List.cons_append, List.nil_append, List.append_nil, List.set_cons_zero, List.set_cons_succ, List.getElem?_cons_zero, List.getElem?_cons_succ, Option.some.injEq, exists_eq_left', D.int.injEq, D.str.injEq, D.bl.injEq, D.ref.injEq, D.tup.injEq, D.lst.injEq, List.cons.injEq, and_true, true_and, exists_and_left, exists_eq_left, exists_eq, and_assoc, Nat.reduceAdd, Nat.reduceSub, Nat.zero_add, exists_and_right, exists_const, if_true, if_false, Bool.not_true, Bool.not_false, Bool.false_eq_true, wipeA, N_are_operations]
  simp only [isi_f hf (.inr (.inr (.inr (.inl rfl)))), D.bl.injEq, exists_eq_left']
  cases d with
  | tup ds =>
    have q : Q (.bl (ds.all isOp && ascD (firsts ds))) M := q
    simp only [isTyB, decide_true, Bool.not_true, Bool.false_eq_true, if_false]
    refine ⟨_, rfl, for_all isOp (fun x => [some (.tup ds), x]) ⟨none, rfl⟩ trivial (fun d hd x P hP => ?_) fun x ha => ?_⟩
    · have fd := fine_tup hf d hd
      have qf : isOp d = false → Q (.bl false) M := fun h => by
        have : ds.all isOp = false := List.all_eq_false.mpr ⟨d, hd, by rw [h]; decide⟩
        rw [this] at q
        exact q
      simp only [aSeq, aAsg, aGName, aGTup, aGCons, aGNil, unTup, aVar, aC, aOp, aUn, aTest, aChain, aAnd, aOr, aNot, aIf, aAndT, aOrT, aNotT, aNil, aCons, aTup, aLst, aLstM, aDictM, aCB, aLc, aLc2, aDc, aFld, aFldSet, aMeth, aMethK, aMake, aMakeM, aPairs, aDisp, aRev, aRevM, aPutAt, aAugI, aFor, aWhile, aSeqW, aRng1, aRng2, aEnum, aNext, aNever, aBreak, aCont, aDrop, aRet, aRetN, aIfS, aPar, aCall, aYes, startA, endsA, aI, aU, aBM, aBM0, aTx, aSl, aNoPart, aPart, List.map_cons, List.map_nil, List.length_cons, List.length_nil, List.replicate_succ, List.replicate_zero, List.cons_append, List.nil_append, List.append_nil, List.set_cons_zero, List.set_cons_succ, List.getElem?_cons_zero, List.getElem?_cons_succ, Option.some.injEq, exists_eq_left', D.int.injEq, D.str.injEq, D.bl.injEq, D.ref.injEq, D.tup.injEq, D.lst.injEq, List.cons.injEq, and_true, true_and, exists_and_left, exists_eq_left, exists_eq, and_assoc, Nat.reduceAdd, Nat.reduceSub, Nat.zero_add, exists_and_right, exists_const, if_true, if_false, Bool.not_true, Bool.not_false, Bool.false_eq_true, wipeA]
      simp only [isi_f fd (.inr (.inr (.inr (.inl rfl)))), D.bl.injEq, exists_eq_left']
      cases d with
      | tup ps =>
        simp only [isTyB, decide_true, if_true, len_tup, aEq_f fine_int fine_int, eqD_ii, D.bl.injEq, exists_eq_left', decide_eq_true_eq]
        rcases ps with _ | ⟨a, _ | ⟨b, _ | ⟨c, _ | ⟨z, r⟩⟩⟩⟩
        · simpa using qf rfl
        · simpa using qf (by cases a <;> rfl)
        · simpa using qf (by cases a <;> first | rfl | (cases b <;> rfl))
        · simp only [List.length_cons, List.length_nil]
          rw [if_pos (by rfl)]
          have fa := fine_tup fd a (by simp)
          have fb := fine_tup fd b (by simp)
          simp only [ix_t0, ix_t1, ix_t2, aTells, List.cons.injEq, and_true, exists_eq_left', exists_eq_left, D.bl.injEq]
          refine ⟨fa, ?_⟩
          cases ha : isName a
          · simpa using qf (by cases b <;> first | rfl | (simp [isOp, ha]))
          simp only [Bool.not_true, Bool.false_eq_true, if_false]
          refine ⟨fb, ?_⟩
          cases hb : isInt b
          · simpa using qf (by cases b <;> first | rfl | cases hb)
          obtain ⟨sz, rfl⟩ := isInt_is hb
          simp only [if_true, aB, D.bl.injEq, exists_eq_left']
          by_cases h1 : 1 ≤ sz
          · by_cases h2 : sz ≤ 4
            · simpa [h1, h2] using hP (by simp [isOp, ha, h1, h2]) _
            · simpa [h1, h2] using qf (by simp [isOp, h2])
          · simpa [h1] using qf (by simp [isOp, h1])
        · have h4 := (many_ne' a b c z r)
          rw [if_neg h4]
          simpa using qf (by cases a <;> first | rfl | (cases b <;> first | rfl | (cases c <;> rfl)))
      | _ => simpa [isTyB] using qf rfl
    · simp only [aSeq, aAsg, aGName, aGTup, aGCons, aGNil, unTup, aVar, aC, aOp, aUn, aTest, aChain, aAnd, aOr, aNot, aIf, aAndT, aOrT, aNotT, aNil, aCons, aTup, aLst, aLstM, aDictM, aCB, aLc, aLc2, aDc, aFld, aFldSet, aMeth, aMethK, aMake, aMakeM, aPairs, aDisp, aRev, aRevM, aPutAt, aAugI, aFor, aWhile, aSeqW, aRng1, aRng2, aEnum, aNext, aNever, aBreak, aCont, aDrop, aRet, aRetN, aIfS, aPar, aCall, aYes, startA, endsA, aI, aU, aBM, aBM0, aTx, aSl, aNoPart, aPart, List.map_cons, List.map_nil, List.length_cons, List.length_nil, List.replicate_succ, List.replicate_zero, List.cons_append, List.nil_append, List.append_nil, List.set_cons_zero, List.set_cons_succ, List.getElem?_cons_zero, List.getElem?_cons_succ, Option.some.injEq, exists_eq_left', D.int.injEq, D.str.injEq, D.bl.injEq, D.ref.injEq, D.tup.injEq, D.lst.injEq, List.cons.injEq, and_true, true_and, exists_and_left, exists_eq_left, exists_eq, and_assoc, Nat.reduceAdd, Nat.reduceSub, Nat.zero_add, exists_and_right, exists_const, if_true, if_false, Bool.not_true, Bool.not_false, Bool.false_eq_true, wipeA]
      have ha : ds.all isOp = true := ha
      rw [ha, Bool.true_and] at q
      have each : ∀ d ∈ ds, ∃ a r, d = .tup (a :: r) ∧ isName a = true := fun d hd => op_is (List.all_eq_true.mp ha d hd)
      refine ⟨_, rfl, lc_map headD trivial hf.len (fun d hd P R hP => ?_) ?_⟩
      · obtain ⟨a, r, rfl, _⟩ := each d hd
        simp only [aSeq, aAsg, aGName, aGTup, aGCons, aGNil, unTup, aVar, aC, aOp, aUn, aTest, aChain, aAnd, aOr, aNot, aIf, aAndT, aOrT, aNotT, aNil, aCons, aTup, aLst, aLstM, aDictM, aCB, aLc, aLc2, aDc, aFld, aFldSet, aMeth, aMethK, aMake, aMakeM, aPairs, aDisp, aRev, aRevM, aPutAt, aAugI, aFor, aWhile, aSeqW, aRng1, aRng2, aEnum, aNext, aNever, aBreak, aCont, aDrop, aRet, aRetN, aIfS, aPar, aCall, aYes, startA, endsA, aI, aU, aBM, aBM0, aTx, aSl, aNoPart, aPart, List.map_cons, List.map_nil, List.length_cons, List.length_nil, List.replicate_succ, List.replicate_zero, List.cons_append, List.nil_append, List.append_nil, List.set_cons_zero, List.set_cons_succ, List.getElem?_cons_zero, List.getElem?_cons_succ, Option.some.injEq, exists_eq_left', D.int.injEq, D.str.injEq, D.bl.injEq, D.ref.injEq, D.tup.injEq, D.lst.injEq, List.cons.injEq, and_true, true_and, exists_and_left, exists_eq_left, exists_eq, and_assoc, Nat.reduceAdd, Nat.reduceSub, Nat.zero_add, exists_and_right, exists_const, if_true, if_false, Bool.not_true, Bool.not_false, Bool.false_eq_true, wipeA]
        rw [ix_t0]
        exact hP
      · have e1 : ds.map headD = firsts ds := heads_firsts fun d hd => by obtain ⟨a, r, h, _⟩ := each d hd; exact ⟨a, r, h⟩
        show aAsc [.lst (ds.map headD)] M Q
        rw [e1]
        have fc : ∀ x ∈ firsts ds, isName x = true ∧ Fine x := fun x hx => by
          rw [← e1] at hx
          obtain ⟨d, hd, rfl⟩ := List.mem_map.mp hx
          obtain ⟨a, r, rfl, hc⟩ := each d hd
          exact ⟨hc, fine_tup (fine_tup hf _ hd) a (by simp)⟩
        refine ⟨_, firsts ds, rfl, .inr rfl, fun x hx => ⟨(fc x hx).2, name_py (fc x hx).1⟩, fun x hx y hy => names_alike (fc x hx).1 (fc y hy).1, ?_, q⟩
        rw [← e1, List.length_map]
        exact hf.len
  | _ => simpa [isTyB, opsD] using q
/-! ### bodies -/
def inD (hs : List D) (x : D) : Bool := hs.any fun z => eqD z x
def handlesOfD (hs : List D) : D → Bool
  | .tup ds => ds.all (inD hs) && ascD ds
  | _ => false
/-- handles: names -/
structure Hands (hs : List D) : Prop where
  fine : Fine (.tup hs)
  names : ∀ h ∈ hs, isName h = true
theorem in_name {hs : List D} (H : Hands hs) {x : D} (hp : plain x = true) (h : inD hs x = true) : ∃ z, x = .str z := by
  unfold inD at h
  obtain ⟨y, hy, e⟩ := List.any_eq_true.mp h
  obtain ⟨z, rfl⟩ := name_is (H.names y hy)
  cases x <;> first | exact ⟨_, rfl⟩ | exact absurd (show false = true from e) (by decide) | cases hp
theorem ok_are_handles_of {f : Addr} {fd : FuncData} (F : Fun K "are_handles_of" "are_handles_of" s_are_handles_of f fd)
    (D_ascends : Has P w K mg base 1 "ascends" ["row"] (spA K aAsc)) (z_isinstance : mg "isinstance" = none) (z_tuple : mg "tuple" = none) (z_all : mg "all" = none) :
    FnG P w K mg base CX0 2 f fd ["thing", "handles"] (spA K fun ds M Q => ∃ d hs, ds = [d, .tup hs] ∧ Fine d ∧ Hands hs ∧ Q (.bl (handlesOfD hs d)) M) := by
  have nd := sc_are_handles_of.nd
  refine okA F sc_are_handles_of (fun ds M Q h => by obtain ⟨d, _, rfl, _⟩ := h; rfl) (fun cv A' out t G Z hr hq => (ass_one (as_ret (ae_and (ae_callB (isiK K) s_isi z_isinstance (by decide +kernel) (aa_cons (av 0) (aa_cons (ae_ty (n := "tuple") z_tuple (by decide +kernel)) aa_nil))) (ae_and (ae_callB (c_all K rfl) s_all z_all (by decide +kernel) (aa_cons (ae_lc (own := [("part", 2)]) rfl nd (ai_seq (av 0)) (blkOk_by (own := [("part", 2)]) (N := N_are_handles_of) (sc := defScope s_are_handles_of) (by decide +kernel)) (fun _ _ _ _ _ => (pg_name (i := 2) nd rfl (by first | exact Or.inl rfl | exact Or.inr rfl))) (go_name 2) (by decide) (fun _ _ _ _ _ => ats_nil) (fun _ _ _ _ _ => (ae_cmp (op_inA K hr.u65) (s_in false) (av 2) (av 1) rfl))) aa_nil)) (ae_one (ae_c D_ascends (hr.mono (by decide)) hq (aa_cons (av 0) aa_nil)))))))) (fun ds M Q h => ?_)
  obtain ⟨d, hs, rfl, hf, H, q⟩ := h
  simp only [aSeq, aAsg, aGName, aGTup, aGCons, aGNil, unTup, aVar, aC, aOp, aUn, aTest, aChain, aAnd, aOr, aNot, aIf, aAndT, aOrT, aNotT, aNil, aCons, aTup, aLst, aLstM, aDictM, aCB, aLc, aLc2, aDc, aFld, aFldSet, aMeth, aMethK, aMake, aMakeM, aPairs, aDisp, aRev, aRevM, aPutAt, aAugI, aFor, aWhile, aSeqW, aRng1, aRng2, aEnum, aNext, aNever, aBreak, aCont, aDrop, aRet, aRetN, aIfS, aPar, aCall, aYes, startA, endsA, aI, aU, aBM, aBM0, aTx, aSl, aNoPart, aPart, List.map_cons, List.map_nil, List.length_cons, List.length_nil, List.replicate_succ, List.replicate_zero, List.cons_append, List.nil_append, List.append_nil, List.set_cons_zero, List.set_cons_succ, List.getElem?_cons_zero, List.getElem?_cons_succ, Option.some.injEq, exists_eq_left', D.int.injEq, D.str.injEq, D.bl.injEq, D.ref.injEq, D.tup.injEq, D.lst.injEq, List.cons.injEq, and_true, true_and, exists_and_left, exists_eq_left, exists_eq, and_assoc, Nat.reduceAdd, Nat.reduceSub, Nat.zero_add, exists_and_right, exists_const, if_true, if_false, Bool.not_true, Bool.not_false, Bool.false_eq_true, wipeA, N_are_handles_of]
  simp only [isi_f hf (.inr (.inr (.inr (.inl rfl)))), D.bl.injEq, exists_eq_left']
  cases d with
  | tup ds =>
    have q : Q (.bl (ds.all (inD hs) && ascD ds)) M := q
    simp only [isTyB, decide_true, if_true]
    refine ⟨_, rfl, lc_map (fun d => .bl (inD hs d)) trivial hf.len (fun d hd P R hP => ?_) ?_⟩
    · simp only [aSeq, aAsg, aGName, aGTup, aGCons, aGNil, unTup, aVar, aC, aOp, aUn, aTest, aChain, aAnd, aOr, aNot, aIf, aAndT, aOrT, aNotT, aNil, aCons, aTup, aLst, aLstM, aDictM, aCB, aLc, aLc2, aDc, aFld, aFldSet, aMeth, aMethK, aMake, aMakeM, aPairs, aDisp, aRev, aRevM, aPutAt, aAugI, aFor, aWhile, aSeqW, aRng1, aRng2, aEnum, aNext, aNever, aBreak, aCont, aDrop, aRet, aRetN, aIfS, aPar, aCall, aYes, startA, endsA, aI, aU, aBM, aBM0, aTx, aSl, aNoPart, aPart, List.map_cons, List.map_nil, List.length_cons, List.length_nil, List.replicate_succ, List.replicate_zero, List.cons_append, List.nil_append, List.append_nil, List.set_cons_zero, List.set_cons_succ, List.getElem?_cons_zero, List.getElem?_cons_succ, Option.some.injEq, exists_eq_left', D.int.injEq, D.str.injEq, D.bl.injEq, D.ref.injEq, D.tup.injEq, D.lst.injEq, List.cons.injEq, and_true, true_and, exists_and_left, exists_eq_left, exists_eq, and_assoc, Nat.reduceAdd, Nat.reduceSub, Nat.zero_add, exists_and_right, exists_const, if_true, if_false, Bool.not_true, Bool.not_false, Bool.false_eq_true, wipeA]
      rw [in_tup (fine_tup hf d hd) (fine_tup H.fine)]
      exact hP
    · refine ⟨_, _, _, rfl, rfl, bools_map _ _, ?_⟩
      rw [List.all_map]
      show ∃ c, D.bl (ds.all (inD hs)) = D.bl c ∧ _
      cases ha : ds.all (inD hs)
      · rw [ha] at q
        exact ⟨_, rfl, q⟩
      · rw [ha, Bool.true_and] at q
        refine ⟨_, rfl, ?_⟩
        rw [if_pos rfl]
        have fc : ∀ x ∈ ds, ∃ z, x = .str z := fun x hx => in_name H (fine_tup hf x hx).plain (List.all_eq_true.mp ha x hx)
        refine ⟨_, ds, rfl, .inl rfl, fun x hx => ⟨fine_tup hf x hx, ?_⟩, fun x hx y hy => ?_, hf.len, q⟩
        · obtain ⟨z, rfl⟩ := fc x hx
          exact fun z => nomatch z
        · obtain ⟨z, rfl⟩ := fc x hx
          obtain ⟨z', rfl⟩ := fc y hy
          rfl
  | _ => simpa [isTyB, handlesOfD] using q
def isWrite (cs : Cells) (n : Nat) : D → Bool
  | .tup [c, e] => isCellIn cs c && exprD cs true n e
  | _ => false
def blockD : D → Int
  | .tup (.tup (.int b :: _) :: _) => b
  | _ => 0
def writesD (cs : Cells) (n : Nat) : D → Bool
  | .tup [] => false
  | .tup (d :: r) => (d :: r).all (isWrite cs n) && (ascD (firsts (d :: r)) && decide (blockD d = blockD ((d :: r).getLast (by simp))))
  | _ => false
theorem cellIn_is {cs : Cells} {x : D} (h : isCellIn cs x = true) : ∃ a b : Int, x = .tup [.int a, .int b] := by
  unfold isCellIn at h
  split at h
  · exact ⟨_, _, rfl⟩
  · cases h
theorem write_is {cs : Cells} {n : Nat} {d : D} (h : isWrite cs n d = true) : ∃ (a b : Int) (e : D), d = .tup [.tup [.int a, .int b], e] := by
  unfold isWrite at h
  split at h
  · rw [Bool.and_eq_true] at h
    obtain ⟨a, b, rfl⟩ := cellIn_is h.1
    exact ⟨_, _, _, rfl⟩
  · cases h
section
variable {n : Nat} (D_is_pair : Has P w K mg base 1 "is_pair" ["thing"] (spA K (aTells isPair)))
  (D_is_cell_in : Has P w K mg base 3 "is_cell_in" ["thing", "cells"] (spA K fun ds M Q => ∃ d cs, ds = [d, .dT cs] ∧ Fine d ∧ Q (.bl (isCellIn cs d)) M))
  (D_is_expression : Has P w K mg base (n + 4) "is_expression" ["thing", "cells", "has_input"] (spA K (aIsE (fun cs inp => exprD cs inp n) n)))
  (D_ascends : Has P w K mg base 1 "ascends" ["row"] (spA K aAsc))
include D_is_pair D_is_cell_in D_is_expression D_ascends in
theorem ok_are_put_writes {f : Addr} {fd : FuncData} (F : Fun K "are_put_writes" "are_put_writes" s_are_put_writes f fd) (z_isinstance : mg "isinstance" = none) (z_tuple : mg "tuple" = none) (z_len : mg "len" = none) :
    FnG P w K mg base CX0 (n + 5) f fd ["thing", "cells"] (spA K fun ds M Q => ∃ d cs, ds = [d, .dT cs] ∧ Fine d ∧ (py d).depth ≤ n ∧ Q (.bl (writesD cs n d)) M) := by
  have nd := sc_are_put_writes.nd
  refine okA (k := n + 4) F sc_are_put_writes (fun ds M Q h => by obtain ⟨d, _, rfl, _⟩ := h; rfl) (fun cv A' out t G Z hr hq => (ass_cons (as_if (PW.pt (aw_or (at_not (at_val (ae_callB (isiK K) s_isi z_isinstance (by decide +kernel) (aa_cons (av 0) (aa_cons (ae_ty (n := "tuple") z_tuple (by decide +kernel)) aa_nil))))) (aw_or1 (at_cmp (eqDK K hr.units) s_eq (ae_callB (c_len K) s_len z_len (by decide +kernel) (aa_cons (av 0) aa_nil)) ae_int (nomark _))))) (ass_one (as_ret ae_bl)) ass_nil)
      (ass_cons (as_for PassesOwn.never rfl (ai_seq (av 0)) (pg_name (i := 2) nd rfl (Or.inl rfl)) (go_name 2)
        (ass_one (as_if (at_not (PW.pt (aw_and (at_val (ae_c D_is_pair (hr.mono (by omega)) hq (aa_cons (av 2) aa_nil))) (aw_and (at_val (ae_c D_is_cell_in (hr.mono (by omega)) hq (aa_cons (ae_ix hr.u1 (av 2) ae_int (fun _ _ => rfl)) (aa_cons (av 1) aa_nil)))) (aw_and1 (at_val (ae_c D_is_expression (hr.mono (by omega)) hq (aa_cons (ae_ix hr.u1 (av 2) ae_int (fun _ _ => rfl)) (aa_cons (av 1) (aa_cons ae_bl aa_nil)))))))))) (ass_one (as_ret ae_bl)) ass_nil)))
      (ass_one (as_ret (ae_and (ae_c D_ascends (hr.mono (by omega)) hq (aa_cons (ae_lc (own := [("part", 2)]) rfl nd (ai_seq (av 0)) (blkOk_by (own := [("part", 2)]) (N := N_are_put_writes) (sc := defScope s_are_put_writes) (by decide +kernel)) (fun _ _ _ _ _ => (pg_name (i := 2) nd rfl (by first | exact Or.inl rfl | exact Or.inr rfl))) (go_name 2) (by decide) (fun _ _ _ _ _ => ats_nil) (fun _ _ _ _ _ => (ae_ix hr.u1 (av 2) ae_int (fun _ _ => rfl)))) aa_nil)) (ae_one (ae_cmp (eqDK K hr.units) s_eq (ae_ix hr.u1 (ae_ix hr.u1 (ae_ix hr.u1 (av 0) ae_int (fun _ _ => rfl)) ae_int (fun _ _ => rfl)) ae_int (fun _ _ => rfl)) (ae_ix hr.u1 (ae_ix hr.u1 (ae_ix hr.u1 (av 0) (ae_un un_neg s_U ae_int) (fun _ _ => rfl)) ae_int (fun _ _ => rfl)) ae_int (fun _ _ => rfl)) (nomark _))))))))) (fun ds M Q h => ?_)
  obtain ⟨d, cs, rfl, hf, hdep, q⟩ := h
  simp only [aSeq, aAsg, aGName, aGTup, aGCons, aGNil, unTup, aVar, aC, aOp, aUn, aTest, aChain, aAnd, aOr, aNot, aIf, aAndT, aOrT, aNotT, aNil, aCons, aTup, aLst, aLstM, aDictM, aCB, aLc, aLc2, aDc, aFld, aFldSet, aMeth, aMethK, aMake, aMakeM, aPairs, aDisp, aRev, aRevM, aPutAt, aAugI, aFor, aWhile, aSeqW, aRng1, aRng2, aEnum, aNext, aNever, aBreak, aCont, aDrop, aRet, aRetN, aIfS, aPar, aCall, aYes, startA, endsA, aI, aU, aBM, aBM0, aTx, aSl, aNoPart, aPart, List.map_cons, List.map_nil, List.length_cons, List.length_nil, List.replicate_succ, List.replicate_zero, List.cons_append, List.nil_append, List.append_nil, List.set_cons_zero, List.set_cons_succ, List.getElem?_cons_zero, List.getElem?_cons_succ, Option.some.injEq, exists_eq_left', D.int.injEq, D.str.injEq, D.bl.injEq, D.ref.injEq, D.tup.injEq, D.lst.injEq, List.cons.injEq, and_true, true_and, exists_and_left, exists_eq_left, exists_eq, and_assoc, Nat.reduceAdd, Nat.reduceSub, Nat.zero_add, exists_and_right, exists_const, if_true, if_false, Bool.not_true, Bool.not_false, Bool.false_eq_true, wipeA, N_are_put_writes]
  simp only [isi_f hf (.inr (.inr (.inr (.inl rfl)))), D.bl.injEq, exists_eq_left']
  cases d with
  | tup ds =>
    simp only [isTyB, decide_true, Bool.not_true, Bool.false_eq_true, if_false, len_tup, aEq_f fine_int fine_int, eqD_ii, D.bl.injEq, exists_eq_left', decide_eq_true_eq]
    by_cases hne : ds = []
    · subst hne
      simpa [writesD] using q
    have hl : ds.length ≠ 0 := fun h => hne (List.length_eq_zero_iff.mp h)
    rw [if_neg (by omega)]
    obtain ⟨d0, r0, hds⟩ : ∃ d0 r0, ds = d0 :: r0 := by
      cases ds with
      | nil => exact absurd rfl hne
      | cons a b => exact ⟨a, b, rfl⟩
    have e : writesD cs n (.tup ds) = (ds.all (isWrite cs n) && (ascD (firsts ds) && decide (blockD d0 = blockD (ds.getLast hne)))) := by
      subst hds
      rfl
    rw [e] at q
    refine ⟨_, rfl, for_all (isWrite cs n) (fun x => [some (.tup ds), some (.dT cs), x]) ⟨none, rfl⟩ trivial (fun d hd x P hP => ?_) fun x ha => ?_⟩
    · have fd := fine_tup hf d hd
      have qf : isWrite cs n d = false → Q (.bl false) M := fun h => by
        have : ds.all (isWrite cs n) = false := List.all_eq_false.mpr ⟨d, hd, by rw [h]; decide⟩
        rw [this] at q
        exact q
      simp only [aSeq, aAsg, aGName, aGTup, aGCons, aGNil, unTup, aVar, aC, aOp, aUn, aTest, aChain, aAnd, aOr, aNot, aIf, aAndT, aOrT, aNotT, aNil, aCons, aTup, aLst, aLstM, aDictM, aCB, aLc, aLc2, aDc, aFld, aFldSet, aMeth, aMethK, aMake, aMakeM, aPairs, aDisp, aRev, aRevM, aPutAt, aAugI, aFor, aWhile, aSeqW, aRng1, aRng2, aEnum, aNext, aNever, aBreak, aCont, aDrop, aRet, aRetN, aIfS, aPar, aCall, aYes, startA, endsA, aI, aU, aBM, aBM0, aTx, aSl, aNoPart, aPart, List.map_cons, List.map_nil, List.length_cons, List.length_nil, List.replicate_succ, List.replicate_zero, List.cons_append, List.nil_append, List.append_nil, List.set_cons_zero, List.set_cons_succ, List.getElem?_cons_zero, List.getElem?_cons_succ, Option.some.injEq, exists_eq_left', D.int.injEq, D.str.injEq, D.bl.injEq, D.ref.injEq, D.tup.injEq, D.lst.injEq, List.cons.injEq, and_true, true_and, exists_and_left, exists_eq_left, exists_eq, and_assoc, Nat.reduceAdd, Nat.reduceSub, Nat.zero_add, exists_and_right, exists_const, if_true, if_false, Bool.not_true, Bool.not_false, Bool.false_eq_true, wipeA]
      simp only [aTells, List.cons.injEq, and_true, exists_eq_left', exists_eq_left, D.bl.injEq]
      refine ⟨fd, ?_⟩
      cases hp : isPair d
      · have : isWrite cs n d = false := by
          cases d <;> first | rfl | skip
          rename_i ps
          rcases ps with _ | ⟨a, _ | ⟨b, _ | ⟨c, r⟩⟩⟩ <;> first | rfl | cases hp
        simpa using qf this
      obtain ⟨a, b, rfl⟩ : ∃ a b, d = .tup [a, b] := by
        cases d <;> first | cases hp | skip
        rename_i ps
        rcases ps with _ | ⟨a, _ | ⟨b, _ | ⟨c, r⟩⟩⟩ <;> first | exact ⟨_, _, rfl⟩ | cases hp
      have fa := fine_tup fd a (by simp)
      have fb := fine_tup fd b (by simp)
      simp only [if_true, ix_t0, ix_t1]
      refine ⟨cs, rfl, fa, ?_⟩
      cases hc : isCellIn cs a
      · simpa using qf (by simp [isWrite, hc])
      simp only [if_true, aIsE]
      refine ⟨_, _, _, rfl, fb, ?_, ?_⟩
      · have h1 := depth_mem (d := b) (ds := [a, b]) (by simp)
        have h2 := depth_mem hd
        simp only [py, PyData.depth] at h2 hdep
        omega
      cases he : exprD cs true n b
      · simpa using qf (by simp [isWrite, he])
      · simpa using hP (by simp [isWrite, he, hc]) _
    · simp only [aSeq, aAsg, aGName, aGTup, aGCons, aGNil, unTup, aVar, aC, aOp, aUn, aTest, aChain, aAnd, aOr, aNot, aIf, aAndT, aOrT, aNotT, aNil, aCons, aTup, aLst, aLstM, aDictM, aCB, aLc, aLc2, aDc, aFld, aFldSet, aMeth, aMethK, aMake, aMakeM, aPairs, aDisp, aRev, aRevM, aPutAt, aAugI, aFor, aWhile, aSeqW, aRng1, aRng2, aEnum, aNext, aNever, aBreak, aCont, aDrop, aRet, aRetN, aIfS, aPar, aCall, aYes, startA, endsA, aI, aU, aBM, aBM0, aTx, aSl, aNoPart, aPart, List.map_cons, List.map_nil, List.length_cons, List.length_nil, List.replicate_succ, List.replicate_zero, List.cons_append, List.nil_append, List.append_nil, List.set_cons_zero, List.set_cons_succ, List.getElem?_cons_zero, List.getElem?_cons_succ, Option.some.injEq, exists_eq_left', D.int.injEq, D.str.injEq, D.bl.injEq, D.ref.injEq, D.tup.injEq, D.lst.injEq, List.cons.injEq, and_true, true_and, exists_and_left, exists_eq_left, exists_eq, and_assoc, Nat.reduceAdd, Nat.reduceSub, Nat.zero_add, exists_and_right, exists_const, if_true, if_false, Bool.not_true, Bool.not_false, Bool.false_eq_true, wipeA]
      have ha : ds.all (isWrite cs n) = true := ha
      rw [ha, Bool.true_and] at q
      have each : ∀ d ∈ ds, ∃ (a b : Int) (e : D), d = .tup [.tup [.int a, .int b], e] := fun d hd => write_is (List.all_eq_true.mp ha d hd)
      refine ⟨_, rfl, lc_map headD trivial hf.len (fun d hd P R hP => ?_) ?_⟩
      · obtain ⟨a, b, e, rfl⟩ := each d hd
        simp only [aSeq, aAsg, aGName, aGTup, aGCons, aGNil, unTup, aVar, aC, aOp, aUn, aTest, aChain, aAnd, aOr, aNot, aIf, aAndT, aOrT, aNotT, aNil, aCons, aTup, aLst, aLstM, aDictM, aCB, aLc, aLc2, aDc, aFld, aFldSet, aMeth, aMethK, aMake, aMakeM, aPairs, aDisp, aRev, aRevM, aPutAt, aAugI, aFor, aWhile, aSeqW, aRng1, aRng2, aEnum, aNext, aNever, aBreak, aCont, aDrop, aRet, aRetN, aIfS, aPar, aCall, aYes, startA, endsA, aI, aU, aBM, aBM0, aTx, aSl, aNoPart, aPart, List.map_cons, List.map_nil, List.length_cons, List.length_nil, List.replicate_succ, List.replicate_zero, List.cons_append, List.nil_append, List.append_nil, List.set_cons_zero, List.set_cons_succ, List.getElem?_cons_zero, List.getElem?_cons_succ, Option.some.injEq, exists_eq_left', D.int.injEq, D.str.injEq, D.bl.injEq, D.ref.injEq, D.tup.injEq, D.lst.injEq, List.cons.injEq, and_true, true_and, exists_and_left, exists_eq_left, exists_eq, and_assoc, Nat.reduceAdd, Nat.reduceSub, Nat.zero_add, exists_and_right, exists_const, if_true, if_false, Bool.not_true, Bool.not_false, Bool.false_eq_true, wipeA]
        rw [ix_t0]
        exact hP
      · have e1 : ds.map headD = firsts ds := heads_firsts fun d hd => by obtain ⟨a, b, e, h⟩ := each d hd; exact ⟨_, _, h⟩
        rw [e1]
        have fc : ∀ x ∈ firsts ds, (∃ a b : Int, x = .tup [.int a, .int b]) ∧ Fine x := fun x hx => by
          rw [← e1] at hx
          obtain ⟨d, hd, rfl⟩ := List.mem_map.mp hx
          obtain ⟨a, b, e, rfl⟩ := each d hd
          exact ⟨⟨a, b, rfl⟩, fine_tup (fine_tup hf _ hd) _ (by simp [headD])⟩
        refine ⟨_, firsts ds, rfl, .inr rfl, fun x hx => ⟨(fc x hx).2, ?_⟩, fun x hx y hy => ?_, ?_, _, rfl, ?_⟩
        · obtain ⟨⟨a, b, rfl⟩, _⟩ := fc x hx
          exact fun z => nomatch z
        · obtain ⟨⟨a, b, rfl⟩, _⟩ := fc x hx
          obtain ⟨⟨a, b, rfl⟩, _⟩ := fc y hy
          rfl
        · rw [← e1, List.length_map]
          exact hf.len
        · cases hasc : ascD (firsts ds)
          · rw [hasc] at q
            exact q
          rw [hasc, Bool.true_and] at q
          rw [if_pos rfl]
          obtain ⟨a, b, e, h0⟩ := each d0 (by rw [hds]; simp)
          obtain ⟨a', b', e', h1⟩ := each (ds.getLast hne) (List.getLast_mem hne)
          rw [h0, h1] at q
          have hix0 : ∀ {Q : D → Mem → Prop}, aIx (.tup ds) (.int 0) M Q = Q d0 M := by
            intro Q
            rw [hds]
            exact ix_t0
          rw [hix0, h0]
          simp only [ix_t0]
          rw [ix_last hne, h1]
          simp only [ix_t0, aEq_f fine_int fine_int, eqD_ii]
          exact q
  | _ => simpa [isTyB, writesD] using q
end
end
end E60
namespace E60
open PySem PySem.Spec PyProof.Rows L2 Lay LA
section
variable {P : Program} {w : World} {K : PySem.W.Frag} {mg : Str → Option Value} {base : Heap}
def gripD (hs : List D) (h : D) : Bool := isNon h || inD hs h
def putD' (cs : Cells) (hs : List D) (n : Nat) (r : List D) : Bool := three (writesD cs n) (handlesOfD hs) (gripD hs) r
mutual
def stmtD (cs : Cells) (hs : List D) : Nat → D → Bool
  | 0, _ => false
  | n + 1, d => (match d with
    | .tup (.str x :: r) => if x = "put" then putD' cs hs n r else if x = "if" then three (testD cs true n) (bodyD cs hs n) (bodyD cs hs n) r
      else decide (x = "release") && one (inD hs) r
    | _ => false)
def bodyD (cs : Cells) (hs : List D) : Nat → D → Bool
  | 0, _ => false
  | n + 1, d => (match d with
    | .tup ds => ds.all (stmtD cs hs n)
    | _ => false)
end
theorem stmtD_tup {cs : Cells} {hs : List D} {m : Nat} {x : Str} {r : List D} : stmtD cs hs (m + 1) (.tup (.str x :: r)) = if x = "put" then putD' cs hs m r else if x = "if" then three (testD cs true m) (bodyD cs hs m) (bodyD cs hs m) r
      else decide (x = "release") && one (inD hs) r := by rw [stmtD]
theorem bodyD_tup {cs : Cells} {hs : List D} {m : Nat} {ds : List D} : bodyD cs hs (m + 1) (.tup ds) = ds.all (stmtD cs hs m) := by rw [bodyD]
theorem stmtD_no {cs : Cells} {hs : List D} {n : Nat} {d : D} (h2 : startsW d = false) : stmtD cs hs n d = false := by
  cases n <;> cases d <;> first | rfl | skip
  rename_i ds
  cases ds with
  | nil => rfl
  | cons a r => cases a <;> first | rfl | cases h2
def aIsS (f : Cells → List D → D → Bool) (n : Nat) : ASp := fun ds M Q => ∃ d cs hs, ds = [d, .dT cs, .tup hs] ∧ Fine d ∧ Hands hs ∧ (py d).depth ≤ n ∧ Q (.bl (f cs hs d)) M
section
variable {n : Nat}
  (D_are_put_writes : Has P w K mg base (n + 5) "are_put_writes" ["thing", "cells"] (spA K fun ds M Q => ∃ d cs, ds = [d, .dT cs] ∧ Fine d ∧ (py d).depth ≤ n ∧ Q (.bl (writesD cs n d)) M))
  (D_are_handles_of : Has P w K mg base 2 "are_handles_of" ["thing", "handles"] (spA K fun ds M Q => ∃ d hs, ds = [d, .tup hs] ∧ Fine d ∧ Hands hs ∧ Q (.bl (handlesOfD hs d)) M))
def aPut (n : Nat) : ASp := fun ds M Q => ∃ x r cs hs, ds = [.tup (.str x :: r), .dT cs, .tup hs] ∧ Fine (.tup (.str x :: r)) ∧ Hands hs ∧ (∀ y ∈ r, (py y).depth ≤ n) ∧ Q (.bl (putD' cs hs n r)) M
include D_are_put_writes D_are_handles_of in
theorem ok_is_put {f : Addr} {fd : FuncData} (F : Fun K "is_put" "is_put" s_is_put f fd) (z_len : mg "len" = none) :
    FnG P w K mg base CX0 (n + 6) f fd ["thing", "cells", "handles"] (spA K (aPut n)) := by
  have nd := sc_is_put.nd
  refine okA (k := n + 5) F sc_is_put (fun ds M Q h => by obtain ⟨_, _, _, _, rfl, _⟩ := h; rfl) (fun cv A' out t G Z hr hq => (ass_cons (as_if (at_cmp (neDK K hr.units) s_ne (ae_callB (c_len K) s_len z_len (by decide +kernel) (aa_cons (av 0) aa_nil)) ae_int (nomark _)) (ass_one (as_ret ae_bl)) ass_nil)
      (ass_cons (as_asg (av 0) (gTupK K (pg_tup (n := 4) (by rfl) (pgs_cons (pg_name (i := 3) nd rfl (Or.inl rfl)) (pgs_cons (pg_name (i := 4) nd rfl (Or.inl rfl)) (pgs_cons (pg_name (i := 5) nd rfl (Or.inl rfl)) (pgs_cons (pg_name (i := 6) nd rfl (Or.inl rfl)) pgs_nil)))))) (go_tup (gos_cons (go_name 3) (gos_cons (go_name 4) (gos_cons (go_name 5) (gos_cons (go_name 6) gos_nil))))))
      (ass_one (as_ret (ae_and (ae_c D_are_put_writes (hr.mono (by omega)) hq (aa_cons (av 4) (aa_cons (av 1) aa_nil))) (ae_and (ae_c D_are_handles_of (hr.mono (by omega)) hq (aa_cons (av 5) (aa_cons (av 2) aa_nil))) (ae_one (ae_or (ae_cmp op_isN s_isN (av 6) ae_non (nomark _)) (ae_one (ae_cmp (op_inA K hr.u65) (s_in false) (av 6) (av 2) rfl))))))))))) (fun ds M Q h => ?_)
  obtain ⟨x, r, cs, hs, rfl, hf, H, hd, q⟩ := h
  simp only [aSeq, aAsg, aGName, aGTup, aGCons, aGNil, unTup, aVar, aC, aOp, aUn, aTest, aChain, aAnd, aOr, aNot, aIf, aAndT, aOrT, aNotT, aNil, aCons, aTup, aLst, aLstM, aDictM, aCB, aLc, aLc2, aDc, aFld, aFldSet, aMeth, aMethK, aMake, aMakeM, aPairs, aDisp, aRev, aRevM, aPutAt, aAugI, aFor, aWhile, aSeqW, aRng1, aRng2, aEnum, aNext, aNever, aBreak, aCont, aDrop, aRet, aRetN, aIfS, aPar, aCall, aYes, startA, endsA, aI, aU, aBM, aBM0, aTx, aSl, aNoPart, aPart, List.map_cons, List.map_nil, List.length_cons, List.length_nil, List.replicate_succ, List.replicate_zero, List.cons_append, List.nil_append, List.append_nil, List.set_cons_zero, List.set_cons_succ, List.getElem?_cons_zero, List.getElem?_cons_succ, Option.some.injEq, exists_eq_left', D.int.injEq, D.str.injEq, D.bl.injEq, D.ref.injEq, D.tup.injEq, D.lst.injEq, List.cons.injEq, and_true, true_and, exists_and_left, exists_eq_left, exists_eq, and_assoc, Nat.reduceAdd, Nat.reduceSub, Nat.zero_add, exists_and_right, exists_const, if_true, if_false, Bool.not_true, Bool.not_false, Bool.false_eq_true, wipeA, N_is_put]
  simp only [len_tup, aNe_f fine_int fine_int, eqD_ii, D.bl.injEq, exists_eq_left', decide_eq_true_eq]
  have fr : ∀ y ∈ r, Fine y := fun y hy => fine_tup hf y (List.mem_cons_of_mem _ hy)
  rcases r with _ | ⟨y0, _ | ⟨y1, _ | ⟨y2, _ | ⟨y3, r'⟩⟩⟩⟩
  · simpa [putD', three] using q
  · simpa [putD', three] using q
  · simpa [putD', three] using q
  · simp only [List.length_cons, List.length_nil]
    rw [if_neg (by simp)]
    simp only [putD', three] at q
    refine ⟨trivial, y0, [y1, y2], rfl, y1, [y2], rfl, y2, [], rfl, rfl, cs, rfl, fr _ (by simp), hd _ (by simp), ?_⟩
    cases h1 : writesD cs n y0
    · simpa [h1] using q
    rw [h1, Bool.true_and] at q
    rw [if_pos rfl]
    refine ⟨fr _ (by simp), H, ?_⟩
    cases h2 : handlesOfD hs y1
    · simpa [h2] using q
    rw [h2, Bool.true_and] at q
    rw [if_pos rfl, isN_eq]
    refine ⟨_, rfl, ?_⟩
    unfold gripD at q
    cases h3 : isNon y2
    · rw [h3, Bool.false_or] at q
      rw [if_neg (by decide), in_tup (fr _ (by simp)) (fine_tup H.fine)]
      exact q
    · rw [h3, Bool.true_or] at q
      rw [if_pos rfl]
      exact q
  · have := (many_ne y0 y1 y2 y3 r').2.2.2
    rw [List.length_cons]
    rw [if_pos (by simpa using this)]
    simpa [putD', three] using q
end
section
variable {n : Nat} (D_begins_with_word : Has P w K mg base 1 "begins_with_word" ["thing"] (spA K (aTells startsW)))
  (D_is_put : Has P w K mg base (n + 6) "is_put" ["thing", "cells", "handles"] (spA K (aBelow aPut n)))
  (D_is_test : Has P w K mg base (n + 4) "is_test" ["thing", "cells", "has_input"] (spA K (aBelow (fun n => aIsE (fun cs inp => testD cs inp n) n) n)))
  (D_is_body : Has P w K mg base (n + 6) "is_body" ["thing", "cells", "handles"] (spA K (aBelow (fun n => aIsS (fun cs hs => bodyD cs hs n) n) n)))
include D_begins_with_word D_is_put D_is_test D_is_body in
theorem ok_is_statement {f : Addr} {fd : FuncData} (F : Fun K "is_statement" "is_statement" s_is_statement f fd) (z_len : mg "len" = none) :
    FnG P w K mg base CX0 (n + 7) f fd ["thing", "cells", "handles"] (spA K (aIsS (fun cs hs => stmtD cs hs n) n)) := by
  have nd := sc_is_statement.nd
  refine okA (k := n + 6) F sc_is_statement (fun ds M Q h => by obtain ⟨d, _, _, rfl, _⟩ := h; rfl) (fun cv A' out t G Z hr hq => (ass_cons (as_if (at_not (at_val (ae_c D_begins_with_word (hr.mono (by omega)) hq (aa_cons (av 0) aa_nil)))) (ass_one (as_ret ae_bl)) ass_nil)
      (ass_cons (as_set (i := 3) nd rfl (Or.inl rfl) (ae_ix hr.u1 (av 0) ae_int (fun _ _ => rfl)))
      (ass_cons (as_if (at_cmp (eqDK K hr.units) s_eq (av 3) ae_str (nomark _)) (ass_one (as_ret (ae_c D_is_put (hr.mono (by omega)) hq (aa_cons (av 0) (aa_cons (av 1) (aa_cons (av 2) aa_nil)))))) ass_nil)
      (ass_cons (as_if (at_cmp (eqDK K hr.units) s_eq (av 3) ae_str (nomark _)) (ass_one (as_ret (ae_and (ae_cmp (eqDK K hr.units) s_eq (ae_callB (c_len K) s_len z_len (by decide +kernel) (aa_cons (av 0) aa_nil)) ae_int (nomark _)) (ae_and (ae_c D_is_test (hr.mono (by omega)) hq (aa_cons (ae_ix hr.u1 (av 0) ae_int (fun _ _ => rfl)) (aa_cons (av 1) (aa_cons ae_bl aa_nil)))) (ae_and (ae_c D_is_body (hr.mono (by omega)) hq (aa_cons (ae_ix hr.u1 (av 0) ae_int (fun _ _ => rfl)) (aa_cons (av 1) (aa_cons (av 2) aa_nil)))) (ae_one (ae_c D_is_body (hr.mono (by omega)) hq (aa_cons (ae_ix hr.u1 (av 0) ae_int (fun _ _ => rfl)) (aa_cons (av 1) (aa_cons (av 2) aa_nil)))))))))) ass_nil)
      (ass_one (as_ret (ae_and (ae_cmp (eqDK K hr.units) s_eq (av 3) ae_str (nomark _)) (ae_and (ae_cmp (eqDK K hr.units) s_eq (ae_callB (c_len K) s_len z_len (by decide +kernel) (aa_cons (av 0) aa_nil)) ae_int (nomark _)) (ae_one (ae_cmp (op_inA K hr.u65) (s_in false) (ae_ix hr.u1 (av 0) ae_int (fun _ _ => rfl)) (av 2) rfl))))))))))) (fun ds M Q h => ?_)
  obtain ⟨d, cs, hs, rfl, hf, H, hdep, q⟩ := h
  have q : Q (.bl (stmtD cs hs n d)) M := q
  simp only [aSeq, aAsg, aGName, aGTup, aGCons, aGNil, unTup, aVar, aC, aOp, aUn, aTest, aChain, aAnd, aOr, aNot, aIf, aAndT, aOrT, aNotT, aNil, aCons, aTup, aLst, aLstM, aDictM, aCB, aLc, aLc2, aDc, aFld, aFldSet, aMeth, aMethK, aMake, aMakeM, aPairs, aDisp, aRev, aRevM, aPutAt, aAugI, aFor, aWhile, aSeqW, aRng1, aRng2, aEnum, aNext, aNever, aBreak, aCont, aDrop, aRet, aRetN, aIfS, aPar, aCall, aYes, startA, endsA, aI, aU, aBM, aBM0, aTx, aSl, aNoPart, aPart, List.map_cons, List.map_nil, List.length_cons, List.length_nil, List.replicate_succ, List.replicate_zero, List.cons_append, List.nil_append, List.append_nil, List.set_cons_zero, List.set_cons_succ, List.getElem?_cons_zero, List.getElem?_cons_succ, Option.some.injEq, exists_eq_left', D.int.injEq, D.str.injEq, D.bl.injEq, D.ref.injEq, D.tup.injEq, D.lst.injEq, List.cons.injEq, and_true, true_and, exists_and_left, exists_eq_left, exists_eq, and_assoc, Nat.reduceAdd, Nat.reduceSub, Nat.zero_add, exists_and_right, exists_const, if_true, if_false, Bool.not_true, Bool.not_false, Bool.false_eq_true, wipeA, N_is_statement]
  simp only [aTells, List.cons.injEq, and_true, exists_eq_left', exists_eq_left, D.bl.injEq]
  refine ⟨hf, ?_⟩
  cases hw : startsW d
  · have := stmtD_no (cs := cs) (hs := hs) (n := n) hw
    rw [this] at q
    simpa using q
  · obtain ⟨x, r, rfl⟩ := startsW_is hw
    obtain ⟨m, rfl⟩ := depth_pos hdep
    have fx := fine_tup hf (.str x) (by simp)
    have fr : ∀ y ∈ r, Fine y := fun y hy => fine_tup hf y (List.mem_cons_of_mem _ hy)
    have dr : ∀ y ∈ r, (py y).depth ≤ m := fun y hy => depth_tup hdep y (List.mem_cons_of_mem _ hy)
    simp only [Bool.not_true, Bool.false_eq_true, if_false, ix_t0, aEq_f fx (fine_str (x := Str.ofString "put") (by decide +kernel) (by decide +kernel)), aEq_f fx (fine_str (x := Str.ofString "if") (by decide +kernel) (by decide +kernel)),
      aEq_f fx (fine_str (x := Str.ofString "release") (by decide +kernel) (by decide +kernel)), eqD_ss, D.bl.injEq, exists_eq_left', decide_eq_true_eq, len_tup, aEq_f fine_int fine_int, eqD_ii, aBelow, aIsE, aIsS]
    rw [stmtD_tup] at q
    by_cases h1 : x = "put"
    · rw [if_pos h1] at q
      rw [if_pos h1]
      exact ⟨_, _, _, _, rfl, hf, H, dr, q⟩
    rw [if_neg h1] at q
    rw [if_neg h1]
    by_cases h2 : x = "if"
    · rw [if_pos h2] at q
      rw [if_pos h2]
      rcases r with _ | ⟨y0, _ | ⟨y1, _ | ⟨y2, _ | ⟨y3, r'⟩⟩⟩⟩
      · simpa [three] using q
      · simpa [three] using q
      · simpa [three] using q
      · rw [if_pos (by simp)]
        simp only [ix_t1, ix_t2, ix_t3, three] at q ⊢
        refine ⟨_, _, _, rfl, fr _ (by simp), dr _ (by simp), ?_⟩
        cases ha : testD cs true m y0 <;> simp only [ha, Bool.false_and, Bool.true_and, Bool.false_eq_true, if_false, if_true] at q ⊢
        · exact q
        refine ⟨_, _, _, rfl, fr _ (by simp), H, dr _ (by simp), ?_⟩
        cases hb : bodyD cs hs m y1 <;> simp only [hb, Bool.false_and, Bool.true_and, Bool.false_eq_true, if_false, if_true] at q ⊢
        · exact q
        exact ⟨_, _, _, rfl, fr _ (by simp), H, dr _ (by simp), q⟩
      · have := (many_ne y0 y1 y2 y3 r').2.2.2
        rw [List.length_cons, if_neg this]
        simpa [three] using q
    rw [if_neg h2] at q
    rw [if_neg h2]
    by_cases h3 : x = "release"
    · rw [decide_eq_true h3, Bool.true_and] at q
      rw [if_pos h3]
      rcases r with _ | ⟨y0, _ | ⟨y1, _ | ⟨y2, _ | ⟨y3, r'⟩⟩⟩⟩
      · simpa [one] using q
      · rw [if_pos (by simp)]
        simp only [ix_t1]
        rw [in_tup (fr _ (by simp)) (fine_tup H.fine)]
        exact q
      · simpa [one] using q
      · simpa [one] using q
      · have := (many_ne y0 y1 y2 y3 r').1
        rw [List.length_cons, if_neg this]
        simpa [one] using q
    · rw [decide_eq_false h3, Bool.false_and] at q
      simpa [h3] using q
end
section
variable {n : Nat}
  (D_is_statement : Has P w K mg base (n + 6) "is_statement" ["thing", "cells", "handles"] (spA K (aBelow (fun n => aIsS (fun cs hs => stmtD cs hs n) n) n)))
include D_is_statement in
theorem ok_is_body {f : Addr} {fd : FuncData} (F : Fun K "is_body" "is_body" s_is_body f fd) (z_isinstance : mg "isinstance" = none) (z_tuple : mg "tuple" = none) (z_all : mg "all" = none) :
    FnG P w K mg base CX0 (n + 7) f fd ["thing", "cells", "handles"] (spA K (aIsS (fun cs hs => bodyD cs hs n) n)) := by
  have nd := sc_is_body.nd
  refine okA (k := n + 6) F sc_is_body (fun ds M Q h => by obtain ⟨d, _, _, rfl, _⟩ := h; rfl) (fun cv A' out t G Z hr hq => (ass_one (as_ret (ae_and (ae_callB (isiK K) s_isi z_isinstance (by decide +kernel) (aa_cons (av 0) (aa_cons (ae_ty (n := "tuple") z_tuple (by decide +kernel)) aa_nil))) (ae_one (ae_callB (c_all K rfl) s_all z_all (by decide +kernel) (aa_cons (ae_lc (own := [("part", 3)]) rfl nd (ai_seq (av 0)) (blkOk_by (own := [("part", 3)]) (N := N_is_body) (sc := defScope s_is_body) (by decide +kernel)) (fun _ _ _ _ _ => (pg_name (i := 3) nd rfl (by first | exact Or.inl rfl | exact Or.inr rfl))) (go_name 3) (by decide) (fun _ _ _ _ _ => ats_nil) (fun _ _ _ _ _ => (ae_c D_is_statement (hr.mono (by omega)) hq (aa_cons (av 3) (aa_cons (av 1) (aa_cons (av 2) aa_nil)))))) aa_nil))))))) (fun ds M Q h => ?_)
  obtain ⟨d, cs, hs, rfl, hf, H, hdep, q⟩ := h
  have q : Q (.bl (bodyD cs hs n d)) M := q
  simp only [aSeq, aAsg, aGName, aGTup, aGCons, aGNil, unTup, aVar, aC, aOp, aUn, aTest, aChain, aAnd, aOr, aNot, aIf, aAndT, aOrT, aNotT, aNil, aCons, aTup, aLst, aLstM, aDictM, aCB, aLc, aLc2, aDc, aFld, aFldSet, aMeth, aMethK, aMake, aMakeM, aPairs, aDisp, aRev, aRevM, aPutAt, aAugI, aFor, aWhile, aSeqW, aRng1, aRng2, aEnum, aNext, aNever, aBreak, aCont, aDrop, aRet, aRetN, aIfS, aPar, aCall, aYes, startA, endsA, aI, aU, aBM, aBM0, aTx, aSl, aNoPart, aPart, List.map_cons, List.map_nil, List.length_cons, List.length_nil, List.replicate_succ, List.replicate_zero, List.cons_append, List.nil_append, List.append_nil, List.set_cons_zero, List.set_cons_succ, List.getElem?_cons_zero, List.getElem?_cons_succ, Option.some.injEq, exists_eq_left', D.int.injEq, D.str.injEq, D.bl.injEq, D.ref.injEq, D.tup.injEq, D.lst.injEq, List.cons.injEq, and_true, true_and, exists_and_left, exists_eq_left, exists_eq, and_assoc, Nat.reduceAdd, Nat.reduceSub, Nat.zero_add, exists_and_right, exists_const, if_true, if_false, Bool.not_true, Bool.not_false, Bool.false_eq_true, wipeA, N_is_body]
  simp only [isi_f hf (.inr (.inr (.inr (.inl rfl)))), D.bl.injEq, exists_eq_left']
  cases d with
  | tup ds =>
    obtain ⟨m, rfl⟩ := depth_pos hdep
    rw [bodyD_tup] at q
    simp only [isTyB, decide_true, if_true]
    refine ⟨_, rfl, lc_map (fun d => .bl (stmtD cs hs m d)) trivial hf.len (fun d hd P R hP => ?_) ?_⟩
    · simp only [aSeq, aAsg, aGName, aGTup, aGCons, aGNil, unTup, aVar, aC, aOp, aUn, aTest, aChain, aAnd, aOr, aNot, aIf, aAndT, aOrT, aNotT, aNil, aCons, aTup, aLst, aLstM, aDictM, aCB, aLc, aLc2, aDc, aFld, aFldSet, aMeth, aMethK, aMake, aMakeM, aPairs, aDisp, aRev, aRevM, aPutAt, aAugI, aFor, aWhile, aSeqW, aRng1, aRng2, aEnum, aNext, aNever, aBreak, aCont, aDrop, aRet, aRetN, aIfS, aPar, aCall, aYes, startA, endsA, aI, aU, aBM, aBM0, aTx, aSl, aNoPart, aPart, List.map_cons, List.map_nil, List.length_cons, List.length_nil, List.replicate_succ, List.replicate_zero, List.cons_append, List.nil_append, List.append_nil, List.set_cons_zero, List.set_cons_succ, List.getElem?_cons_zero, List.getElem?_cons_succ, Option.some.injEq, exists_eq_left', D.int.injEq, D.str.injEq, D.bl.injEq, D.ref.injEq, D.tup.injEq, D.lst.injEq, List.cons.injEq, and_true, true_and, exists_and_left, exists_eq_left, exists_eq, and_assoc, Nat.reduceAdd, Nat.reduceSub, Nat.zero_add, exists_and_right, exists_const, if_true, if_false, Bool.not_true, Bool.not_false, Bool.false_eq_true, wipeA]
      exact ⟨_, _, _, rfl, fine_tup hf d hd, H, depth_tup hdep d hd, hP⟩
    · refine ⟨_, _, _, rfl, rfl, bools_map _ _, ?_⟩
      rw [List.all_map]
      exact q
  | _ =>
    have : ∀ e, bodyD cs hs n e = false ∨ ∃ ds, e = .tup ds := fun e => by cases n <;> cases e <;> first | exact .inl rfl | exact .inr ⟨_, rfl⟩
    simp only [isTyB, decide_false, Bool.false_eq_true, if_false, reduceCtorEq, String.reduceEq]
    rcases this _ with h | ⟨_, h⟩
    · rw [h] at q
      simpa [isTyB] using q
    · cases h
end
def promiseD (cs : Cells) (n : Nat) : D → Bool
  | .tup [t, .tup es] => testD cs false n t && es.all (exprD cs false n)
  | _ => false
section
variable {n : Nat} (D_is_pair : Has P w K mg base 1 "is_pair" ["thing"] (spA K (aTells isPair)))
  (D_is_expression : Has P w K mg base (n + 4) "is_expression" ["thing", "cells", "has_input"] (spA K (aIsE (fun cs inp => exprD cs inp n) n)))
  (D_is_test : Has P w K mg base (n + 4) "is_test" ["thing", "cells", "has_input"] (spA K (aIsE (fun cs inp => testD cs inp n) n)))
include D_is_pair D_is_expression D_is_test in
theorem ok_is_promise {f : Addr} {fd : FuncData} (F : Fun K "is_promise" "is_promise" s_is_promise f fd) (z_isinstance : mg "isinstance" = none) (z_tuple : mg "tuple" = none) (z_all : mg "all" = none) :
    FnG P w K mg base CX0 (n + 5) f fd ["thing", "cells"] (spA K fun ds M Q => ∃ d cs, ds = [d, .dT cs] ∧ Fine d ∧ (py d).depth ≤ n ∧ Q (.bl (promiseD cs n d)) M) := by
  have nd := sc_is_promise.nd
  refine okA (k := n + 4) F sc_is_promise (fun ds M Q h => by obtain ⟨d, _, rfl, _⟩ := h; rfl) (fun cv A' out t G Z hr hq => (ass_cons (as_if (at_not (PW.pt (aw_and (at_val (ae_c D_is_pair (hr.mono (by omega)) hq (aa_cons (av 0) aa_nil))) (aw_and (at_val (ae_c D_is_test (hr.mono (by omega)) hq (aa_cons (ae_ix hr.u1 (av 0) ae_int (fun _ _ => rfl)) (aa_cons (av 1) (aa_cons ae_bl aa_nil))))) (aw_and1 (at_val (ae_callB (isiK K) s_isi z_isinstance (by decide +kernel) (aa_cons (ae_ix hr.u1 (av 0) ae_int (fun _ _ => rfl)) (aa_cons (ae_ty (n := "tuple") z_tuple (by decide +kernel)) aa_nil))))))))) (ass_one (as_ret ae_bl)) ass_nil)
      (ass_one (as_ret (ae_callB (c_all K rfl) s_all z_all (by decide +kernel) (aa_cons (ae_lc (own := [("part", 2)]) rfl nd (ai_seq (ae_ix hr.u1 (av 0) ae_int (fun _ _ => rfl))) (blkOk_by (own := [("part", 2)]) (N := N_is_promise) (sc := defScope s_is_promise) (by decide +kernel)) (fun _ _ _ _ _ => (pg_name (i := 2) nd rfl (by first | exact Or.inl rfl | exact Or.inr rfl))) (go_name 2) (by decide) (fun _ _ _ _ _ => ats_nil) (fun _ _ _ _ _ => (ae_c D_is_expression (hr.mono (by omega)) hq (aa_cons (av 2) (aa_cons (av 1) (aa_cons ae_bl aa_nil)))))) aa_nil)))))) (fun ds M Q h => ?_)
  obtain ⟨d, cs, rfl, hf, hdep, q⟩ := h
  simp only [aSeq, aAsg, aGName, aGTup, aGCons, aGNil, unTup, aVar, aC, aOp, aUn, aTest, aChain, aAnd, aOr, aNot, aIf, aAndT, aOrT, aNotT, aNil, aCons, aTup, aLst, aLstM, aDictM, aCB, aLc, aLc2, aDc, aFld, aFldSet, aMeth, aMethK, aMake, aMakeM, aPairs, aDisp, aRev, aRevM, aPutAt, aAugI, aFor, aWhile, aSeqW, aRng1, aRng2, aEnum, aNext, aNever, aBreak, aCont, aDrop, aRet, aRetN, aIfS, aPar, aCall, aYes, startA, endsA, aI, aU, aBM, aBM0, aTx, aSl, aNoPart, aPart, List.map_cons, List.map_nil, List.length_cons, List.length_nil, List.replicate_succ, List.replicate_zero, List.cons_append, List.nil_append, List.append_nil, List.set_cons_zero, List.set_cons_succ, List.getElem?_cons_zero, List.getElem?_cons_succ, Option.some.injEq, exists_eq_left', D.int.injEq, D.str.injEq, D.bl.injEq, D.ref.injEq, D.tup.injEq, D.lst.injEq, List.cons.injEq, and_true, true_and, exists_and_left, exists_eq_left, exists_eq, and_assoc, Nat.reduceAdd, Nat.reduceSub, Nat.zero_add, exists_and_right, exists_const, if_true, if_false, Bool.not_true, Bool.not_false, Bool.false_eq_true, wipeA, N_is_promise]
  simp only [aTells, List.cons.injEq, and_true, exists_eq_left', exists_eq_left, D.bl.injEq]
  refine ⟨hf, ?_⟩
  cases hp : isPair d
  · have : promiseD cs n d = false := by
      cases d <;> first | rfl | skip
      rename_i ps
      rcases ps with _ | ⟨a, _ | ⟨b, _ | ⟨c, r⟩⟩⟩ <;> first | rfl | (cases b <;> rfl) | cases hp
    rw [this] at q
    simpa using q
  obtain ⟨a, b, rfl⟩ : ∃ a b, d = .tup [a, b] := by
    cases d <;> first | cases hp | skip
    rename_i ps
    rcases ps with _ | ⟨a, _ | ⟨b, _ | ⟨c, r⟩⟩⟩ <;> first | exact ⟨_, _, rfl⟩ | cases hp
  have fa := fine_tup hf a (by simp)
  have fb := fine_tup hf b (by simp)
  obtain ⟨m, rfl⟩ := depth_pos hdep
  have da := depth_tup hdep a (by simp)
  have db := depth_tup hdep b (by simp)
  simp only [if_true, ix_t0, ix_t1, aIsE]
  refine ⟨_, _, _, rfl, fa, by omega, _, rfl, ?_⟩
  cases ht : testD cs false (m + 1) a
  · have : promiseD cs (m + 1) (.tup [a, b]) = false := by cases b <;> first | rfl | (simp [promiseD, ht])
    rw [this] at q
    simpa using q
  rw [if_pos rfl, isi_f fb (.inr (.inr (.inr (.inl rfl))))]
  refine ⟨_, rfl, ?_⟩
  cases b with
  | tup es =>
    simp only [isTyB, decide_true, Bool.not_true, Bool.false_eq_true, if_false]
    have q : Q (.bl (testD cs false (m + 1) a && es.all (exprD cs false (m + 1)))) M := q
    rw [ht, Bool.true_and] at q
    refine ⟨_, rfl, lc_map (fun d => .bl (exprD cs false (m + 1) d)) trivial fb.len (fun d hd P R hP => ?_) ?_⟩
    · simp only [aSeq, aAsg, aGName, aGTup, aGCons, aGNil, unTup, aVar, aC, aOp, aUn, aTest, aChain, aAnd, aOr, aNot, aIf, aAndT, aOrT, aNotT, aNil, aCons, aTup, aLst, aLstM, aDictM, aCB, aLc, aLc2, aDc, aFld, aFldSet, aMeth, aMethK, aMake, aMakeM, aPairs, aDisp, aRev, aRevM, aPutAt, aAugI, aFor, aWhile, aSeqW, aRng1, aRng2, aEnum, aNext, aNever, aBreak, aCont, aDrop, aRet, aRetN, aIfS, aPar, aCall, aYes, startA, endsA, aI, aU, aBM, aBM0, aTx, aSl, aNoPart, aPart, List.map_cons, List.map_nil, List.length_cons, List.length_nil, List.replicate_succ, List.replicate_zero, List.cons_append, List.nil_append, List.append_nil, List.set_cons_zero, List.set_cons_succ, List.getElem?_cons_zero, List.getElem?_cons_succ, Option.some.injEq, exists_eq_left', D.int.injEq, D.str.injEq, D.bl.injEq, D.ref.injEq, D.tup.injEq, D.lst.injEq, List.cons.injEq, and_true, true_and, exists_and_left, exists_eq_left, exists_eq, and_assoc, Nat.reduceAdd, Nat.reduceSub, Nat.zero_add, exists_and_right, exists_const, if_true, if_false, Bool.not_true, Bool.not_false, Bool.false_eq_true, wipeA]
      refine ⟨_, _, _, rfl, fine_tup fb d hd, ?_, hP⟩
      have hd : d ∈ es := hd
      have h1 := depth_mem hd
      simp only [py, PyData.depth] at db
      omega
    · refine ⟨_, _, _, rfl, rfl, bools_map _ _, ?_⟩
      rw [List.all_map]
      exact q
  | _ => simpa [isTyB, promiseD] using q
end
end
end E60
/-! Expressions and tests as data: what they are made of, how long they are when told. -/
namespace M60
open PySem PySem.Spec L2 Lay M02 LD
abbrev T (x : String) : PyData := .str (Str.ofString x)
def cellD (c : Int × Int) : PyData := .tuple [.int c.1, .int c.2]
def ops : List Str := [Str.ofString "plus", Str.ofString "minus", Str.ofString "times"]
def cmps : List Str := [Str.ofString "less", Str.ofString "same"]
mutual
/-- an expression on these cells, with or without the input, so many levels deep at most -/
inductive Ex (cs : List (Int × Int)) (inp : Bool) : Nat → PyData → Prop
  | num (n : Nat) {i : Int} : 0 ≤ i → i ≤ 20 → Ex cs inp n (.int i)
  | cell (n : Nat) {c : Int × Int} : c ∈ cs → Ex cs inp n (.tuple [T "cell", cellD c])
  | input (n : Nat) : inp = true → Ex cs inp n (.tuple [T "input"])
  | op {n : Nat} {x : Str} {a b : PyData} : x ∈ ops → Ex cs inp n a → Ex cs inp n b → Ex cs inp (n + 1) (.tuple [.str x, a, b])
  | pick {n : Nat} {t a b : PyData} : Te cs inp n t → Ex cs inp n a → Ex cs inp n b → Ex cs inp (n + 1) (.tuple [T "pick", t, a, b])
/-- a test -/
inductive Te (cs : List (Int × Int)) (inp : Bool) : Nat → PyData → Prop
  | cmp {n : Nat} {x : Str} {a b : PyData} : x ∈ cmps → Ex cs inp n a → Ex cs inp n b → Te cs inp (n + 1) (.tuple [.str x, a, b])
  | neg {n : Nat} {t : PyData} : Te cs inp n t → Te cs inp (n + 1) (.tuple [T "not", t])
  | both {n : Nat} {t u : PyData} : Te cs inp n t → Te cs inp n u → Te cs inp (n + 1) (.tuple [T "and", t, u])
end
/-- a put: its writes, what it stands behind, its handle -/
def putD (ws : List ((Int × Int) × PyData)) (as : List Str) (h : PyData) : PyData := .tuple [T "put", .tuple (ws.map fun w => .tuple [cellD w.1, w.2]), .tuple (as.map .str), h]
structure Put (cs : List (Int × Int)) (gs : List Str) (ws : List ((Int × Int) × PyData)) (as : List Str) (h : PyData) : Prop where
  ne : ws ≠ []
  few : ws.length ≤ 3
  up : (ws.map (·.1)).Pairwise fun a b => a.1 < b.1 ∨ (a.1 = b.1 ∧ a.2 < b.2)
  one : ∃ a, ∀ w ∈ ws, w.1.1 = a
  ok : ∀ w ∈ ws, w.1 ∈ cs ∧ Ex cs true 3 w.2
  sub : as.Sublist gs
  handle : h = .none ∨ ∃ g ∈ gs, h = .str g
/-- a statement -/
inductive St (cs : List (Int × Int)) (gs : List Str) : Nat → PyData → Prop
  | put (n : Nat) {ws : List ((Int × Int) × PyData)} {as : List Str} {h : PyData} : Put cs gs ws as h → St cs gs n (putD ws as h)
  | ifs {n : Nat} {t : PyData} {a b : List PyData} : Te cs true 3 t → a.length ≤ 1 → b.length ≤ 1 → (∀ s ∈ a, St cs gs n s) → (∀ s ∈ b, St cs gs n s) → St cs gs (n + 1) (.tuple [T "if", t, .tuple a, .tuple b])
  | rel (n : Nat) {g : Str} : g ∈ gs → St cs gs n (.tuple [T "release", .str g])
section
variable {cs : List (Int × Int)} {inp : Bool}
theorem more_both : ∀ n : Nat, (∀ d, Ex cs inp n d → Ex cs inp (n + 1) d) ∧ (∀ d, Te cs inp n d → Te cs inp (n + 1) d) := by
  intro n
  induction n with
  | zero =>
    refine ⟨fun d h => ?_, fun d h => ?_⟩
    · cases h with
      | num _ h0 h1 => exact .num _ h0 h1
      | cell _ h => exact .cell _ h
      | input _ h => exact .input _ h
    · cases h
  | succ n ih =>
    refine ⟨fun d h => ?_, fun d h => ?_⟩
    · cases h with
      | num _ h0 h1 => exact .num _ h0 h1
      | cell _ h => exact .cell _ h
      | input _ h => exact .input _ h
      | op h a b => exact .op h (ih.1 _ a) (ih.1 _ b)
      | pick t a b => exact .pick (ih.2 _ t) (ih.1 _ a) (ih.1 _ b)
    · cases h with
      | cmp h a b => exact .cmp h (ih.1 _ a) (ih.1 _ b)
      | neg t => exact .neg (ih.2 _ t)
      | both t u => exact .both (ih.2 _ t) (ih.2 _ u)
theorem Ex.mono {n m : Nat} (h : n ≤ m) {d : PyData} (e : Ex cs inp n d) : Ex cs inp m d := by
  induction h with
  | refl => exact e
  | step _ ih => exact (more_both _).1 _ ih
theorem Te.mono {n m : Nat} (h : n ≤ m) {d : PyData} (e : Te cs inp n d) : Te cs inp m d := by
  induction h with
  | refl => exact e
  | step _ ih => exact (more_both _).2 _ ih
/-- what a text of the language is: short, plain -/
def word (x : Str) : Bool := decide (x.length ≤ 6) && x.cps.toList.all fun c => decide (c < 128)
theorem ops_word : ∀ x ∈ ops, word x = true := by decide +kernel
theorem cmps_word : ∀ x ∈ cmps, word x = true := by decide +kernel
theorem word_gd {x : Str} (h : word x = true) {B m : Nat} : Gd B 64 m (.str x) := by
  unfold word at h
  rw [Bool.and_eq_true, decide_eq_true_eq] at h
  exact ⟨by simpa only [fine] using h.2, by simp only [wt]; omega, by simp [PyData.depth]⟩
/-- the sizes of a tuple's parts make its own -/
theorem tup_gd {B m : Nat} : ∀ {ds : List PyData} {W : Nat}, (∀ d ∈ ds, fine B d = true ∧ d.depth ≤ m) → wtAll ds + 4 ≤ W → Gd B W (m + 1) (.tuple ds) := by
  intro ds W h hw
  refine ⟨by simp only [fine]; exact (fineAll_iff B ds).mpr fun d hd => (h d hd).1, by simp only [wt]; omega, ?_⟩
  have : PyData.depthAll ds ≤ m := (depthAll_le ds).mpr fun d hd => (h d hd).2
  show PyData.depthAll ds + 1 ≤ m + 1
  omega
theorem gd_all (hc : ∀ c ∈ cs, 0 ≤ c.1 ∧ c.1 ≤ 1000 ∧ 0 ≤ c.2 ∧ c.2 ≤ 1000) : ∀ n : Nat, (∀ d, Ex cs inp n d → Gd 1000 (300 * 4 ^ n) (n + 2) d) ∧ (∀ d, Te cs inp n d → Gd 1000 (300 * 4 ^ n) (n + 2) d) := by
  have leaf : ∀ (n : Nat) (d : PyData), Gd 1000 300 2 d → Gd 1000 (300 * 4 ^ n) (n + 2) d := fun n d g => g.mono (Nat.le_refl _) (by have := Nat.pow_pos (n := n) (show 0 < 4 by decide); omega) (by omega)
  have lnum : ∀ {i : Int}, 0 ≤ i → i ≤ 20 → Gd 1000 300 2 (.int i) := fun {i} h0 h1 => ⟨by simp only [fine]; exact decide_eq_true (by omega), by simp [wt], by simp [PyData.depth]⟩
  have lcell : ∀ {c : Int × Int}, c ∈ cs → Gd 1000 300 2 (.tuple [T "cell", cellD c]) := fun {c} h => by
    have b := hc c h
    have w4 : (Str.ofString "cell").length = 4 := by decide +kernel
    have f4 : (Str.ofString "cell").cps.toList.all (fun c => decide (c < 128)) = true := by decide +kernel
    refine ⟨?_, ?_, ?_⟩
    · simp only [fine, fineAll, cellD, Bool.and_true, f4, Bool.true_and, Bool.and_eq_true, decide_eq_true_eq]
      omega
    · simp only [wt, wtAll, cellD, w4]
      omega
    · simp [PyData.depth, PyData.depthAll, cellD]
  have lin : Gd 1000 300 2 (.tuple [T "input"]) := by
    have w5 : (Str.ofString "input").length = 5 := by decide +kernel
    have f5 : (Str.ofString "input").cps.toList.all (fun c => decide (c < 128)) = true := by decide +kernel
    refine ⟨?_, ?_, ?_⟩
    · simp only [fine, fineAll, f5, Bool.and_true]
    · simp only [wt, wtAll, w5]
      omega
    · simp [PyData.depth, PyData.depthAll]
  have wp : word (Str.ofString "pick") = true ∧ word (Str.ofString "not") = true ∧ word (Str.ofString "and") = true := by decide +kernel
  intro n
  induction n with
  | zero =>
    refine ⟨fun d h => ?_, fun d h => ?_⟩
    · cases h with
      | num _ h0 h1 => exact leaf _ _ (lnum h0 h1)
      | cell _ h => exact leaf _ _ (lcell h)
      | input _ h => exact leaf _ _ lin
    · cases h
  | succ n ih =>
    have p4 : 300 * 4 ^ (n + 1) = 4 * (300 * 4 ^ n) := by rw [Nat.pow_succ]; omega
    have p1 : 300 ≤ 300 * 4 ^ n := by have := Nat.pow_pos (n := n) (show 0 < 4 by decide); omega
    have two : ∀ {x : Str} {a b : PyData}, word x = true → Gd 1000 (300 * 4 ^ n) (n + 2) a → Gd 1000 (300 * 4 ^ n) (n + 2) b → Gd 1000 (300 * 4 ^ (n + 1)) (n + 1 + 2) (.tuple [.str x, a, b]) := fun {x a b} hx ga gb => by
      have gx := word_gd hx (B := 1000) (m := n + 2)
      refine tup_gd (fun d hd => ?_) ?_
      · simp only [List.mem_cons, List.not_mem_nil, or_false] at hd
        rcases hd with rfl | rfl | rfl
        · exact ⟨gx.fi, gx.dp⟩
        · exact ⟨ga.fi, ga.dp⟩
        · exact ⟨gb.fi, gb.dp⟩
      · have h1 := gx.wt
        have h2 := ga.wt
        have h3 := gb.wt
        simp only [wtAll]
        omega
    have three : ∀ {x : Str} {t a b : PyData}, word x = true → Gd 1000 (300 * 4 ^ n) (n + 2) t → Gd 1000 (300 * 4 ^ n) (n + 2) a → Gd 1000 (300 * 4 ^ n) (n + 2) b → Gd 1000 (300 * 4 ^ (n + 1)) (n + 1 + 2) (.tuple [.str x, t, a, b]) := fun {x t a b} hx gt ga gb => by
      have gx := word_gd hx (B := 1000) (m := n + 2)
      refine tup_gd (fun d hd => ?_) ?_
      · simp only [List.mem_cons, List.not_mem_nil, or_false] at hd
        rcases hd with rfl | rfl | rfl | rfl
        · exact ⟨gx.fi, gx.dp⟩
        · exact ⟨gt.fi, gt.dp⟩
        · exact ⟨ga.fi, ga.dp⟩
        · exact ⟨gb.fi, gb.dp⟩
      · have h0 := gt.wt
        have h1 := gx.wt
        have h2 := ga.wt
        have h3 := gb.wt
        simp only [wtAll]
        omega
    have one : ∀ {x : Str} {t : PyData}, word x = true → Gd 1000 (300 * 4 ^ n) (n + 2) t → Gd 1000 (300 * 4 ^ (n + 1)) (n + 1 + 2) (.tuple [.str x, t]) := fun {x t} hx gt => by
      have gx := word_gd hx (B := 1000) (m := n + 2)
      refine tup_gd (fun d hd => ?_) ?_
      · simp only [List.mem_cons, List.not_mem_nil, or_false] at hd
        rcases hd with rfl | rfl
        · exact ⟨gx.fi, gx.dp⟩
        · exact ⟨gt.fi, gt.dp⟩
      · have h0 := gt.wt
        have h1 := gx.wt
        simp only [wtAll]
        omega
    refine ⟨fun d h => ?_, fun d h => ?_⟩
    · cases h with
      | num _ h0 h1 => exact leaf _ _ (lnum h0 h1)
      | cell _ h => exact leaf _ _ (lcell h)
      | input _ h => exact leaf _ _ lin
      | op h a b => exact two (ops_word _ h) (ih.1 _ a) (ih.1 _ b)
      | pick t a b => exact three wp.1 (ih.2 _ t) (ih.1 _ a) (ih.1 _ b)
    · cases h with
      | cmp h a b => exact two (cmps_word _ h) (ih.1 _ a) (ih.1 _ b)
      | neg t => exact one wp.2.1 (ih.2 _ t)
      | both t u => exact two wp.2.2 (ih.2 _ t) (ih.2 _ u)
end
theorem St.more {cs : List (Int × Int)} {gs : List Str} : ∀ {n : Nat} {e : PyData}, St cs gs n e → St cs gs (n + 1) e
  | _, _, .put n h => .put _ h
  | _, _, .ifs t la lb a b => .ifs t la lb (fun s hs => (a s hs).more) (fun s hs => (b s hs).more)
  | _, _, .rel n h => .rel _ h
theorem St.mono {cs : List (Int × Int)} {gs : List Str} {n m : Nat} (h : n ≤ m) {e : PyData} (s : St cs gs n e) : St cs gs m e := by
  induction h with
  | refl => exact s
  | step _ ih => exact St.more ih
/-! ### what an expression is worth, whether a test holds -/
def opI (x : Str) (i j : Int) : Int := if x = Str.ofString "plus" then i + j else if x = Str.ofString "minus" then i - j else i * j
def leaf (env : Int × Int → Int) (g : Int) : PyData → Int
  | .int i => i
  | .tuple [.str _, .tuple [.int a, .int b]] => env (a, b)
  | .tuple [.str _] => g
  | _ => 0
def ev (env : Int × Int → Int) (g : Int) : Nat → PyData → Int × Bool
  | 0, d => (leaf env g d, false)
  | n + 1, .tuple [.str x, a, b] => (opI x (ev env g n a).1 (ev env g n b).1,
      if x = Str.ofString "and" then (ev env g n a).2 && (ev env g n b).2 else if x = Str.ofString "same" then decide ((ev env g n a).1 = (ev env g n b).1) else decide ((ev env g n a).1 < (ev env g n b).1))
  | n + 1, .tuple [.str _, t, a, b] => (if (ev env g n t).2 then (ev env g n a).1 else (ev env g n b).1, false)
  | n + 1, .tuple [.str x, t] => (leaf env g (.tuple [.str x, t]), !(ev env g n t).2)
  | _ + 1, d => (leaf env g d, false)
section
variable {env : Int × Int → Int} {g : Int} {n : Nat}
theorem ev_num (i : Int) : (ev env g n (.int i)).1 = i := by cases n <;> rfl
theorem ev_cell (c : Int × Int) : (ev env g n (.tuple [T "cell", cellD c])).1 = env c := by cases n <;> rfl
theorem ev_input : (ev env g n (.tuple [T "input"])).1 = g := by cases n <;> rfl
theorem ev_op (x : Str) (a b : PyData) : (ev env g (n + 1) (.tuple [.str x, a, b])).1 = opI x (ev env g n a).1 (ev env g n b).1 := rfl
theorem ev_pick (t a b : PyData) : (ev env g (n + 1) (.tuple [T "pick", t, a, b])).1 = if (ev env g n t).2 then (ev env g n a).1 else (ev env g n b).1 := rfl
theorem ev_neg (t : PyData) : (ev env g (n + 1) (.tuple [T "not", t])).2 = !(ev env g n t).2 := rfl
theorem ev_both (t u : PyData) : (ev env g (n + 1) (.tuple [T "and", t, u])).2 = ((ev env g n t).2 && (ev env g n u).2) := by
  show (if Str.ofString "and" = Str.ofString "and" then ((ev env g n t).2 && (ev env g n u).2) else if Str.ofString "and" = Str.ofString "same" then decide ((ev env g n t).1 = (ev env g n u).1) else decide ((ev env g n t).1 < (ev env g n u).1)) = _
  exact if_pos rfl
theorem ev_cmp {x : Str} (h : x ∈ cmps) (a b : PyData) : (ev env g (n + 1) (.tuple [.str x, a, b])).2 = if x = Str.ofString "same" then decide ((ev env g n a).1 = (ev env g n b).1) else decide ((ev env g n a).1 < (ev env g n b).1) := by
  have ne : ∀ y ∈ cmps, y ≠ Str.ofString "and" := by decide +kernel
  exact if_neg (ne x h)
theorem ev_bound {cs : List (Int × Int)} {inp : Bool} (he : ∀ c, (env c).natAbs ≤ 30) (hg : g.natAbs ≤ 30) : ∀ (n : Nat) (d : PyData), Ex cs inp n d → (ev env g n d).1.natAbs ≤ 30 ^ 2 ^ n := by
  intro n
  have up : ∀ m : Nat, 30 ≤ 30 ^ 2 ^ m := fun m => by
    have h : 30 ^ 1 ≤ 30 ^ 2 ^ m := Nat.pow_le_pow_right (by decide) (Nat.one_le_two_pow)
    simpa using h
  induction n with
  | zero =>
    intro d h
    cases h with
    | num _ h0 h1 =>
      rw [ev_num]
      have := up 0
      omega
    | cell _ h =>
      rw [ev_cell]
      exact Nat.le_trans (he _) (up 0)
    | input _ h =>
      rw [ev_input]
      exact Nat.le_trans hg (up 0)
  | succ n ih =>
    intro d h
    have sq : 30 ^ 2 ^ (n + 1) = 30 ^ 2 ^ n * 30 ^ 2 ^ n := by rw [Nat.pow_succ, Nat.mul_comm, Nat.two_mul, Nat.pow_add]
    have u := up n
    have big : 2 * 30 ^ 2 ^ n ≤ 30 ^ 2 ^ n * 30 ^ 2 ^ n := Nat.mul_le_mul_right _ (by omega)
    cases h with
    | num _ h0 h1 =>
      rw [ev_num]
      have := up (n + 1)
      omega
    | cell _ h =>
      rw [ev_cell]
      exact Nat.le_trans (he _) (up (n + 1))
    | input _ h =>
      rw [ev_input]
      exact Nat.le_trans hg (up (n + 1))
    | @op _ x a b hx ha hb =>
      have h1 := ih _ ha
      have h2 := ih _ hb
      rw [ev_op, sq]
      generalize 30 ^ 2 ^ n = B at *
      unfold opI
      split
      · omega
      · split
        · omega
        · rw [Int.natAbs_mul]
          exact Nat.mul_le_mul h1 h2
    | @pick _ t a b ht ha hb =>
      have h1 := ih _ ha
      have h2 := ih _ hb
      rw [ev_pick, sq]
      generalize 30 ^ 2 ^ n = B at *
      split <;> omega
end
end M60
namespace E60
open PySem PySem.Spec PyProof.Rows L2 Lay LA
open M60 (Ex Te ev opI ops cmps T cellD)
section
variable {P : Program} {w : World} {K : PySem.W.Frag} {mg : Str → Option Value} {base : Heap}
def kvC (c : Int × Int) : List Key := [.inl c.1, .inl c.2]
/-- what is looked at: a dict of values, the input -/
structure Vals' (kvs : Cells) (cs : List (Int × Int)) (env : Int × Int → Int) (g : Int) : Prop where
  at_ : ∀ c ∈ cs, valD kvs (kvC c) = some (.int (env c))
  few : ∀ c, (env c).natAbs ≤ 30
  giv : g.natAbs ≤ 30
def aValue (n : Nat) : ASp := fun ds M Q => ∃ e kvs g cs inp env, ds = [ofPy e, .dT kvs, .int g] ∧ Ex cs inp n e ∧ Vals' kvs cs env g ∧ Q (.int (ev env g n e).1) M
def aTruth (n : Nat) : ASp := fun ds M Q => ∃ e kvs g cs inp env, ds = [ofPy e, .dT kvs, .int g] ∧ Te cs inp n e ∧ Vals' kvs cs env g ∧ Q (.bl (ev env g n e).2) M
theorem isi_tup_int {ds : List D} {M : Mem} {Q : D → Mem → Prop} : aIsi [.tup ds, .ty "int"] M Q = Q (.bl false) M := by
  refine propext ⟨fun z => ?_, fun q => ⟨_, _, _, _, rfl, rfl, rfl, q⟩⟩
  obtain ⟨d, T, U, b, e, t, kb, q⟩ := z
  cases e
  cases t
  cases kb
  exact q
theorem isi_int_int {i : Int} {M : Mem} {Q : D → Mem → Prop} : aIsi [.int i, .ty "int"] M Q = Q (.bl true) M := by
  refine propext ⟨fun z => ?_, fun q => ⟨_, _, _, _, rfl, rfl, rfl, q⟩⟩
  obtain ⟨d, T, U, b, e, t, kb, q⟩ := z
  cases e
  cases t
  cases kb
  exact q
def litS (x : Str) : Prop := Fine (.str x)
theorem lit {x : Str} (h : PyData.strOk x = true) (h2 : x.length ≤ 1000000) : Fine (.str x) := fine_str h h2
theorem ops_fine : ∀ x ∈ ops, Fine (.str x) := fun x hx => by
  have : PyData.strOk x = true ∧ x.length ≤ 1000000 := by
    revert x
    decide +kernel
  exact fine_str this.1 this.2
theorem cmps_fine : ∀ x ∈ cmps, Fine (.str x) := fun x hx => by
  have : PyData.strOk x = true ∧ x.length ≤ 1000000 := by
    revert x
    decide +kernel
  exact fine_str this.1 this.2
theorem ops_ne : ∀ x ∈ ops, ¬ x = Str.ofString "cell" ∧ ¬ x = Str.ofString "input" ∧ ¬ x = Str.ofString "pick" := by decide +kernel
theorem cmps_ne : ∀ x ∈ cmps, ¬ x = Str.ofString "not" ∧ ¬ x = Str.ofString "and" := by decide +kernel
theorem cmps_two : ∀ x ∈ cmps, x = Str.ofString "less" ∨ x = Str.ofString "same" := by decide +kernel
theorem small {kvs : Cells} {cs : List (Int × Int)} {inp : Bool} {env : Int × Int → Int} {g : Int} {m : Nat} {z : PyData} (hV : Vals' kvs cs env g) (hm : m ≤ 5) (hz : Ex cs inp m z) : (ev env g m z).1.natAbs.log2 < 200 := by
  have h := M60.ev_bound hV.few hV.giv m z hz
  have big : 30 ^ 2 ^ m < 2 ^ 200 := by
    have h1 : 2 ^ m ≤ 2 ^ 5 := Nat.pow_le_pow_right (by decide) hm
    exact Nat.lt_of_le_of_lt (Nat.pow_le_pow_right (by decide) h1) (by decide +kernel)
  rcases Nat.eq_zero_or_pos (ev env g m z).1.natAbs with e | e
  · rw [e]; decide
  · rw [Nat.log2_lt (by omega)]
    omega
section
variable {n : Nat} (hn : n ≤ 6) (D_value_of : Has P w K mg base n "value_of" ["expression", "values", "number"] (spA K (aBelow aValue n)))
  (D_truth_of : Has P w K mg base n "truth_of" ["test", "values", "number"] (spA K (aBelow aTruth n)))
include hn D_value_of D_truth_of in
theorem ok_value_of {f : Addr} {fd : FuncData} (F : Fun K "value_of" "value_of" s_value_of f fd) (z_isinstance : mg "isinstance" = none) (z_int : mg "int" = none) :
    FnG P w K mg base CX0 (n + 1) f fd ["expression", "values", "number"] (spA K (aValue n)) := by
  have nd := sc_value_of.nd
  refine okA (k := n) F sc_value_of (fun ds M Q h => by obtain ⟨_, _, _, _, _, _, rfl, _⟩ := h; rfl) (fun cv A' out t G Z hr hq => (ass_cons (as_if (at_val (ae_callB (isiK K) s_isi z_isinstance (by decide +kernel) (aa_cons (av 0) (aa_cons (ae_ty (n := "int") z_int (by decide +kernel)) aa_nil)))) (ass_one (as_ret (av 0))) ass_nil)
      (ass_cons (as_set (i := 3) nd rfl (Or.inl rfl) (ae_ix hr.u1 (av 0) ae_int (fun _ _ => rfl)))
      (ass_cons (as_if (at_cmp (eqDK K hr.units) s_eq (av 3) ae_str (nomark _)) (ass_one (as_ret (ae_ix hr.u1 (av 1) (ae_ix hr.u1 (av 0) ae_int (fun _ _ => rfl)) (fun _ _ => rfl)))) ass_nil)
      (ass_cons (as_if (at_cmp (eqDK K hr.units) s_eq (av 3) ae_str (nomark _)) (ass_one (as_ret (av 2))) ass_nil)
      (ass_cons (as_if (at_cmp (eqDK K hr.units) s_eq (av 3) ae_str (nomark _)) (ass_one (as_ret (ae_c D_value_of (hr.mono (by omega)) hq (aa_cons (ae_if (at_val (ae_c D_truth_of (hr.mono (by omega)) hq (aa_cons (ae_ix hr.u1 (av 0) ae_int (fun _ _ => rfl)) (aa_cons (av 1) (aa_cons (av 2) aa_nil))))) (ae_ix hr.u1 (av 0) ae_int (fun _ _ => rfl)) (ae_ix hr.u1 (av 0) ae_int (fun _ _ => rfl))) (aa_cons (av 1) (aa_cons (av 2) aa_nil)))))) ass_nil)
      (ass_cons (as_par (i := 4) (j := 5) (by rfl) nd rfl rfl (by decide) rfl rfl (aa_cons (ae_c D_value_of (hr.mono (by omega)) hq (aa_cons (ae_ix hr.u1 (av 0) ae_int (fun _ _ => rfl)) (aa_cons (av 1) (aa_cons (av 2) aa_nil)))) (aa_cons (ae_c D_value_of (hr.mono (by omega)) hq (aa_cons (ae_ix hr.u1 (av 0) ae_int (fun _ _ => rfl)) (aa_cons (av 1) (aa_cons (av 2) aa_nil)))) aa_nil)) (by rfl))
      (ass_cons (as_if (at_cmp (eqDK K hr.units) s_eq (av 3) ae_str (nomark _)) (ass_one (as_ret (ae_op (op_addA K) s_add (av 4) (av 5)))) ass_nil)
      (ass_one (as_ret (ae_if (at_cmp (eqDK K hr.units) s_eq (av 3) ae_str (nomark _)) (ae_op op_sub s_I0 (av 4) (av 5)) (ae_op op_mulW s_I (av 4) (av 5))))))))))))) (fun ds M Q h => ?_)
  obtain ⟨e, kvs, g, cs, inp, env, rfl, hx, hV, q⟩ := h
  simp only [aSeq, aAsg, aGName, aGTup, aGCons, aGNil, unTup, aVar, aC, aOp, aUn, aTest, aChain, aAnd, aOr, aNot, aIf, aAndT, aOrT, aNotT, aNil, aCons, aTup, aLst, aLstM, aDictM, aCB, aLc, aLc2, aDc, aFld, aFldSet, aMeth, aMethK, aMake, aMakeM, aPairs, aDisp, aRev, aRevM, aPutAt, aAugI, aFor, aWhile, aSeqW, aRng1, aRng2, aEnum, aNext, aNever, aBreak, aCont, aDrop, aRet, aRetN, aIfS, aPar, aCall, aYes, startA, endsA, aI, aU, aBM, aBM0, aTx, aSl, aNoPart, aPart, List.map_cons, List.map_nil, List.length_cons, List.length_nil, List.replicate_succ, List.replicate_zero, List.cons_append, List.nil_append, List.append_nil, List.set_cons_zero, List.set_cons_succ, List.getElem?_cons_zero, List.getElem?_cons_succ, Option.some.injEq, exists_eq_left', D.int.injEq, D.str.injEq, D.bl.injEq, D.ref.injEq, D.tup.injEq, D.lst.injEq, List.cons.injEq, and_true, true_and, exists_and_left, exists_eq_left, exists_eq, and_assoc, Nat.reduceAdd, Nat.reduceSub, Nat.zero_add, exists_and_right, exists_const, if_true, if_false, Bool.not_true, Bool.not_false, Bool.false_eq_true, wipeA, N_value_of]
  have wc : Fine (.str (Str.ofString "cell")) := fine_str (by decide +kernel) (by decide +kernel)
  have wi : Fine (.str (Str.ofString "input")) := fine_str (by decide +kernel) (by decide +kernel)
  have wp : Fine (.str (Str.ofString "pick")) := fine_str (by decide +kernel) (by decide +kernel)
  have ww : Fine (.str (Str.ofString "plus")) := fine_str (by decide +kernel) (by decide +kernel)
  have wm : Fine (.str (Str.ofString "minus")) := fine_str (by decide +kernel) (by decide +kernel)
  cases hx with
  | num _ i0 i1 =>
    simp only [ofPy, isi_int_int, D.bl.injEq, exists_eq_left', if_true]
    rw [M60.ev_num] at q
    exact q
  | cell _ hc =>
    rw [M60.ev_cell] at q
    simp only [ofPy, ofPyL, T, cellD, isi_tup_int, D.bl.injEq, exists_eq_left', Bool.false_eq_true, if_false, ix_t0, ix_t1, aEq_f wc wc, eqD_ss, decide_true, if_true]
    exact ⟨_, hV.at_ _ hc, q⟩
  | input _ hi =>
    rw [M60.ev_input] at q
    have ne : (Str.ofString "input" = Str.ofString "cell") = False := by simp only [eq_iff_iff, iff_false]; decide +kernel
    simp only [ofPy, ofPyL, T, isi_tup_int, D.bl.injEq, exists_eq_left', Bool.false_eq_true, if_false, ix_t0, aEq_f wi wc, aEq_f wi wi, eqD_ss, decide_true, if_true, ne, decide_false]
    exact q
  | @op m x ea eb hw hxa hxb =>
    have fx := ops_fine x hw
    have nw : (x = Str.ofString "cell") = False ∧ (x = Str.ofString "input") = False ∧ (x = Str.ofString "pick") = False := by
      simp only [eq_iff_iff, iff_false]
      exact ops_ne x hw
    simp only [ofPy, ofPyL, isi_tup_int, D.bl.injEq, exists_eq_left', Bool.false_eq_true, if_false, ix_t0, ix_t1, ix_t2, aEq_f fx wc, aEq_f fx wi, aEq_f fx wp, aEq_f fx ww, aEq_f fx wm, eqD_ss, nw.1, nw.2.1, nw.2.2, decide_false, decide_eq_true_eq]
    rw [M60.ev_op] at q
    refine ⟨ea, kvs, g, cs, inp, env, rfl, hxa, hV, eb, kvs, g, cs, inp, env, rfl, hxb, hV, ?_⟩
    have b1 := small hV (by omega) hxa
    have b2 := small hV (by omega) hxb
    generalize (ev env g m ea).1 = i at b1 q
    generalize (ev env g m eb).1 = j at b2 q
    unfold M60.opI at q
    dsimp only
    by_cases h1 : x = Str.ofString "plus"
    · rw [if_pos h1] at q ⊢
      exact q
    rw [if_neg h1] at q ⊢
    by_cases h2 : x = Str.ofString "minus"
    · rw [if_pos h2] at q ⊢
      exact ⟨_, rfl, _, rfl, q⟩
    rw [if_neg h2] at q ⊢
    refine ⟨_, rfl, _, rfl, ?_, q⟩
    show _ + _ < _
    omega
  | @pick m t a b ht ha hb =>
    have ne : (Str.ofString "pick" = Str.ofString "cell") = False ∧ (Str.ofString "pick" = Str.ofString "input") = False := by
      simp only [eq_iff_iff, iff_false]
      decide +kernel
    simp only [ofPy, ofPyL, T, isi_tup_int, D.bl.injEq, exists_eq_left', Bool.false_eq_true, if_false, ix_t0, ix_t1, ix_t2, ix_t3, aEq_f wp wc, aEq_f wp wi, aEq_f wp wp, eqD_ss, ne.1, ne.2, decide_false, decide_true, if_true]
    rw [M60.ev_pick] at q
    refine ⟨t, kvs, g, cs, inp, env, rfl, ht, hV, _, rfl, ?_⟩
    cases hb2 : (ev env g m t).2
    · rw [hb2, if_neg (by decide)] at q
      rw [if_neg (by decide)]
      exact ⟨b, kvs, g, cs, inp, env, rfl, hb, hV, q⟩
    · rw [hb2, if_pos rfl] at q
      rw [if_pos rfl]
      exact ⟨a, kvs, g, cs, inp, env, rfl, ha, hV, q⟩
include hn D_value_of D_truth_of in
theorem ok_truth_of {f : Addr} {fd : FuncData} (F : Fun K "truth_of" "truth_of" s_truth_of f fd) :
    FnG P w K mg base CX0 (n + 1) f fd ["test", "values", "number"] (spA K (aTruth n)) := by
  have nd := sc_truth_of.nd
  refine okA (k := n) F sc_truth_of (fun ds M Q h => by obtain ⟨_, _, _, _, _, _, rfl, _⟩ := h; rfl) (fun cv A' out t G Z hr hq => (ass_cons (as_set (i := 3) nd rfl (Or.inl rfl) (ae_ix hr.u1 (av 0) ae_int (fun _ _ => rfl)))
      (ass_cons (as_if (at_cmp (eqDK K hr.units) s_eq (av 3) ae_str (nomark _)) (ass_one (as_ret (ae_not (ae_c D_truth_of (hr.mono (by omega)) hq (aa_cons (ae_ix hr.u1 (av 0) ae_int (fun _ _ => rfl)) (aa_cons (av 1) (aa_cons (av 2) aa_nil))))))) ass_nil)
      (ass_cons (as_if (at_cmp (eqDK K hr.units) s_eq (av 3) ae_str (nomark _)) (ass_one (as_ret (ae_and (ae_c D_truth_of (hr.mono (by omega)) hq (aa_cons (ae_ix hr.u1 (av 0) ae_int (fun _ _ => rfl)) (aa_cons (av 1) (aa_cons (av 2) aa_nil)))) (ae_one (ae_c D_truth_of (hr.mono (by omega)) hq (aa_cons (ae_ix hr.u1 (av 0) ae_int (fun _ _ => rfl)) (aa_cons (av 1) (aa_cons (av 2) aa_nil)))))))) ass_nil)
      (ass_cons (as_par (i := 4) (j := 5) (by rfl) nd rfl rfl (by decide) rfl rfl (aa_cons (ae_c D_value_of (hr.mono (by omega)) hq (aa_cons (ae_ix hr.u1 (av 0) ae_int (fun _ _ => rfl)) (aa_cons (av 1) (aa_cons (av 2) aa_nil)))) (aa_cons (ae_c D_value_of (hr.mono (by omega)) hq (aa_cons (ae_ix hr.u1 (av 0) ae_int (fun _ _ => rfl)) (aa_cons (av 1) (aa_cons (av 2) aa_nil)))) aa_nil)) (by rfl))
      (ass_one (as_ret (ae_if (at_cmp (eqDK K hr.units) s_eq (av 3) ae_str (nomark _)) (ae_cmp (ltDK K hr.units) s_lt (av 4) (av 5) (nomark _)) (ae_cmp (eqDK K hr.units) s_eq (av 4) (av 5) (nomark _)))))))))) (fun ds M Q h => ?_)
  obtain ⟨e, kvs, g, cs, inp, env, rfl, hx, hV, q⟩ := h
  simp only [aSeq, aAsg, aGName, aGTup, aGCons, aGNil, unTup, aVar, aC, aOp, aUn, aTest, aChain, aAnd, aOr, aNot, aIf, aAndT, aOrT, aNotT, aNil, aCons, aTup, aLst, aLstM, aDictM, aCB, aLc, aLc2, aDc, aFld, aFldSet, aMeth, aMethK, aMake, aMakeM, aPairs, aDisp, aRev, aRevM, aPutAt, aAugI, aFor, aWhile, aSeqW, aRng1, aRng2, aEnum, aNext, aNever, aBreak, aCont, aDrop, aRet, aRetN, aIfS, aPar, aCall, aYes, startA, endsA, aI, aU, aBM, aBM0, aTx, aSl, aNoPart, aPart, List.map_cons, List.map_nil, List.length_cons, List.length_nil, List.replicate_succ, List.replicate_zero, List.cons_append, List.nil_append, List.append_nil, List.set_cons_zero, List.set_cons_succ, List.getElem?_cons_zero, List.getElem?_cons_succ, Option.some.injEq, exists_eq_left', D.int.injEq, D.str.injEq, D.bl.injEq, D.ref.injEq, D.tup.injEq, D.lst.injEq, List.cons.injEq, and_true, true_and, exists_and_left, exists_eq_left, exists_eq, and_assoc, Nat.reduceAdd, Nat.reduceSub, Nat.zero_add, exists_and_right, exists_const, if_true, if_false, Bool.not_true, Bool.not_false, Bool.false_eq_true, wipeA, N_truth_of]
  have wn : Fine (.str (Str.ofString "not")) := fine_str (by decide +kernel) (by decide +kernel)
  have wa : Fine (.str (Str.ofString "and")) := fine_str (by decide +kernel) (by decide +kernel)
  have wl : Fine (.str (Str.ofString "less")) := fine_str (by decide +kernel) (by decide +kernel)
  cases hx with
  | @cmp m x ea eb hw hxa hxb =>
    have fx := cmps_fine x hw
    have nw : (x = Str.ofString "not") = False ∧ (x = Str.ofString "and") = False := by
      simp only [eq_iff_iff, iff_false]
      exact cmps_ne x hw
    have two := cmps_two x hw
    simp only [ofPy, ofPyL, D.bl.injEq, exists_eq_left', Bool.false_eq_true, if_false, ix_t0, ix_t1, ix_t2, aEq_f fx wn, aEq_f fx wa, aEq_f fx wl, eqD_ss, nw.1, nw.2, decide_false, decide_eq_true_eq]
    rw [M60.ev_cmp hw] at q
    refine ⟨ea, kvs, g, cs, inp, env, rfl, hxa, hV, eb, kvs, g, cs, inp, env, rfl, hxb, hV, ?_⟩
    dsimp only
    rcases two with h | h
    · have n2 : ¬ x = Str.ofString "same" := by rw [h]; decide +kernel
      rw [if_neg n2] at q
      rw [if_pos h, aLt_ii]
      exact q
    · have n2 : ¬ x = Str.ofString "less" := by rw [h]; decide +kernel
      rw [if_pos h] at q
      rw [if_neg n2, aEq_f fine_int fine_int, eqD_ii]
      exact q
  | @neg m t ht =>
    simp only [ofPy, ofPyL, T, D.bl.injEq, exists_eq_left', Bool.false_eq_true, if_false, ix_t0, ix_t1, aEq_f wn wn, eqD_ss, decide_true, if_true]
    rw [M60.ev_neg] at q
    exact ⟨t, kvs, g, cs, inp, env, rfl, ht, hV, _, rfl, q⟩
  | @both m t u ht hu =>
    have ne : (Str.ofString "and" = Str.ofString "not") = False := by
      simp only [eq_iff_iff, iff_false]
      decide +kernel
    simp only [ofPy, ofPyL, T, D.bl.injEq, exists_eq_left', Bool.false_eq_true, if_false, ix_t0, ix_t1, ix_t2, aEq_f wa wn, aEq_f wa wa, eqD_ss, ne, decide_false, decide_true, if_true]
    rw [M60.ev_both] at q
    refine ⟨t, kvs, g, cs, inp, env, rfl, ht, hV, _, rfl, ?_⟩
    cases hb2 : (ev env g m t).2
    · rw [hb2, Bool.false_and] at q
      rw [if_neg (by decide)]
      exact q
    · rw [hb2, Bool.true_and] at q
      rw [if_pos rfl]
      exact ⟨u, kvs, g, cs, inp, env, rfl, hu, hV, q⟩
end
end
end E60
namespace E60
open PySem PySem.Spec PyProof.Rows L2 Lay LA
section
variable {P : Program} {w : World} {K : PySem.W.Frag} {mg : Str → Option Value} {base : Heap}
def ckey : D → List Key
  | .tup (.tup [.int a, .int b] :: _) => [.inl a, .inl b]
  | _ => []
def knownD (cs : List D) : Cells := putsD [] (cs.map fun d => (ckey d, .bl true))
def third : D → D
  | .tup [_, _, b] => b
  | d => d
def opOk (kn : Cells) (hs : List D) (n : Nat) : D → Bool
  | .par [_, .tup [_, _, b]] => bodyD kn hs n b
  | _ => false
/-- the parts of a module -/
structure Parts (n : Nat) (cs hs os : List D) (pr : D) : Prop where
  fc : Fine (.tup cs)
  fh : Fine (.tup hs)
  fo : Fine (.tup os)
  lo : os.length ≤ 1000
  fp : Fine pr
  dp : (py pr).depth ≤ n
  dO : (py (.tup os)).depth ≤ n
  c : sizedD (.tup cs) = true
  h : handlesD (.tup hs) = true
  o : opsD (.tup os) = true
  b : ∀ d ∈ os, ∃ x s b, d = .tup [x, s, b] ∧ bodyD (knownD cs) hs n b = true
  p : promiseD (knownD cs) n pr = true
def aCheck (n : Nat) : ASp := fun ds M Q => ∃ cs hs os pr, ds = [.tup cs, .tup hs, .tup os, pr] ∧ Parts n cs hs os pr ∧ Q .non M
theorem Parts.hands {n : Nat} {cs hs os : List D} {pr : D} (h : Parts n cs hs os pr) : Hands hs := by
  have := h.h
  simp only [handlesD, Bool.and_eq_true] at this
  exact ⟨h.fh, List.all_eq_true.mp this.2.1⟩
theorem Parts.cells {n : Nat} {cs hs os : List D} {pr : D} (h : Parts n cs hs os pr) : ∀ d ∈ cs, ∃ (a b : Int) (s f : Int), d = .tup [.tup [.int a, .int b], .int s, .int f] := by
  intro d hd
  have := h.c
  cases cs with
  | nil => cases hd
  | cons c0 r =>
    simp only [sizedD, Bool.and_eq_true] at this
    have := List.all_eq_true.mp this.1 d hd
    unfold isSized at this
    split at this
    · rw [Bool.and_eq_true] at this
      obtain ⟨a, b, rfl, _⟩ := cell_is this.1
      exact ⟨a, b, _, _, rfl⟩
    · cases this
theorem enumL_mem : ∀ {ds : List D} {k : Nat} {d : D}, d ∈ enumL k ds → ∃ i o, o ∈ ds ∧ d = .par [.int i, o]
  | d0 :: r, k, d, h => by
    rw [enumL] at h
    rcases List.mem_cons.mp h with rfl | h
    · exact ⟨_, d0, List.mem_cons_self .., rfl⟩
    · obtain ⟨i, o, ho, e⟩ := enumL_mem h
      exact ⟨i, o, List.mem_cons_of_mem _ ho, e⟩
section
variable {n : Nat} (D_are_sized_cells : Has P w K mg base 3 "are_sized_cells" ["thing"] (spA K (aTells sizedD)))
  (D_are_handles : Has P w K mg base 2 "are_handles" ["thing"] (spA K (aTells handlesD)))
  (D_are_operations : Has P w K mg base 2 "are_operations" ["thing"] (spA K (aTells opsD)))
  (D_is_body : Has P w K mg base (n + 7) "is_body" ["thing", "cells", "handles"] (spA K (aIsS (fun cs hs => bodyD cs hs n) n)))
  (D_is_promise : Has P w K mg base (n + 5) "is_promise" ["thing", "cells"] (spA K fun ds M Q => ∃ d cs, ds = [d, .dT cs] ∧ Fine d ∧ (py d).depth ≤ n ∧ Q (.bl (promiseD cs n d)) M))
include D_are_sized_cells D_are_handles D_are_operations D_is_body D_is_promise in
theorem ok_check_module {f : Addr} {fd : FuncData} (F : Fun K "check_module" "check_module" s_check_module f fd) (z_enumerate : mg "enumerate" = none) :
    FnG P w K mg base CX0 (n + 8) f fd ["cells", "handles", "operations", "promise"] (spA K (aCheck n)) := by
  have nd := sc_check_module.nd
  refine okA (k := n + 7) F sc_check_module (fun ds M Q h => by obtain ⟨_, _, _, _, rfl, _⟩ := h; rfl) (fun cv A' out t G Z hr hq => (ass_cons (as_if (at_not (at_val (ae_c D_are_sized_cells (hr.mono (by omega)) hq (aa_cons (av 0) aa_nil)))) (ass_one as_never) ass_nil)
      (ass_cons (as_if (at_not (at_val (ae_c D_are_handles (hr.mono (by omega)) hq (aa_cons (av 1) aa_nil)))) (ass_one as_never) ass_nil)
      (ass_cons (as_if (at_not (at_val (ae_c D_are_operations (hr.mono (by omega)) hq (aa_cons (av 2) aa_nil)))) (ass_one as_never) ass_nil)
      (ass_cons (as_setDc true (i := 4) (own := [("cell", 8), ("_", 6)]) hr.u1 rfl nd rfl rfl (sw_trueD rfl rfl rfl (by decide +kernel)) (ai_seq (av 0)) (blkOk_by (own := [("cell", 8), ("_", 6)]) (N := N_check_module) (sc := defScope s_check_module) (by decide +kernel)) (fun _ _ _ _ _ => (gTupK K (pg_tup (n := 3) (by rfl) (pgs_cons (pg_name (i := 8) nd rfl (by first | exact Or.inl rfl | exact Or.inr rfl)) (pgs_cons (pg_name (i := 6) nd rfl (by first | exact Or.inl rfl | exact Or.inr rfl)) (pgs_cons (pg_name (i := 6) nd rfl (by first | exact Or.inl rfl | exact Or.inr rfl)) pgs_nil)))))) (go_tup (gos_cons (go_name 8) (gos_cons (go_name 6) (gos_cons (go_name 6) gos_nil)))) (by decide) (fun _ _ _ _ _ => ats_nil) (fun _ _ _ _ _ => (av 8)) (fun _ _ _ _ _ => ae_bl))
      (ass_cons (as_for PassesOwn.never rfl (ai_enum z_enumerate (aa_cons (av 2) aa_nil)) (gTupK K (pg_tup (n := 2) (by rfl) (pgs_cons (pg_name (i := 5) nd rfl (Or.inl rfl)) (pgs_cons (gTupK K (pg_tup (n := 3) (by rfl) (pgs_cons (pg_name (i := 6) nd rfl (Or.inl rfl)) (pgs_cons (pg_name (i := 6) nd rfl (Or.inl rfl)) (pgs_cons (pg_name (i := 7) nd rfl (Or.inl rfl)) pgs_nil))))) pgs_nil)))) (go_tup (gos_cons (go_name 5) (gos_cons (go_tup (gos_cons (go_name 6) (gos_cons (go_name 6) (gos_cons (go_name 7) gos_nil)))) gos_nil)))
        (ass_one (as_if (at_not (at_val (ae_c D_is_body (hr.mono (by omega)) hq (aa_cons (av 7) (aa_cons (av 4) (aa_cons (av 1) aa_nil)))))) (ass_one as_never) ass_nil)))
      (ass_one (as_if (at_not (at_val (ae_c D_is_promise (hr.mono (by omega)) hq (aa_cons (av 3) (aa_cons (av 4) aa_nil))))) (ass_one as_never) ass_nil)))))))) (fun ds M Q h => ?_)
  obtain ⟨cs, hs, os, pr, rfl, hP, q⟩ := h
  simp only [aSeq, aAsg, aGName, aGTup, aGCons, aGNil, unTup, aVar, aC, aOp, aUn, aTest, aChain, aAnd, aOr, aNot, aIf, aAndT, aOrT, aNotT, aNil, aCons, aTup, aLst, aLstM, aDictM, aCB, aLc, aLc2, aDc, aFld, aFldSet, aMeth, aMethK, aMake, aMakeM, aPairs, aDisp, aRev, aRevM, aPutAt, aAugI, aFor, aWhile, aSeqW, aRng1, aRng2, aEnum, aNext, aNever, aBreak, aCont, aDrop, aRet, aRetN, aIfS, aPar, aCall, aYes, startA, endsA, aI, aU, aBM, aBM0, aTx, aSl, aNoPart, aPart, List.map_cons, List.map_nil, List.length_cons, List.length_nil, List.replicate_succ, List.replicate_zero, List.cons_append, List.nil_append, List.append_nil, List.set_cons_zero, List.set_cons_succ, List.getElem?_cons_zero, List.getElem?_cons_succ, Option.some.injEq, exists_eq_left', D.int.injEq, D.str.injEq, D.bl.injEq, D.ref.injEq, D.tup.injEq, D.lst.injEq, List.cons.injEq, and_true, true_and, exists_and_left, exists_eq_left, exists_eq, and_assoc, Nat.reduceAdd, Nat.reduceSub, Nat.zero_add, exists_and_right, exists_const, if_true, if_false, Bool.not_true, Bool.not_false, Bool.false_eq_true, wipeA, N_check_module]
  simp only [aTells, List.cons.injEq, and_true, exists_eq_left', exists_eq_left, D.bl.injEq, hP.c, hP.h, hP.o, Bool.not_true, Bool.false_eq_true, if_false]
  refine ⟨hP.fc, hP.fh, hP.fo, ?_⟩
  have hc := hP.cells
  refine ⟨_, rfl, dcT_go headD (fun _ => .bl true) ckey trivial hP.fc.len (fun d hd => ?_) (fun d hd C R hC => ?_) ?_⟩
  · obtain ⟨a, b, s, f, rfl⟩ := hc d hd
    exact ⟨_, rfl, rfl, rfl⟩
  · obtain ⟨a, b, s, f, rfl⟩ := hc d hd
    simp only [aSeq, aAsg, aGName, aGTup, aGCons, aGNil, unTup, aVar, aC, aOp, aUn, aTest, aChain, aAnd, aOr, aNot, aIf, aAndT, aOrT, aNotT, aNil, aCons, aTup, aLst, aLstM, aDictM, aCB, aLc, aLc2, aDc, aFld, aFldSet, aMeth, aMethK, aMake, aMakeM, aPairs, aDisp, aRev, aRevM, aPutAt, aAugI, aFor, aWhile, aSeqW, aRng1, aRng2, aEnum, aNext, aNever, aBreak, aCont, aDrop, aRet, aRetN, aIfS, aPar, aCall, aYes, startA, endsA, aI, aU, aBM, aBM0, aTx, aSl, aNoPart, aPart, List.map_cons, List.map_nil, List.length_cons, List.length_nil, List.replicate_succ, List.replicate_zero, List.cons_append, List.nil_append, List.append_nil, List.set_cons_zero, List.set_cons_succ, List.getElem?_cons_zero, List.getElem?_cons_succ, Option.some.injEq, exists_eq_left', D.int.injEq, D.str.injEq, D.bl.injEq, D.ref.injEq, D.tup.injEq, D.lst.injEq, List.cons.injEq, and_true, true_and, exists_and_left, exists_eq_left, exists_eq, and_assoc, Nat.reduceAdd, Nat.reduceSub, Nat.zero_add, exists_and_right, exists_const, if_true, if_false, Bool.not_true, Bool.not_false, Bool.false_eq_true, wipeA]
    exact hC
  show ∃ x, seqD (D.tup os) = some x ∧ _
  refine ⟨os, rfl, for_all (β := Option D × Option D × Option D) (fun _ => true) (fun y => [some (.tup cs), some (.tup hs), some (.tup os), some pr, some (.dT (knownD cs)), y.1, y.2.1, y.2.2, none]) ⟨(none, none, none), rfl⟩ trivial (fun d hd y R hR => ?_) fun y _ => ?_⟩
  · obtain ⟨i, o, ho, rfl⟩ := enumL_mem hd
    obtain ⟨x, s, b, rfl, hb⟩ := hP.b o ho
    simp only [aSeq, aAsg, aGName, aGTup, aGCons, aGNil, unTup, aVar, aC, aOp, aUn, aTest, aChain, aAnd, aOr, aNot, aIf, aAndT, aOrT, aNotT, aNil, aCons, aTup, aLst, aLstM, aDictM, aCB, aLc, aLc2, aDc, aFld, aFldSet, aMeth, aMethK, aMake, aMakeM, aPairs, aDisp, aRev, aRevM, aPutAt, aAugI, aFor, aWhile, aSeqW, aRng1, aRng2, aEnum, aNext, aNever, aBreak, aCont, aDrop, aRet, aRetN, aIfS, aPar, aCall, aYes, startA, endsA, aI, aU, aBM, aBM0, aTx, aSl, aNoPart, aPart, List.map_cons, List.map_nil, List.length_cons, List.length_nil, List.replicate_succ, List.replicate_zero, List.cons_append, List.nil_append, List.append_nil, List.set_cons_zero, List.set_cons_succ, List.getElem?_cons_zero, List.getElem?_cons_succ, Option.some.injEq, exists_eq_left', D.int.injEq, D.str.injEq, D.bl.injEq, D.ref.injEq, D.tup.injEq, D.lst.injEq, List.cons.injEq, and_true, true_and, exists_and_left, exists_eq_left, exists_eq, and_assoc, Nat.reduceAdd, Nat.reduceSub, Nat.zero_add, exists_and_right, exists_const, if_true, if_false, Bool.not_true, Bool.not_false, Bool.false_eq_true, wipeA]
    have fo := fine_tup hP.fo _ ho
    have dO := hP.dO
    have d1 := depth_mem ho
    have d2 := depth_mem (d := b) (ds := [x, s, b]) (by simp)
    simp only [py, PyData.depth] at d1 dO
    refine ⟨_, _, _, rfl, fine_tup fo _ (by simp), hP.hands, by omega, _, rfl, ?_⟩
    show if (!(bodyD (knownD cs) hs n b)) = true then False else _
    rw [hb]
    exact hR rfl (_, _, _)
  · simp only [aSeq, aAsg, aGName, aGTup, aGCons, aGNil, unTup, aVar, aC, aOp, aUn, aTest, aChain, aAnd, aOr, aNot, aIf, aAndT, aOrT, aNotT, aNil, aCons, aTup, aLst, aLstM, aDictM, aCB, aLc, aLc2, aDc, aFld, aFldSet, aMeth, aMethK, aMake, aMakeM, aPairs, aDisp, aRev, aRevM, aPutAt, aAugI, aFor, aWhile, aSeqW, aRng1, aRng2, aEnum, aNext, aNever, aBreak, aCont, aDrop, aRet, aRetN, aIfS, aPar, aCall, aYes, startA, endsA, aI, aU, aBM, aBM0, aTx, aSl, aNoPart, aPart, List.map_cons, List.map_nil, List.length_cons, List.length_nil, List.replicate_succ, List.replicate_zero, List.cons_append, List.nil_append, List.append_nil, List.set_cons_zero, List.set_cons_succ, List.getElem?_cons_zero, List.getElem?_cons_succ, Option.some.injEq, exists_eq_left', D.int.injEq, D.str.injEq, D.bl.injEq, D.ref.injEq, D.tup.injEq, D.lst.injEq, List.cons.injEq, and_true, true_and, exists_and_left, exists_eq_left, exists_eq, and_assoc, Nat.reduceAdd, Nat.reduceSub, Nat.zero_add, exists_and_right, exists_const, if_true, if_false, Bool.not_true, Bool.not_false, Bool.false_eq_true, wipeA]
    refine ⟨_, rfl, hP.fp, hP.dp, ?_⟩
    rw [hP.p]
    exact q
end
end
end E60
namespace E60
open PySem PySem.Spec PyProof.Rows L2 Lay LA
section
variable {P : Program} {w : World} {K : PySem.W.Frag} {mg : Str → Option Value} {base : Heap}
def startD : D → D
  | .tup [c, _, f] => .tup [c, f]
  | d => d
def sizeD : D → D
  | .tup [_, s, _] => s
  | d => d
def inputsD : D → List D
  | .tup [x, .int s, _] => (intsD 0 s.toNat).map fun i => .tup [x, i]
  | _ => []
def nkey : D → Key
  | .tup (.str x :: _) => .inr x
  | _ => .inl 0
def modF (cs hs os : List D) (pr : D) : List (Str × D) := putFD "bodies" (.dK (putsD [] (os.map fun d => (nkey d, third d)))) (putFD "sizes" (.dT (putsD [] (cs.map fun d => (ckey d, sizeD d)))) (putFD "inputs" (.tup (os.flatMap inputsD))
  (putFD "start" (.tup (cs.map startD)) (putFD "promise" pr (putFD "operations" (.tup os) (putFD "handles" (.tup hs) (putFD "cells" (.tup cs) [])))))))
def modNames : List Str := ["cells", "handles", "operations", "promise", "start", "inputs", "sizes", "bodies"]
def aInit (K : PySem.W.Frag) (C : Addr) (n : Nat) : ASp := fun ds M Q => ∃ a cs hs os pr, ds = [.ref a, .tup cs, .tup hs, .tup os, pr] ∧ M a = some (.ins C []) ∧ Parts n cs hs os pr ∧ Q .non (put M a (.ins C (modF cs hs os pr)))
theorem Parts.ops {n : Nat} {cs hs os : List D} {pr : D} (h : Parts n cs hs os pr) : ∀ d ∈ os, ∃ (x : Str) (s : Int) (b : D), d = .tup [.str x, .int s, b] ∧ 1 ≤ s ∧ s ≤ 4 := by
  intro d hd
  have := h.o
  simp only [opsD, Bool.and_eq_true] at this
  have := List.all_eq_true.mp this.1 d hd
  unfold isOp at this
  split at this
  · rw [Bool.and_eq_true, Bool.and_eq_true, decide_eq_true_eq, decide_eq_true_eq] at this
    obtain ⟨z, rfl⟩ := name_is this.1
    exact ⟨z, _, _, rfl, this.2⟩
  · cases this
theorem inputs_len {n : Nat} {cs hs os : List D} {pr : D} (h : Parts n cs hs os pr) : (os.flatMap inputsD).length ≤ 1000000 := by
  have one : ∀ d ∈ os, (inputsD d).length ≤ 4 := fun d hd => by
    obtain ⟨x, s, b, rfl, h1, h4⟩ := h.ops d hd
    show ((intsD 0 s.toNat).map _).length ≤ 4
    rw [List.length_map, intsD_len]
    omega
  have all : ∀ l : List D, (∀ d ∈ l, (inputsD d).length ≤ 4) → (l.flatMap inputsD).length ≤ 4 * l.length := by
    intro l
    induction l with
    | nil => intro _; simp
    | cons d r ih =>
      intro hd
      have h1 := hd d (List.mem_cons_self ..)
      have h2 := ih fun x hx => hd x (List.mem_cons_of_mem _ hx)
      rw [List.flatMap_cons, List.length_append, List.length_cons]
      omega
  have := all os one
  have := h.lo
  omega
section
variable {n : Nat} {C : Addr} (D_check_module : Has P w K mg base (n + 8) "check_module" ["cells", "handles", "operations", "promise"] (spA K (aCheck n))) (fk : ∀ f ∈ modNames, FldOk K C f)
include D_check_module fk in
theorem ok_Module_init {f : Addr} {fd : FuncData} (F : Fun K "__init__" "Module.__init__" s_Module_init f fd) (z_tuple : mg "tuple" = none) (z_range : mg "range" = none) :
    FnG P w K mg base CX0 (n + 9) f fd ["self", "cells", "handles", "operations", "promise"] (spA K (aInit K C n)) := by
  have nd := sc_Module_init.nd
  refine okA (k := n + 8) F sc_Module_init (fun ds M Q h => by obtain ⟨_, _, _, _, _, rfl, _⟩ := h; rfl) (fun cv A' out t G Z hr hq => (ass_cons (as_expr (ae_c D_check_module (hr.mono (by omega)) hq (aa_cons (av 1) (aa_cons (av 2) (aa_cons (av 3) (aa_cons (av 4) aa_nil))))))
      (ass_cons (as_fld (K := K) (av 0) (av 1))
      (ass_cons (as_fld (K := K) (av 0) (av 2))
      (ass_cons (as_fld (K := K) (av 0) (av 3))
      (ass_cons (as_fld (K := K) (av 0) (av 4))
      (ass_cons (as_fld (K := K) (av 0) (ae_callTy (c_tupleF K) s_tuple z_tuple (by decide +kernel) (aa_cons (ae_lc (own := [("cell", 6), ("_", 8), ("first", 11)]) rfl nd (ai_seq (av 1)) (blkOk_by (own := [("cell", 6), ("_", 8), ("first", 11)]) (N := N_Module_init) (sc := defScope s_Module_init) (by decide +kernel)) (fun _ _ _ _ _ => (gTupK K (pg_tup (n := 3) (by rfl) (pgs_cons (pg_name (i := 6) nd rfl (by first | exact Or.inl rfl | exact Or.inr rfl)) (pgs_cons (pg_name (i := 8) nd rfl (by first | exact Or.inl rfl | exact Or.inr rfl)) (pgs_cons (pg_name (i := 11) nd rfl (by first | exact Or.inl rfl | exact Or.inr rfl)) pgs_nil)))))) (go_tup (gos_cons (go_name 6) (gos_cons (go_name 8) (gos_cons (go_name 11) gos_nil)))) (by decide) (fun _ _ _ _ _ => ats_nil) (fun _ _ _ _ _ => (ae_tup (aa_cons (av 6) (aa_cons (av 11) aa_nil))))) aa_nil)))
      (ass_cons (as_fld (K := K) (av 0) (ae_callTy (c_tupleF K) s_tuple z_tuple (by decide +kernel) (aa_cons (ae_lc2 (own := [("name", 9), ("size", 7), ("_", 8), ("number", 5)]) (vs1 := [5]) rfl nd (ai_seq (av 3)) (blkOk_by (own := [("name", 9), ("size", 7), ("_", 8), ("number", 5)]) (N := N_Module_init) (sc := defScope s_Module_init) (by decide +kernel)) (by decide) (fun _ _ _ _ _ => (gTupK K (pg_tup (n := 3) (by rfl) (pgs_cons (pg_name (i := 9) nd rfl (by first | exact Or.inl rfl | exact Or.inr rfl)) (pgs_cons (pg_name (i := 7) nd rfl (by first | exact Or.inl rfl | exact Or.inr rfl)) (pgs_cons (pg_name (i := 8) nd rfl (by first | exact Or.inl rfl | exact Or.inr rfl)) pgs_nil)))))) (go_tup (gos_cons (go_name 9) (gos_cons (go_name 7) (gos_cons (go_name 8) gos_nil)))) (by decide) (fun _ _ _ _ _ => ats_nil) (fun _ _ _ _ _ => (ai_rng1 z_range (aa_cons (av 7) aa_nil))) (fun _ _ _ _ _ => (pg_name (i := 5) nd rfl (by first | exact Or.inl rfl | exact Or.inr rfl))) (go_name 5) (by decide) (fun _ _ _ _ _ => ats_nil) (fun _ _ _ _ _ => (ae_tup (aa_cons (av 9) (aa_cons (av 5) aa_nil))))) aa_nil)))
      (ass_cons (as_fld (K := K) (av 0) (ae_dc true (own := [("cell", 6), ("size", 7), ("_", 8)]) hr.u1 rfl nd (ai_seq (av 1)) (blkOk_by (own := [("cell", 6), ("size", 7), ("_", 8)]) (N := N_Module_init) (sc := defScope s_Module_init) (by decide +kernel)) (fun _ _ _ _ _ => (gTupK K (pg_tup (n := 3) (by rfl) (pgs_cons (pg_name (i := 6) nd rfl (by first | exact Or.inl rfl | exact Or.inr rfl)) (pgs_cons (pg_name (i := 7) nd rfl (by first | exact Or.inl rfl | exact Or.inr rfl)) (pgs_cons (pg_name (i := 8) nd rfl (by first | exact Or.inl rfl | exact Or.inr rfl)) pgs_nil)))))) (go_tup (gos_cons (go_name 6) (gos_cons (go_name 7) (gos_cons (go_name 8) gos_nil)))) (by decide) (fun _ _ _ _ _ => ats_nil) (fun _ _ _ _ _ => (av 6)) (fun _ _ _ _ _ => (av 7))))
      (ass_one (as_fld (K := K) (av 0) (ae_dc false (own := [("name", 9), ("_", 8), ("body", 10)]) hr.u1 rfl nd (ai_seq (av 3)) (blkOk_by (own := [("name", 9), ("_", 8), ("body", 10)]) (N := N_Module_init) (sc := defScope s_Module_init) (by decide +kernel)) (fun _ _ _ _ _ => (gTupK K (pg_tup (n := 3) (by rfl) (pgs_cons (pg_name (i := 9) nd rfl (by first | exact Or.inl rfl | exact Or.inr rfl)) (pgs_cons (pg_name (i := 8) nd rfl (by first | exact Or.inl rfl | exact Or.inr rfl)) (pgs_cons (pg_name (i := 10) nd rfl (by first | exact Or.inl rfl | exact Or.inr rfl)) pgs_nil)))))) (go_tup (gos_cons (go_name 9) (gos_cons (go_name 8) (gos_cons (go_name 10) gos_nil)))) (by decide) (fun _ _ _ _ _ => ats_nil) (fun _ _ _ _ _ => (av 9)) (fun _ _ _ _ _ => (av 10)))))))))))))) (fun ds M Q h => ?_)
  obtain ⟨a, cs, hs, os, pr, rfl, hm, hP, q⟩ := h
  have hc := hP.cells
  have ho := hP.ops
  simp only [aSeq, aAsg, aGName, aGTup, aGCons, aGNil, unTup, aVar, aC, aOp, aUn, aTest, aChain, aAnd, aOr, aNot, aIf, aAndT, aOrT, aNotT, aNil, aCons, aTup, aLst, aLstM, aDictM, aCB, aLc, aLc2, aDc, aFld, aFldSet, aMeth, aMethK, aMake, aMakeM, aPairs, aDisp, aRev, aRevM, aPutAt, aAugI, aFor, aWhile, aSeqW, aRng1, aRng2, aEnum, aNext, aNever, aBreak, aCont, aDrop, aRet, aRetN, aIfS, aPar, aCall, aYes, startA, endsA, aI, aU, aBM, aBM0, aTx, aSl, aNoPart, aPart, List.map_cons, List.map_nil, List.length_cons, List.length_nil, List.replicate_succ, List.replicate_zero, List.cons_append, List.nil_append, List.append_nil, List.set_cons_zero, List.set_cons_succ, List.getElem?_cons_zero, List.getElem?_cons_succ, Option.some.injEq, exists_eq_left', D.int.injEq, D.str.injEq, D.bl.injEq, D.ref.injEq, D.tup.injEq, D.lst.injEq, List.cons.injEq, and_true, true_and, exists_and_left, exists_eq_left, exists_eq, and_assoc, Nat.reduceAdd, Nat.reduceSub, Nat.zero_add, exists_and_right, exists_const, if_true, if_false, Bool.not_true, Bool.not_false, Bool.false_eq_true, wipeA, N_Module_init]
  refine ⟨_, _, _, _, rfl, hP, ?_⟩
  have len : ∀ {f : Str} {v : D} {fs : List (Str × D)} {k : Nat}, fs.length ≤ k → (putFD f v fs).length ≤ k + 1 := fun h => Nat.le_trans len_putFD (Nat.succ_le_succ h)
  refine ⟨C, [], hm, fk _ (by decide), by decide, ?_⟩
  refine ⟨C, _, put_same, fk _ (by decide), Nat.lt_of_le_of_lt (len (Nat.le_refl 0)) (by decide), ?_⟩
  rw [put_put]
  refine ⟨C, _, put_same, fk _ (by decide), Nat.lt_of_le_of_lt (len (len (Nat.le_refl 0))) (by decide), ?_⟩
  rw [put_put]
  refine ⟨C, _, put_same, fk _ (by decide), Nat.lt_of_le_of_lt (len (len (len (Nat.le_refl 0)))) (by decide), ?_⟩
  rw [put_put]
  refine ⟨_, rfl, lc_map startD trivial hP.fc.len (fun d hd P R hR => ?_) ?_⟩
  · obtain ⟨x, y, s, f, rfl⟩ := hc d hd
    simp only [aSeq, aAsg, aGName, aGTup, aGCons, aGNil, unTup, aVar, aC, aOp, aUn, aTest, aChain, aAnd, aOr, aNot, aIf, aAndT, aOrT, aNotT, aNil, aCons, aTup, aLst, aLstM, aDictM, aCB, aLc, aLc2, aDc, aFld, aFldSet, aMeth, aMethK, aMake, aMakeM, aPairs, aDisp, aRev, aRevM, aPutAt, aAugI, aFor, aWhile, aSeqW, aRng1, aRng2, aEnum, aNext, aNever, aBreak, aCont, aDrop, aRet, aRetN, aIfS, aPar, aCall, aYes, startA, endsA, aI, aU, aBM, aBM0, aTx, aSl, aNoPart, aPart, List.map_cons, List.map_nil, List.length_cons, List.length_nil, List.replicate_succ, List.replicate_zero, List.cons_append, List.nil_append, List.append_nil, List.set_cons_zero, List.set_cons_succ, List.getElem?_cons_zero, List.getElem?_cons_succ, Option.some.injEq, exists_eq_left', D.int.injEq, D.str.injEq, D.bl.injEq, D.ref.injEq, D.tup.injEq, D.lst.injEq, List.cons.injEq, and_true, true_and, exists_and_left, exists_eq_left, exists_eq, and_assoc, Nat.reduceAdd, Nat.reduceSub, Nat.zero_add, exists_and_right, exists_const, if_true, if_false, Bool.not_true, Bool.not_false, Bool.false_eq_true, wipeA]
    exact ⟨by decide, hR⟩
  rw [tuple_lst]
  refine ⟨C, _, put_same, fk _ (by decide), Nat.lt_of_le_of_lt (len (len (len (len (Nat.le_refl 0))))) (by decide), ?_⟩
  rw [put_put]
  refine ⟨_, rfl, lc2_map inputsD trivial (inputs_len hP) (fun d hd acc F R hl hF => ?_) ?_⟩
  · obtain ⟨x, s, b, rfl, h1, h4⟩ := ho d hd
    simp only [aSeq, aAsg, aGName, aGTup, aGCons, aGNil, unTup, aVar, aC, aOp, aUn, aTest, aChain, aAnd, aOr, aNot, aIf, aAndT, aOrT, aNotT, aNil, aCons, aTup, aLst, aLstM, aDictM, aCB, aLc, aLc2, aDc, aFld, aFldSet, aMeth, aMethK, aMake, aMakeM, aPairs, aDisp, aRev, aRevM, aPutAt, aAugI, aFor, aWhile, aSeqW, aRng1, aRng2, aEnum, aNext, aNever, aBreak, aCont, aDrop, aRet, aRetN, aIfS, aPar, aCall, aYes, startA, endsA, aI, aU, aBM, aBM0, aTx, aSl, aNoPart, aPart, List.map_cons, List.map_nil, List.length_cons, List.length_nil, List.replicate_succ, List.replicate_zero, List.cons_append, List.nil_append, List.append_nil, List.set_cons_zero, List.set_cons_succ, List.getElem?_cons_zero, List.getElem?_cons_succ, Option.some.injEq, exists_eq_left', D.int.injEq, D.str.injEq, D.bl.injEq, D.ref.injEq, D.tup.injEq, D.lst.injEq, List.cons.injEq, and_true, true_and, exists_and_left, exists_eq_left, exists_eq, and_assoc, Nat.reduceAdd, Nat.reduceSub, Nat.zero_add, exists_and_right, exists_const, if_true, if_false, Bool.not_true, Bool.not_false, Bool.false_eq_true, wipeA]
    have hin : inputsD (.tup [.str x, .int s, b]) = (intsD 0 s.toNat).map fun i => .tup [.str x, i] := rfl
    rw [hin] at hl hF
    refine ⟨by omega, by omega, lcIn_map (fun i => .tup [.str x, i]) trivial (by rw [List.length_map] at hl; exact hl) (fun i hi P R hR => ?_) hF⟩
    simp only [aSeq, aAsg, aGName, aGTup, aGCons, aGNil, unTup, aVar, aC, aOp, aUn, aTest, aChain, aAnd, aOr, aNot, aIf, aAndT, aOrT, aNotT, aNil, aCons, aTup, aLst, aLstM, aDictM, aCB, aLc, aLc2, aDc, aFld, aFldSet, aMeth, aMethK, aMake, aMakeM, aPairs, aDisp, aRev, aRevM, aPutAt, aAugI, aFor, aWhile, aSeqW, aRng1, aRng2, aEnum, aNext, aNever, aBreak, aCont, aDrop, aRet, aRetN, aIfS, aPar, aCall, aYes, startA, endsA, aI, aU, aBM, aBM0, aTx, aSl, aNoPart, aPart, List.map_cons, List.map_nil, List.length_cons, List.length_nil, List.replicate_succ, List.replicate_zero, List.cons_append, List.nil_append, List.append_nil, List.set_cons_zero, List.set_cons_succ, List.getElem?_cons_zero, List.getElem?_cons_succ, Option.some.injEq, exists_eq_left', D.int.injEq, D.str.injEq, D.bl.injEq, D.ref.injEq, D.tup.injEq, D.lst.injEq, List.cons.injEq, and_true, true_and, exists_and_left, exists_eq_left, exists_eq, and_assoc, Nat.reduceAdd, Nat.reduceSub, Nat.zero_add, exists_and_right, exists_const, if_true, if_false, Bool.not_true, Bool.not_false, Bool.false_eq_true, wipeA]
    exact ⟨by decide, hR⟩
  rw [tuple_lst]
  refine ⟨C, _, put_same, fk _ (by decide), Nat.lt_of_le_of_lt (len (len (len (len (len (Nat.le_refl 0)))))) (by decide), ?_⟩
  rw [put_put]
  refine ⟨_, rfl, dcT_go headD sizeD ckey trivial hP.fc.len (fun d hd => ?_) (fun d hd C' R hC => ?_) ?_⟩
  · obtain ⟨x, y, s, f, rfl⟩ := hc d hd
    exact ⟨_, rfl, rfl, rfl⟩
  · obtain ⟨x, y, s, f, rfl⟩ := hc d hd
    simp only [aSeq, aAsg, aGName, aGTup, aGCons, aGNil, unTup, aVar, aC, aOp, aUn, aTest, aChain, aAnd, aOr, aNot, aIf, aAndT, aOrT, aNotT, aNil, aCons, aTup, aLst, aLstM, aDictM, aCB, aLc, aLc2, aDc, aFld, aFldSet, aMeth, aMethK, aMake, aMakeM, aPairs, aDisp, aRev, aRevM, aPutAt, aAugI, aFor, aWhile, aSeqW, aRng1, aRng2, aEnum, aNext, aNever, aBreak, aCont, aDrop, aRet, aRetN, aIfS, aPar, aCall, aYes, startA, endsA, aI, aU, aBM, aBM0, aTx, aSl, aNoPart, aPart, List.map_cons, List.map_nil, List.length_cons, List.length_nil, List.replicate_succ, List.replicate_zero, List.cons_append, List.nil_append, List.append_nil, List.set_cons_zero, List.set_cons_succ, List.getElem?_cons_zero, List.getElem?_cons_succ, Option.some.injEq, exists_eq_left', D.int.injEq, D.str.injEq, D.bl.injEq, D.ref.injEq, D.tup.injEq, D.lst.injEq, List.cons.injEq, and_true, true_and, exists_and_left, exists_eq_left, exists_eq, and_assoc, Nat.reduceAdd, Nat.reduceSub, Nat.zero_add, exists_and_right, exists_const, if_true, if_false, Bool.not_true, Bool.not_false, Bool.false_eq_true, wipeA]
    exact hC
  refine ⟨C, _, put_same, fk _ (by decide), Nat.lt_of_le_of_lt (len (len (len (len (len (len (Nat.le_refl 0))))))) (by decide), ?_⟩
  rw [put_put]
  refine ⟨_, rfl, dcK_go headD third nkey trivial hP.fo.len (fun d hd => ?_) (fun d hd C' R hC => ?_) ?_⟩
  · obtain ⟨x, s, b, rfl, h1, h4⟩ := ho d hd
    rfl
  · obtain ⟨x, s, b, rfl, h1, h4⟩ := ho d hd
    simp only [aSeq, aAsg, aGName, aGTup, aGCons, aGNil, unTup, aVar, aC, aOp, aUn, aTest, aChain, aAnd, aOr, aNot, aIf, aAndT, aOrT, aNotT, aNil, aCons, aTup, aLst, aLstM, aDictM, aCB, aLc, aLc2, aDc, aFld, aFldSet, aMeth, aMethK, aMake, aMakeM, aPairs, aDisp, aRev, aRevM, aPutAt, aAugI, aFor, aWhile, aSeqW, aRng1, aRng2, aEnum, aNext, aNever, aBreak, aCont, aDrop, aRet, aRetN, aIfS, aPar, aCall, aYes, startA, endsA, aI, aU, aBM, aBM0, aTx, aSl, aNoPart, aPart, List.map_cons, List.map_nil, List.length_cons, List.length_nil, List.replicate_succ, List.replicate_zero, List.cons_append, List.nil_append, List.append_nil, List.set_cons_zero, List.set_cons_succ, List.getElem?_cons_zero, List.getElem?_cons_succ, Option.some.injEq, exists_eq_left', D.int.injEq, D.str.injEq, D.bl.injEq, D.ref.injEq, D.tup.injEq, D.lst.injEq, List.cons.injEq, and_true, true_and, exists_and_left, exists_eq_left, exists_eq, and_assoc, Nat.reduceAdd, Nat.reduceSub, Nat.zero_add, exists_and_right, exists_const, if_true, if_false, Bool.not_true, Bool.not_false, Bool.false_eq_true, wipeA]
    exact hC
  refine ⟨C, _, put_same, fk _ (by decide), Nat.lt_of_le_of_lt (len (len (len (len (len (len (len (Nat.le_refl 0)))))))) (by decide), ?_⟩
  rw [put_put]
  exact q
end
end
end E60
/-! Comprehensions whose items change the memory. -/
namespace LA
open PySem PySem.Spec PyProof.Rows L2 Lay
/-- S i acc M: what holds before turn i -/
theorem lc_state {w : Walk} {ag : AG} {at' : AT} {ae : AE} {vs : List Nat} {Γ : Sl} {M : Mem} {Q : D → Mem → Prop} (S : Nat → List D → Mem → Prop) (hs : ∀ M, w.stay M) (hl : w.items.length ≤ 1000000) (h0 : S 0 [] M)
    (step : ∀ i d acc M', w.items[i]? = some d → acc.length ≤ i → S i acc M' → ∀ (P : D → Mem → Prop) (R : Mem → Prop), (∀ y M'', S (i + 1) (acc ++ [y]) M'' → P y M'') → (∀ M'', S (i + 1) acc M'' → R M'') →
      ag d (wipeA Γ vs) M' fun Γ2 M2 => at' Γ2 M2 fun b M3 => if b = true then ae Γ2 M3 P else R M3)
    (fin : ∀ acc M', acc.length ≤ w.items.length → S w.items.length acc M' → Q (.lst acc) M') : LcB w ag at' ae vs Γ M Q := by
  refine ⟨fun i acc M' => acc.length ≤ i ∧ S i acc M', ⟨Nat.le_refl _, h0⟩, fun _ _ M _ _ => hs M, ?_, fun acc M' ⟨h1, h2⟩ => fin acc M' h1 h2⟩
  rintro i d acc M' hd ⟨h1, h2⟩
  have hlt : i < w.items.length := (List.getElem?_eq_some_iff.mp hd).1
  refine step i d acc M' hd h1 h2 _ _ (fun y M'' s => ⟨by omega, ?_, s⟩) (fun M'' s => ⟨by omega, s⟩)
  rw [List.length_append, List.length_singleton]
  omega
end LA
namespace LA
open PySem PySem.Spec PyProof.Rows L2 Lay
section
variable {M : Mem} {ds : List D} {d d0 d1 : D} {Q : D → Mem → Prop}
theorem ix_l0 : aIx (.lst (d :: ds)) (.int 0) M Q = Q d M := ix_lk 0 rfl
theorem ix_l1 : aIx (.lst (d0 :: d :: ds)) (.int 1) M Q = Q d M := ix_lk 1 rfl
theorem ix_l2 : aIx (.lst (d0 :: d1 :: d :: ds)) (.int 2) M Q = Q d M := ix_lk 2 rfl
end
end LA
namespace LA
open PySem PySem.Spec PyProof.Rows L2 Lay
section
variable {M : Mem} {a : Addr} {ys : List Str} {x : Str} {d : D} {ds : List D} {Q : D → Mem → Prop}
theorem strs_plain (ys : List Str) : plainL (ys.map D.str) = true := by
  rw [plainL_all, List.all_map]
  exact List.all_eq_true.mpr fun _ _ => rfl
theorem pyL_strs : ∀ ys : List Str, pyL (ys.map D.str) = ys.map PyData.str
  | [] => rfl
  | y :: r => by rw [List.map_cons, pyL, pyL_strs r]; rfl
/-- x in xs, xs a list of texts that changes -/
theorem in_m (h : M a = some (.lst (ys.map D.str))) (hx : Fine (.str x)) (hy : ∀ y ∈ ys, PyData.strOk y = true) : aIn false (.str x) (.ref a) M Q = Q (.bl (decide (x ∈ ys))) M := by
  have v := view_m h
  have lay : PyData.canLayAll0 (pyL (ys.map D.str)) = true := by
    rw [pyL_strs]
    clear h v
    induction ys with
    | nil => rfl
    | cons y r ih =>
      rw [List.map_cons, PyData.canLayAll0, ih fun z hz => hy z (List.mem_cons_of_mem _ hz)]
      have := hy y (List.mem_cons_self ..)
      simpa [PyData.canLay0] using this
  have e : ((ys.map D.str).any fun z => PyData.eqv (py z) (py (view M (.str x)))) = decide (x ∈ ys) := by
    rw [List.any_map, Bool.eq_iff_iff, List.any_eq_true, decide_eq_true_eq]
    constructor
    · rintro ⟨y, hy, e⟩
      have e' : (y == x) = true := e
      rw [beq_iff_eq] at e'
      exact e' ▸ hy
    · intro h
      exact ⟨x, h, by show (x == x) = true; simp⟩
  unfold aIn
  rw [v]
  refine propext ⟨fun z => ?_, fun z => ⟨⟨hx.okE, strs_plain ys, lay⟩, ?_⟩⟩
  · have := z.2
    rw [e] at this
    exact this
  · rw [e]
    exact z
theorem append_m (h : M a = some (.lst ds)) (hl : ds.length < 1000000) (q : Q .non (put M a (.lst (ds ++ [d])))) : aAppend (.ref a) [d] M Q := ⟨a, ds, d, rfl, rfl, h, hl, q⟩
end
end LA
namespace LA
open PySem PySem.Spec PyProof.Rows L2 Lay
def leS (a b : Str) : Bool := decide (a.cps.toList ≤ b.cps.toList)
def sortS (ys : List Str) : List Str := ys.mergeSort leS
theorem leD_str (a b : Str) : leD (.str a) (.str b) = leS a b := by
  have := congrFun (congrFun (PySem.W.dataLe_str (fun b : Str => b)) a) b
  exact this
theorem sortD_str (ys : List Str) : sortD (ys.map D.str) = (sortS ys).map D.str := by
  unfold sortD sortS
  rw [List.map_mergeSort fun a _ b _ => (leD_str a b).symm]
theorem sortS_perm (ys : List Str) : (sortS ys).Perm ys := List.mergeSort_perm ..
theorem sortS_up (ys : List Str) : (sortS ys).Pairwise fun a b => a.cps.toList ≤ b.cps.toList := by
  have := List.pairwise_mergeSort (le := leS) (fun a b c h k => by
    unfold leS at *
    rw [decide_eq_true_eq] at *
    exact List.le_trans h k) (fun a b => by
    unfold leS
    rw [Bool.or_eq_true, decide_eq_true_eq, decide_eq_true_eq]
    exact List.le_total ..) ys
  exact this.imp fun h => of_decide_eq_true h
theorem ltD_str (a b : Str) : ltD (.str a) (.str b) = decide (a.cps.toList < b.cps.toList) := PySem.W.dataLt_str ..
end LA
namespace LA
open PySem PySem.Spec PyProof.Rows L2 Lay
theorem str_ext {a b : Str} (h : a.cps.toList = b.cps.toList) : a = b := by
  cases a; cases b
  simp at h
  subst h
  rfl
theorem asc_pairs : ∀ {us : List Str}, us.Pairwise (fun a b => a.cps.toList ≤ b.cps.toList) → us.Nodup → us.Pairwise fun a b => ltD (.str a) (.str b) = true
  | [], _, _ => .nil
  | a :: r, h, n => by
    rw [List.pairwise_cons] at h
    rw [List.nodup_cons] at n
    refine .cons (fun b hb => ?_) (asc_pairs h.2 n.2)
    rw [ltD_str, decide_eq_true_eq]
    have h1 := h.1 b hb
    rcases Classical.em (a.cps.toList < b.cps.toList) with k | k
    · exact k
    · exact absurd (str_ext (List.le_antisymm h1 (List.not_lt.mp k))) (fun e => n.1 (e ▸ hb))
end LA
namespace LA
open PySem PySem.Spec PyProof.Rows L2 Lay
theorem KeepM.back {p l z : Addr} {M M' : Mem} (k : KeepM p l M M') (h : M' z = none) (h1 : z ≠ p) (h2 : z ≠ l) : M z = none := by
  cases e : M z with
  | none => rfl
  | some o =>
    have := k z h1 h2 (by rw [e]; exact fun z => nomatch z)
    rw [h, e] at this
    cases this
theorem len_m {M : Mem} {a : Addr} {ds : List D} {Q : D → Mem → Prop} (h : M a = some (.lst ds)) : aLen [.ref a] M Q = Q (.int ds.length) M := by
  have v := view_m h
  refine propext ⟨fun ⟨d, n, e, h', q⟩ => ?_, fun q => ⟨_, _, rfl, by rw [v]; rfl, q⟩⟩
  cases e
  rw [v] at h'
  cases h'
  exact q
/-- pairs of ints, in order -/
abbrev pD (c : Int × Int) : D := .tup [.int c.1, .int c.2]
def leC (a b : Int × Int) : Bool := decide (a.1 < b.1 ∨ (a.1 = b.1 ∧ a.2 ≤ b.2))
def sortC (us : List (Int × Int)) : List (Int × Int) := us.mergeSort leC
theorem leD_pair (a b : Int × Int) : leD (pD a) (pD b) = leC a b := by
  have := congrFun (congrFun (PySem.W.dataLe_ii (fun c : Int × Int => c.1) (fun c => c.2)) a) b
  exact this
theorem sortD_pairs (us : List (Int × Int)) : sortD (us.map pD) = (sortC us).map pD := by
  unfold sortD sortC
  rw [List.map_mergeSort fun a _ b _ => (leD_pair a b).symm]
theorem sortC_perm (us : List (Int × Int)) : (sortC us).Perm us := List.mergeSort_perm ..
theorem sortC_up {us : List (Int × Int)} (nd : us.Nodup) : (sortC us).Pairwise fun a b => a.1 < b.1 ∨ (a.1 = b.1 ∧ a.2 < b.2) := by
  have h := List.pairwise_mergeSort (le := leC) (fun a b c h k => by
    unfold leC at *
    rw [decide_eq_true_eq] at *
    omega) (fun a b => by
    unfold leC
    rw [Bool.or_eq_true, decide_eq_true_eq, decide_eq_true_eq]
    omega) us
  have n : (sortC us).Pairwise fun a b => a ≠ b := (sortC_perm us).nodup_iff.mpr nd
  refine (h.and n).imp fun {a b} ⟨h1, h2⟩ => ?_
  have h1 := of_decide_eq_true h1
  rcases h1 with h1 | ⟨h1, h3⟩
  · exact .inl h1
  · refine .inr ⟨h1, ?_⟩
    rcases Int.lt_or_eq_of_le h3 with h | h
    · exact h
    · exact absurd (Prod.ext h1 h) h2
theorem sorted_pairs {M : Mem} {a : Addr} {us : List (Int × Int)} {Q : D → Mem → Prop} (h : M a = some (.lst (us.map pD))) (hl : us.length ≤ 1000000) (q : Q (.lst ((sortC us).map pD)) M) : aSorted [.ref a] M Q := by
  have e : pyL (us.map pD) = us.map fun c => PyData.tuple [.int c.1, .int c.2] := by
    rw [pyL_map, List.map_map]
    rfl
  refine ⟨_, us.map pD, rfl, by unfold listD; rw [view_m h], ?_, ?_, ?_, by rw [List.length_map]; exact hl, ?_, by rw [sortD_pairs]; exact q⟩
  · rw [plainL_all, List.all_map]
    exact List.all_eq_true.mpr fun _ _ => rfl
  · rw [e]
    exact PySem.W.AllAlike.of fun _ _ => rfl
  · rw [e]
    exact PySem.W.Sortable.tuples fun b => ⟨_, _, rfl⟩
  · intro d hd
    obtain ⟨y, _, rfl⟩ := List.mem_map.mp hd
    simp [py, pyL, PyData.depth, PyData.depthAll]
end LA
namespace LA
open PySem PySem.Spec PyProof.Rows L2 Lay
theorem pyL_pairs : ∀ us : List (Int × Int), pyL (us.map pD) = us.map fun c => PyData.tuple [.int c.1, .int c.2]
  | [] => rfl
  | y :: r => by rw [List.map_cons, pyL, pyL_pairs r]; rfl
theorem pair_fine (c : Int × Int) : Fine (pD c) := ⟨rfl, by simp [shortD, shortL], rfl, by simp [py, pyL, PyData.depth, PyData.depthAll]⟩
/-- c not in cs, cs a list of pairs that changes -/
theorem notIn_pairs {M : Mem} {a : Addr} {us : List (Int × Int)} {c : Int × Int} {Q : D → Mem → Prop} (h : M a = some (.lst (us.map pD))) : aIn true (pD c) (.ref a) M Q = Q (.bl (!decide (c ∈ us))) M := by
  have v := view_m h
  have lay : PyData.canLayAll0 (pyL (us.map pD)) = true := by
    rw [pyL_pairs]
    clear h v
    induction us with
    | nil => rfl
    | cons y r ih =>
      rw [List.map_cons, PyData.canLayAll0, ih]
      rfl
  have pl : plainL (us.map pD) = true := by
    rw [plainL_all, List.all_map]
    exact List.all_eq_true.mpr fun _ _ => rfl
  have e : ((us.map pD).any fun z => PyData.eqv (py z) (py (view M (pD c)))) = decide (c ∈ us) := by
    rw [List.any_map, Bool.eq_iff_iff, List.any_eq_true, decide_eq_true_eq]
    constructor
    · rintro ⟨y, hy, e⟩
      have e' : ((y.1 == c.1) && ((y.2 == c.2) && true)) = true := e
      rw [Bool.and_true, Bool.and_eq_true, beq_iff_eq, beq_iff_eq] at e'
      have : y = c := Prod.ext e'.1 e'.2
      exact this ▸ hy
    · intro h
      exact ⟨c, h, by show ((c.1 == c.1) && ((c.2 == c.2) && true)) = true; simp⟩
  unfold aIn
  rw [v]
  refine propext ⟨fun z => ?_, fun z => ⟨⟨(pair_fine c).okE, pl, lay⟩, ?_⟩⟩
  · have := z.2
    rw [e] at this
    exact this
  · rw [e]
    exact z
end LA
namespace LA
/-- the first three statements alone: what follows is a letter -/
theorem cut3 {t1 t2 t3 u : AS} {A : AEnds} {Γ : Sl} {M : Mem} (N : Sl → Mem → Prop) (h1 : ∀ u : AS, (∀ Γ' M', N Γ' M' → u A Γ' M') → aSeq t1 (aSeq t2 (aSeq t3 u)) A Γ M) (h2 : ∀ Γ' M', N Γ' M' → u A Γ' M') :
    aSeq t1 (aSeq t2 (aSeq t3 u)) A Γ M := h1 u h2
theorem cut1 {t1 u : AS} {A : AEnds} {Γ : Sl} {M : Mem} (N : Sl → Mem → Prop) (h1 : ∀ u : AS, (∀ Γ' M', N Γ' M' → u A Γ' M') → aSeq t1 u A Γ M) (h2 : ∀ Γ' M', N Γ' M' → u A Γ' M') : aSeq t1 u A Γ M := h1 u h2
end LA
/-! Texts compared as they are. -/
namespace LA
open PySem PySem.Spec PyProof.Rows L2 Lay
def aNeS : A2 := fun x y M Q => ∃ a b, x = .str a ∧ y = .str b ∧ Q (.bl (!decide (a = b))) M
def aEqS : A2 := fun x y M Q => ∃ a b, x = .str a ∧ y = .str b ∧ Q (.bl (decide (a = b))) M
theorem s_neS {K : PySem.W.Frag} : S2 K rNe aNeS := by
  rintro N M H x y dx dy Q Q' m rx ry ⟨a, b, rfl, rfl, q⟩ k
  cases rx.str_inv
  cases ry.str_inv
  have e : decide ((V.str a) = .str b) = decide (a = b) := by simp
  exact ⟨rfl, by rw [e]; exact k.here m (.bl _) q⟩
theorem s_eqS {K : PySem.W.Frag} : S2 K rEq aEqS := by
  rintro N M H x y dx dy Q Q' m rx ry ⟨a, b, rfl, rfl, q⟩ k
  cases rx.str_inv
  cases ry.str_inv
  have e : decide ((V.str a) = .str b) = decide (a = b) := by simp
  exact ⟨rfl, by rw [e]; exact k.here m (.bl _) q⟩
theorem neS {x : Str} {M : Mem} {Q : D → Mem → Prop} (q : Q (.bl false) M) : aNeS (.str x) (.str x) M Q := ⟨x, x, rfl, rfl, by simpa using q⟩
end LA
/-! The end of a law: levels, recursion, defs with defaults, classes. -/
namespace Lay
open PySem PySem.Spec PyProof.Rows L2
/-- a def with defaults dvs -/
structure FunG (K : PySem.W.Frag) (x qual : Str) (st : Stmt) (dvs : List V) (f : Addr) (fd : FuncData) : Prop where
  ex : ∃ (oc : Value) (od : Option Addr) (dV kV doc pm : Value) (an : Option Addr) (cdv ct : Value) (osl : Array (Option Value)),
    fd = PySem.W.fnOf x qual (defArgs st) (defBody st) (defScope st) dV kV doc pm an cdv ct ∧ K.lookup f = some ⟨oc, od, .func fd, osl⟩ ∧ PySem.W.codeIn K cdv qual = true ∧ DflV K dV dvs
  kp : PySem.W.keepIn K (.ref f) = true
section
variable {P : Program} {w : World} {K : PySem.W.Frag} {mg : Str → Option Value} {base : Heap}
theorem okGD {x qual : Str} {st : Stmt} {dvs : List V} {f : Addr} {fd : FuncData} {N ps : List Str} {k : Nat} {sp : Sp}
    (F : FunG K x qual st dvs f fd) (S : FnScope N ps (defScope st))
    (len : ∀ zs G R Z, sp zs G R Z → zs.length = ps.length)
    (body : ∀ (cv : Value) (A : Around) (out : List Env) (t : Shared) (G : Hp) (zs : List V) (R : VK) (Z : XK),
      Room k (A.deeper (envOfC qual (defScope st) t.heap.objs.size f cv)) → Quiet A → sp zs G R Z →
      ∃ b, PSs (cxOf CX0 P w K mg base N qual (defScope st) f cv A out t G Z).nox (defBody st) b ∧
        b { nx := fun _ G' => R .non G', rt := R } (start N zs) G) :
    FnG P w K mg base CX0 (k + 1) f fd ps sp where
  len := len
  run := by
    obtain ⟨oc, od, dV, kV, dc, pm, an, cv, ct, sl, rfl, lk, hcd, _⟩ := F.ex
    intro A out t G ar ws zs R Z hr hq e0 hb r hsp
    have old : ∀ b o, base.get? b = some o → t.heap.get? b = some o := fun b o q => (e0.bs b o q).1
    have KX : K.In t.heap := e0.mod.kin.keeps old
    have lim : t.heap.NoLimit := e0.mod.nolimit.keeps old
    obtain ⟨b, hP, hB⟩ := body cv A out t G zs R Z (hr.deeper _) hq hsp
    have kinds : ∀ y ∈ ps.zip ws, (defScope st).names.lookup y.1 = some .local ∨
        ((defScope st).names.lookup y.1 = some .cell ∧ ((cellsFrom (t.heap.objs.size + 1) (defScope st).names []).lookup y.1).isSome = true) := by
      rintro ⟨n, v⟩ hy
      have hn : n ∈ ps := (List.of_mem_zip hy).1
      exact (S.par n hn).imp id fun q => ⟨q, PySem.W.cellsFrom_some _ _ _ (.inl q)⟩
    refine codeAny_call_function hr.depth (KX _ _ lk) rfl S.co S.gen rfl (PySem.W.codeRec_of KX hcd) (hb _ _ _ _ ?_)
    refine wpAny_newFunctionEnv_cells S.kind kinds ?_
    rintro env rfl s1 x
    refine ⟨lim.keeps x.toInCall.keep, codeAny_func ?_⟩
    have I0 := inv_start (CX := CX0) (E := Z) S hr.hd e0 (len _ _ _ _ hsp) r x
    refine wpAny_mono (hP.nox.run [] s1 (start N zs) G _ I0 hB) ?_ fun _ _ hz => hz
    intro fl s' hs
    cases fl with
    | ret u =>
      obtain ⟨v, _, G', J, rv, q⟩ := hs
      exact ⟨v, G', J.os, J.bare, J.base, J.hok, rv, q⟩
    | next =>
      obtain ⟨_, G', J, q⟩ := hs
      exact ⟨V.non, G', J.os, J.bare, J.base, J.hok, rfl, q⟩
    | brk => exact (hs.choose_spec.choose_spec.2 : False).elim
    | cont => exact (hs.choose_spec.choose_spec.2 : False).elim
/-- more room -/
theorem FnG.up {CX : CXT} {k j : Nat} {f : Addr} {fd : FuncData} {ps : List Str} {sp : Sp} (F : FnG P w K mg base CX k f fd ps sp) (h : k ≤ j) : FnG P w K mg base CX j f fd ps sp where
  len := F.len
  run := fun A out t G ar ws zs R Z hr => F.run A out t G ar ws zs R Z (hr.mono h)
theorem Has.up {k j : Nat} {x : Str} {ps : List Str} {sp : Sp} (D : Has P w K mg base k x ps sp) (h : k ≤ j) : Has P w K mg base j x ps sp := by
  obtain ⟨f, fd, F, r⟩ := D
  exact ⟨f, fd, F.up h, r⟩
/-- another promise of the same def -/
theorem FnG.sp {CX : CXT} {k : Nat} {f : Addr} {fd : FuncData} {ps : List Str} {sp sp' : Sp} (F : FnG P w K mg base CX k f fd ps sp) (h : ∀ zs G R Z, sp' zs G R Z → sp zs G R Z) : FnG P w K mg base CX k f fd ps sp' where
  len := fun zs G R Z q => F.len zs G R Z (h _ _ _ _ q)
  run := fun A out t G ar ws zs R Z hr hq e0 hb r q => F.run A out t G ar ws zs R Z hr hq e0 hb r (h _ _ _ _ q)
theorem Has.sp {k : Nat} {x : Str} {ps : List Str} {sp sp' : Sp} (D : Has P w K mg base k x ps sp) (h : ∀ zs G R Z, sp' zs G R Z → sp zs G R Z) : Has P w K mg base k x ps sp' := by
  obtain ⟨f, fd, F, r⟩ := D
  exact ⟨f, fd, F.sp h, r⟩
end
section
variable {K : PySem.W.Frag} {x qual : Str} {st : Stmt} {dvs : List V} {f : Addr} {fd : FuncData} {ps : List Str}
theorem funG_mk {oc : Value} {od an : Option Addr} {osl : Array (Option Value)} {T : Addr} {o : Obj} {its : List Value} {n : Nat} {kV doc pm cdv ct : Value}
    (l : K.lookup f = some ⟨oc, od, .func (PySem.W.fnOf x qual (defArgs st) (defBody st) (defScope st) (.ref T) kV doc pm an cdv ct), osl⟩)
    (c : PySem.W.codeIn K cdv qual = true) (k : PySem.W.keepIn K (.ref f) = true) (lT : K.lookup T = some o) (dT : o.data = .seq its.toArray n) (ne : dvs ≠ []) (r : Vals dvs its) :
    FunG K x qual st dvs f (PySem.W.fnOf x qual (defArgs st) (defBody st) (defScope st) (.ref T) kV doc pm an cdv ct) :=
  ⟨⟨oc, od, .ref T, kV, doc, pm, an, cdv, ct, osl, rfl, l, c, .inr ⟨ne, T, o, its, n, rfl, lT, dT, r⟩⟩, k⟩
theorem FunG.binds (F : FunG K x qual st dvs f fd) (hd : dvs ≠ []) (n j : Nat) (hn : n + (dvs.length - j) = ps.length)
    (h : ∀ (T : Addr) (kV doc pm : Value) (an : Option Addr) (cdv ct : Value) (us its : List Value), us.length = n → its.length = dvs.length →
      ∃ k, bindArgs (PySem.W.fnOf x qual (defArgs st) (defBody st) (defScope st) (.ref T) kV doc pm an cdv ct) ⟨us, []⟩ = seqItems? (.ref T) >>= k ∧ k (some its.toArray) = pure (ps.zip (us ++ its.drop j))) :
    ∃ ds, Binds K fd ps ds ∧ Vals (dvs.drop j) ds := by
  obtain ⟨oc, od, dV, kV, doc, pm, an, cdv, ct, osl, rfl, lk, hcd, hD⟩ := F.ex
  rcases hD with ⟨e, _⟩ | ⟨_, T, o, its, m, rfl, lT, oT, rT⟩
  · exact absurd e hd
  · refine ⟨its.drop j, fun s us X hlen => ?_, rT.drop j⟩
    have l1 : its.length = dvs.length := rT.length.symm
    have l2 : us.length = n := by
      rw [List.length_append, List.length_drop, l1] at hlen
      omega
    obtain ⟨k, e1, e2⟩ := h T kV doc pm an cdv ct us its l2 l1
    refine BindsTo.of_looks fun M => ?_
    rw [e1]
    exact looks_items X lT oT (.of_pure e2)
theorem FunG.kbinds (F : FunG K x qual st dvs f fd) (hd : dvs ≠ []) (ks : List Str) (gu : List Value → List Value)
    (h : ∀ (T : Addr) (kV doc pm : Value) (an : Option Addr) (cdv ct self : Value) (ws its : List Value), ws.length = ks.length → its.length = dvs.length →
      ∃ k, bindArgs (PySem.W.fnOf x qual (defArgs st) (defBody st) (defScope st) (.ref T) kV doc pm an cdv ct) ⟨[self], ks.zip ws⟩ = seqItems? (.ref T) >>= k ∧ k (some its.toArray) = pure (ps.zip (self :: gu ws)))
    (s : Shared) (self : Value) (ws : List Value) (X : K.In s.heap) (hl : ws.length = ks.length) : BindsTo s fd ⟨[self], ks.zip ws⟩ (ps.zip (self :: gu ws)) := by
  obtain ⟨oc, od, dV, kV, doc, pm, an, cdv, ct, osl, rfl, lk, hcd, hD⟩ := F.ex
  rcases hD with ⟨e, _⟩ | ⟨_, T, o, its, m, rfl, lT, oT, rT⟩
  · exact absurd e hd
  · obtain ⟨k, e1, e2⟩ := h T kV doc pm an cdv ct self ws its hl rT.length.symm
    refine BindsTo.of_looks fun M => ?_
    rw [e1]
    exact looks_items X lT oT (.of_pure e2)
end
end Lay
namespace LA
open PySem PySem.Spec PyProof.Rows L2 Lay
section
variable {P : Program} {w : World} {K : PySem.W.Frag} {mg : Str → Option Value} {base : Heap}
theorem okAD {x qual : Str} {st : Stmt} {dvs : List V} {f : Addr} {fd : FuncData} {N ps : List Str} {k : Nat} {A : ASp} {as : AS}
    (F : FunG K x qual st dvs f fd) (S : FnScope N ps (defScope st)) (len : ∀ ds M Q, A ds M Q → ds.length = ps.length)
    (body : ∀ (cv : Value) (A : Around) (out : List Env) (t : Shared) (G : Hp) (Z : XK), Room k (A.deeper (envOfC qual (defScope st) t.heap.objs.size f cv)) → Quiet A →
      PSs (cxOf CX0 P w K mg base N qual (defScope st) f cv A out t G Z).nox (defBody st) (cS K as))
    (main : ∀ ds M Q, A ds M Q → as (endsA Q) (startA N ds) M) : FnG P w K mg base CX0 (k + 1) f fd ps (spA K A) := by
  refine okGD F S (fun zs G R Z h => ?_) (fun cv A' out t G zs R Z hr hq h => ⟨_, body cv A' out t G Z hr hq, ?_⟩)
  · obtain ⟨_, M, ds, Q', _, r, a, _⟩ := h
    rw [r.len]
    exact len _ _ _ a
  · obtain ⟨Nh, M, ds, Q', m, r, a, kk⟩ := h
    refine ⟨Nh, M, startA N ds, endsA Q', ⟨m, ?_⟩, main _ _ _ a, ⟨fun σ' H' Γ' M' e1 o1 q1 => kk .non .non H' M' e1 o1.m .non q1, fun _ _ _ _ _ _ z => z.elim, fun _ _ _ _ _ _ z => z.elim, kk⟩⟩
    unfold startA L2.start
    rw [r.len]
    exact slots_some (slots_none _) r
/-- one of two promises -/
theorem fnOr {k : Nat} {f : Addr} {fd : FuncData} {ps : List Str} {A B : ASp} (F : FnG P w K mg base CX0 k f fd ps (spA K A)) (G : FnG P w K mg base CX0 k f fd ps (spA K B)) : FnG P w K mg base CX0 k f fd ps (spA K fun ds M Q => A ds M Q ∨ B ds M Q) where
  len := by
    rintro zs H R Z ⟨Nh, M, ds, Q', m, r, a | a, kk⟩
    · exact F.len zs H R Z ⟨Nh, M, ds, Q', m, r, a, kk⟩
    · exact G.len zs H R Z ⟨Nh, M, ds, Q', m, r, a, kk⟩
  run := by
    rintro A' out t H ar ws zs R Z hr hq e0 hb hv ⟨Nh, M, ds, Q', m, r, a | a, kk⟩
    · exact F.run A' out t H ar ws zs R Z hr hq e0 hb hv ⟨Nh, M, ds, Q', m, r, a, kk⟩
    · exact G.run A' out t H ar ws zs R Z hr hq e0 hb hv ⟨Nh, M, ds, Q', m, r, a, kk⟩
/-- a promise that is never asked -/
theorem fnNone {k : Nat} {f : Addr} {fd : FuncData} {ps : List Str} : FnG P w K mg base CX0 k f fd ps (spA K fun _ _ _ => False) where
  len := by
    rintro zs H R Z ⟨Nh, M, ds, Q', m, r, a, kk⟩
    exact a.elim
  run := by
    rintro A' out t H ar ws zs R Z hr hq e0 hb hv ⟨Nh, M, ds, Q', m, r, a, kk⟩
    exact a.elim
end
end LA
namespace E60
open PySem PySem.Spec PyProof.Rows L2 Lay LA
open M60 (Ex Te ev)
section
variable {P : Program} {w : World} {K : PySem.W.Frag} {mg : Str → Option Value} {base : Heap}
abbrev Its := List ((Int × Int) × Int)
def itD (p : (Int × Int) × Int) : D := .tup [.tup [.int p.1.1, .int p.1.2], .int p.2]
def valsD (its : Its) : Cells := putsD [] (its.map fun p => (kvC p.1, .int p.2))
def aEvaluate (n : Nat) : ASp := fun ds M Q => ∃ m e its g cs inp env, ds = [m, ofPy e, .tup (its.map itD), .int g] ∧ its.length ≤ 1000 ∧ Ex cs inp n e ∧ Vals' (valsD its) cs env g ∧ Q (.int (ev env g n e).1) M
def aHolds (n : Nat) : ASp := fun ds M Q => ∃ m e its g cs inp env, ds = [m, ofPy e, .tup (its.map itD), .int g] ∧ its.length ≤ 1000 ∧ Te cs inp n e ∧ Vals' (valsD its) cs env g ∧ Q (.bl (ev env g n e).2) M
def itVal : D → D
  | .tup [_, v] => v
  | d => d
theorem vals_eq (its : Its) : putsD [] ((its.map itD).map fun d => (ckey d, itVal d)) = valsD its := by
  unfold valsD
  rw [List.map_map]
  rfl
section
variable {n : Nat} (D_value_of : Has P w K mg base (n + 1) "value_of" ["expression", "values", "number"] (spA K (aValue n)))
include D_value_of in
theorem ok_Module_evaluate {f : Addr} {fd : FuncData} {dvs : List V} (F : FunG K "evaluate" "Module.evaluate" s_Module_evaluate dvs f fd) :
    FnG P w K mg base CX0 (n + 2) f fd ["self", "expression", "content", "number"] (spA K (aEvaluate n)) := by
  have nd := sc_Module_evaluate.nd
  refine okAD (k := n + 1) F sc_Module_evaluate (fun ds M Q h => by obtain ⟨_, _, _, _, _, _, _, rfl, _⟩ := h; rfl) (fun cv A' out t G Z hr hq => (ass_one (as_ret (ae_c D_value_of (hr.mono (by omega)) hq (aa_cons (av 1) (aa_cons (ae_dc true (own := [("cell", 4), ("value", 5)]) hr.u1 rfl nd (ai_seq (av 2)) (blkOk_by (own := [("cell", 4), ("value", 5)]) (N := N_Module_evaluate) (sc := defScope s_Module_evaluate) (by decide +kernel)) (fun _ _ _ _ _ => (gTupK K (pg_tup (n := 2) (by rfl) (pgs_cons (pg_name (i := 4) nd rfl (by first | exact Or.inl rfl | exact Or.inr rfl)) (pgs_cons (pg_name (i := 5) nd rfl (by first | exact Or.inl rfl | exact Or.inr rfl)) pgs_nil))))) (go_tup (gos_cons (go_name 4) (gos_cons (go_name 5) gos_nil))) (by decide) (fun _ _ _ _ _ => ats_nil) (fun _ _ _ _ _ => (av 4)) (fun _ _ _ _ _ => (av 5))) (aa_cons (av 3) aa_nil))))))) (fun ds M Q h => ?_)
  obtain ⟨m, e, its, g, cs, inp, env, rfl, hl, hx, hV, q⟩ := h
  simp only [aSeq, aAsg, aGName, aGTup, aGCons, aGNil, unTup, aVar, aC, aOp, aUn, aTest, aChain, aAnd, aOr, aNot, aIf, aAndT, aOrT, aNotT, aNil, aCons, aTup, aLst, aLstM, aDictM, aCB, aLc, aLc2, aDc, aFld, aFldSet, aMeth, aMethK, aMake, aMakeM, aPairs, aDisp, aRev, aRevM, aPutAt, aAugI, aFor, aWhile, aSeqW, aRng1, aRng2, aEnum, aNext, aNever, aBreak, aCont, aDrop, aRet, aRetN, aIfS, aPar, aCall, aYes, startA, endsA, aI, aU, aBM, aBM0, aTx, aSl, aNoPart, aPart, List.map_cons, List.map_nil, List.length_cons, List.length_nil, List.replicate_succ, List.replicate_zero, List.cons_append, List.nil_append, List.append_nil, List.set_cons_zero, List.set_cons_succ, List.getElem?_cons_zero, List.getElem?_cons_succ, Option.some.injEq, exists_eq_left', D.int.injEq, D.str.injEq, D.bl.injEq, D.ref.injEq, D.tup.injEq, D.lst.injEq, List.cons.injEq, and_true, true_and, exists_and_left, exists_eq_left, exists_eq, and_assoc, Nat.reduceAdd, Nat.reduceSub, Nat.zero_add, exists_and_right, exists_const, if_true, if_false, Bool.not_true, Bool.not_false, Bool.false_eq_true, wipeA, N_Module_evaluate]
  refine ⟨_, rfl, dcT_go headD itVal ckey trivial (by rw [List.length_map]; omega) (fun d hd => ?_) (fun d hd C R hC => ?_) ?_⟩
  · obtain ⟨p, _, rfl⟩ := List.mem_map.mp hd
    exact ⟨_, rfl, rfl, rfl⟩
  · obtain ⟨p, _, rfl⟩ := List.mem_map.mp hd
    show _
    simp only [itD] at hC ⊢
    simp only [aSeq, aAsg, aGName, aGTup, aGCons, aGNil, unTup, aVar, aC, aOp, aUn, aTest, aChain, aAnd, aOr, aNot, aIf, aAndT, aOrT, aNotT, aNil, aCons, aTup, aLst, aLstM, aDictM, aCB, aLc, aLc2, aDc, aFld, aFldSet, aMeth, aMethK, aMake, aMakeM, aPairs, aDisp, aRev, aRevM, aPutAt, aAugI, aFor, aWhile, aSeqW, aRng1, aRng2, aEnum, aNext, aNever, aBreak, aCont, aDrop, aRet, aRetN, aIfS, aPar, aCall, aYes, startA, endsA, aI, aU, aBM, aBM0, aTx, aSl, aNoPart, aPart, List.map_cons, List.map_nil, List.length_cons, List.length_nil, List.replicate_succ, List.replicate_zero, List.cons_append, List.nil_append, List.append_nil, List.set_cons_zero, List.set_cons_succ, List.getElem?_cons_zero, List.getElem?_cons_succ, Option.some.injEq, exists_eq_left', D.int.injEq, D.str.injEq, D.bl.injEq, D.ref.injEq, D.tup.injEq, D.lst.injEq, List.cons.injEq, and_true, true_and, exists_and_left, exists_eq_left, exists_eq, and_assoc, Nat.reduceAdd, Nat.reduceSub, Nat.zero_add, exists_and_right, exists_const, if_true, if_false, Bool.not_true, Bool.not_false, Bool.false_eq_true, wipeA]
    exact hC
  · rw [vals_eq]
    exact ⟨e, _, g, cs, inp, env, rfl, hx, hV, q⟩
end
section
variable {n : Nat} (D_truth_of : Has P w K mg base (n + 1) "truth_of" ["test", "values", "number"] (spA K (aTruth n)))
include D_truth_of in
theorem ok_Module_holds {f : Addr} {fd : FuncData} {dvs : List V} (F : FunG K "holds" "Module.holds" s_Module_holds dvs f fd) :
    FnG P w K mg base CX0 (n + 2) f fd ["self", "test", "content", "number"] (spA K (aHolds n)) := by
  have nd := sc_Module_holds.nd
  refine okAD (k := n + 1) F sc_Module_holds (fun ds M Q h => by obtain ⟨_, _, _, _, _, _, _, rfl, _⟩ := h; rfl) (fun cv A' out t G Z hr hq => (ass_one (as_ret (ae_c D_truth_of (hr.mono (by omega)) hq (aa_cons (av 1) (aa_cons (ae_dc true (own := [("cell", 4), ("value", 5)]) hr.u1 rfl nd (ai_seq (av 2)) (blkOk_by (own := [("cell", 4), ("value", 5)]) (N := N_Module_holds) (sc := defScope s_Module_holds) (by decide +kernel)) (fun _ _ _ _ _ => (gTupK K (pg_tup (n := 2) (by rfl) (pgs_cons (pg_name (i := 4) nd rfl (by first | exact Or.inl rfl | exact Or.inr rfl)) (pgs_cons (pg_name (i := 5) nd rfl (by first | exact Or.inl rfl | exact Or.inr rfl)) pgs_nil))))) (go_tup (gos_cons (go_name 4) (gos_cons (go_name 5) gos_nil))) (by decide) (fun _ _ _ _ _ => ats_nil) (fun _ _ _ _ _ => (av 4)) (fun _ _ _ _ _ => (av 5))) (aa_cons (av 3) aa_nil))))))) (fun ds M Q h => ?_)
  obtain ⟨m, e, its, g, cs, inp, env, rfl, hl, hx, hV, q⟩ := h
  simp only [aSeq, aAsg, aGName, aGTup, aGCons, aGNil, unTup, aVar, aC, aOp, aUn, aTest, aChain, aAnd, aOr, aNot, aIf, aAndT, aOrT, aNotT, aNil, aCons, aTup, aLst, aLstM, aDictM, aCB, aLc, aLc2, aDc, aFld, aFldSet, aMeth, aMethK, aMake, aMakeM, aPairs, aDisp, aRev, aRevM, aPutAt, aAugI, aFor, aWhile, aSeqW, aRng1, aRng2, aEnum, aNext, aNever, aBreak, aCont, aDrop, aRet, aRetN, aIfS, aPar, aCall, aYes, startA, endsA, aI, aU, aBM, aBM0, aTx, aSl, aNoPart, aPart, List.map_cons, List.map_nil, List.length_cons, List.length_nil, List.replicate_succ, List.replicate_zero, List.cons_append, List.nil_append, List.append_nil, List.set_cons_zero, List.set_cons_succ, List.getElem?_cons_zero, List.getElem?_cons_succ, Option.some.injEq, exists_eq_left', D.int.injEq, D.str.injEq, D.bl.injEq, D.ref.injEq, D.tup.injEq, D.lst.injEq, List.cons.injEq, and_true, true_and, exists_and_left, exists_eq_left, exists_eq, and_assoc, Nat.reduceAdd, Nat.reduceSub, Nat.zero_add, exists_and_right, exists_const, if_true, if_false, Bool.not_true, Bool.not_false, Bool.false_eq_true, wipeA, N_Module_holds]
  refine ⟨_, rfl, dcT_go headD itVal ckey trivial (by rw [List.length_map]; omega) (fun d hd => ?_) (fun d hd C R hC => ?_) ?_⟩
  · obtain ⟨p, _, rfl⟩ := List.mem_map.mp hd
    exact ⟨_, rfl, rfl, rfl⟩
  · obtain ⟨p, _, rfl⟩ := List.mem_map.mp hd
    show _
    simp only [itD] at hC ⊢
    simp only [aSeq, aAsg, aGName, aGTup, aGCons, aGNil, unTup, aVar, aC, aOp, aUn, aTest, aChain, aAnd, aOr, aNot, aIf, aAndT, aOrT, aNotT, aNil, aCons, aTup, aLst, aLstM, aDictM, aCB, aLc, aLc2, aDc, aFld, aFldSet, aMeth, aMethK, aMake, aMakeM, aPairs, aDisp, aRev, aRevM, aPutAt, aAugI, aFor, aWhile, aSeqW, aRng1, aRng2, aEnum, aNext, aNever, aBreak, aCont, aDrop, aRet, aRetN, aIfS, aPar, aCall, aYes, startA, endsA, aI, aU, aBM, aBM0, aTx, aSl, aNoPart, aPart, List.map_cons, List.map_nil, List.length_cons, List.length_nil, List.replicate_succ, List.replicate_zero, List.cons_append, List.nil_append, List.append_nil, List.set_cons_zero, List.set_cons_succ, List.getElem?_cons_zero, List.getElem?_cons_succ, Option.some.injEq, exists_eq_left', D.int.injEq, D.str.injEq, D.bl.injEq, D.ref.injEq, D.tup.injEq, D.lst.injEq, List.cons.injEq, and_true, true_and, exists_and_left, exists_eq_left, exists_eq, and_assoc, Nat.reduceAdd, Nat.reduceSub, Nat.zero_add, exists_and_right, exists_const, if_true, if_false, Bool.not_true, Bool.not_false, Bool.false_eq_true, wipeA]
    exact hC
  · rw [vals_eq]
    exact ⟨e, _, g, cs, inp, env, rfl, hx, hV, q⟩
end
end
end E60
namespace E60
open PySem PySem.Spec PyProof.Rows L2 Lay LA
section
variable {P : Program} {w : World} {K : PySem.W.Frag} {mg : Str → Option Value} {base : Heap}
/-- the deck: what the numbers are drawn from -/
def ADeck (M : Mem) (p l : Addr) (n : Nat) : Prop := ∃ (ns : List Int) (m : Int), M p = some (.lst [.ref l, .int m, .int n]) ∧ M l = some (.lst (ns.map D.int)) ∧ p ≠ l ∧ ns.length ≤ 64 ∧ 0 ≤ m ∧ m < 2147483587
theorem ADeck.new {M : Mem} {p l z : Addr} {n : Nat} {o : Mo} (h : ADeck M p l n) (hz : M z = none) : ADeck (put M z o) p l n ∧ z ≠ p ∧ z ≠ l := by
  obtain ⟨ns, m, h1, h2, r⟩ := h
  have n1 : z ≠ p := fun e => by rw [e, h1] at hz; cases hz
  have n2 : z ≠ l := fun e => by rw [e, h2] at hz; cases hz
  exact ⟨⟨ns, m, by rw [put_ne (Ne.symm n1)]; exact h1, by rw [put_ne (Ne.symm n2)]; exact h2, r⟩, n1, n2⟩
theorem ADeck.upd {M : Mem} {p l z : Addr} {n : Nat} {o : Mo} (h : ADeck M p l n) (n1 : z ≠ p) (n2 : z ≠ l) : ADeck (put M z o) p l n := by
  obtain ⟨ns, m, h1, h2, r⟩ := h
  exact ⟨ns, m, by rw [put_ne (Ne.symm n1)]; exact h1, by rw [put_ne (Ne.symm n2)]; exact h2, r⟩
def aDraw : ASp := fun ds M Q => ∃ (p l : Addr) (n : Nat) (many : Int), ds = [.ref p, .int many] ∧ ADeck M p l n ∧ n < 10 ^ 9 ∧ 0 < many ∧ many < 1000000000 ∧
  ∀ (r : Int) M', 0 ≤ r → r < many → ADeck M' p l (n + 1) → KeepM p l M M' → Q (.int r) M'
theorem ok_law_draw {f : Addr} {fd : FuncData} (F : Fun K "_law_draw" "_law_draw" s_law_draw f fd) :
    FnG P w K mg base CX0 1 f fd ["_law_deck_here", "_law_below"] (spA K aDraw) := by
  have nd := sc_law_draw.nd
  refine okA F sc_law_draw (fun ds M Q h => by obtain ⟨_, _, _, _, rfl, _⟩ := h; rfl) (fun cv A' out t G Z hr hq => (ass_cons (as_put hr.u1 (ae_op (op_addA K) s_add (ae_ix hr.u1 (av 0) ae_int (fun _ _ => rfl)) ae_int) (av 0) ae_int)
      (ass_cons (as_set (i := 2) nd rfl (Or.inl rfl) (ae_ix hr.u1 (av 0) ae_int (fun _ _ => rfl)))
      (ass_cons (as_if (at_cmp (neDK K hr.units) s_ne (ae_ix hr.u1 (av 0) ae_int (fun _ _ => rfl)) (ae_lst aa_nil) (nomark _)) (ass_cons (as_set (i := 2) nd rfl (Or.inl rfl) (ae_bm0 K s_pop (pe_bm0 PySem.F.plainAttrs_list PySem.F.slot_list_pop PySem.F.type_list_pop mt_pop (ae_ix hr.u1 (av 0) ae_int (fun _ _ => rfl)))))
        (ass_cons (as_if (at_cmp op_geA s_B (av 2) (ae_op op_pow s_I ae_int ae_int) (nomark _)) (ass_cons (as_expr (ae_bm K s_append (pe_bm PySem.F.plainAttrs_list PySem.F.slot_list_append PySem.F.type_list_append mt_append (ae_ix hr.u1 (av 0) ae_int (fun _ _ => rfl)) (aa_cons (ae_op op_fdiv s_I (av 2) (av 1)) aa_nil))))
          (ass_one (as_ret (ae_op op_mod s_I (av 2) (av 1))))) ass_nil)
        (ass_one (as_set (i := 2) nd rfl (Or.inl rfl) (ae_op (op_addA K) s_add (av 2) (ae_ix hr.u1 (av 0) ae_int (fun _ _ => rfl))))))) ass_nil)
      (ass_cons (as_set (i := 3) nd rfl (Or.inl rfl) (ae_op op_mod s_I (ae_op op_mul s_I (ae_op (op_addA K) s_add (ae_op (op_addA K) s_add (ae_op op_mod s_I (av 2) ae_int) (ae_op op_mul s_I (ae_op op_mul s_I ae_int (ae_ix hr.u1 (av 0) ae_int (fun _ _ => rfl))) (ae_ix hr.u1 (av 0) ae_int (fun _ _ => rfl)))) ae_int) ae_int) ae_int))
      (ass_cons (as_set (i := 3) nd rfl (Or.inl rfl) (ae_op op_mod s_I (ae_op (op_addA K) s_add (ae_op (op_addA K) s_add (ae_op op_mul s_I (av 3) (av 3)) (ae_op op_mul s_I ae_int (ae_ix hr.u1 (av 0) ae_int (fun _ _ => rfl)))) ae_int) ae_int))
      (ass_one (as_ret (ae_op op_mod s_I (ae_op op_fdiv s_I (ae_op op_mod s_I (ae_op op_mul s_I (av 3) (ae_op (op_addA K) s_add (ae_op op_fdiv s_I (av 3) ae_int) ae_int)) ae_int) ae_int) (av 1)))))))))) (fun ds M Q h => ?_)
  obtain ⟨p, l, n, many, rfl, ⟨ns, m, hp, hl, npl, hlen, m0, m1⟩, hn, h0, h1, k⟩ := h
  simp only [aSeq, aAsg, aGName, aGTup, aGCons, aGNil, unTup, aVar, aC, aOp, aUn, aTest, aChain, aAnd, aOr, aNot, aIf, aAndT, aOrT, aNotT, aNil, aCons, aTup, aLst, aLstM, aDictM, aCB, aLc, aLc2, aDc, aFld, aFldSet, aMeth, aMethK, aMake, aMakeM, aPairs, aDisp, aRev, aRevM, aPutAt, aAugI, aFor, aWhile, aSeqW, aRng1, aRng2, aEnum, aNext, aNever, aBreak, aCont, aDrop, aRet, aRetN, aIfS, aPar, aCall, aYes, startA, endsA, aI, aU, aBM, aBM0, aTx, aSl, aNoPart, aPart, List.map_cons, List.map_nil, List.length_cons, List.length_nil, List.replicate_succ, List.replicate_zero, List.cons_append, List.nil_append, List.append_nil, List.set_cons_zero, List.set_cons_succ, List.getElem?_cons_zero, List.getElem?_cons_succ, Option.some.injEq, exists_eq_left', D.int.injEq, D.str.injEq, D.bl.injEq, D.ref.injEq, D.tup.injEq, D.lst.injEq, List.cons.injEq, and_true, true_and, exists_and_left, exists_eq_left, exists_eq, and_assoc, Nat.reduceAdd, Nat.reduceSub, Nat.zero_add, exists_and_right, exists_const, if_true, if_false, Bool.not_true, Bool.not_false, Bool.false_eq_true, wipeA, N_law_draw]
  rw [ix_m2 hp, aAdd_ii]
  refine set_m 2 hp (by simp) rfl ?_
  generalize hG : put M p (.lst (List.set [D.ref l, .int m, .int n] 2 (.int ((n : Int) + 1)))) = G
  have gp : G p = some (.lst [.ref l, .int m, .int ((n + 1 : Nat) : Int)]) := by rw [← hG]; exact put_same
  have gl : G l = some (.lst (ns.map D.int)) := by rw [← hG, put_ne (Ne.symm npl)]; exact hl
  have gk : KeepM p l M G := by rw [← hG]; exact KeepM.refl.putP
  simp only [aSeq, aAsg, aGName, aGTup, aGCons, aGNil, unTup, aVar, aC, aOp, aUn, aTest, aChain, aAnd, aOr, aNot, aIf, aAndT, aOrT, aNotT, aNil, aCons, aTup, aLst, aLstM, aDictM, aCB, aLc, aLc2, aDc, aFld, aFldSet, aMeth, aMethK, aMake, aMakeM, aPairs, aDisp, aRev, aRevM, aPutAt, aAugI, aFor, aWhile, aSeqW, aRng1, aRng2, aEnum, aNext, aNever, aBreak, aCont, aDrop, aRet, aRetN, aIfS, aPar, aCall, aYes, startA, endsA, aI, aU, aBM, aBM0, aTx, aSl, aNoPart, aPart, List.map_cons, List.map_nil, List.length_cons, List.length_nil, List.replicate_succ, List.replicate_zero, List.cons_append, List.nil_append, List.append_nil, List.set_cons_zero, List.set_cons_succ, List.getElem?_cons_zero, List.getElem?_cons_succ, Option.some.injEq, exists_eq_left', D.int.injEq, D.str.injEq, D.bl.injEq, D.ref.injEq, D.tup.injEq, D.lst.injEq, List.cons.injEq, and_true, true_and, exists_and_left, exists_eq_left, exists_eq, and_assoc, Nat.reduceAdd, Nat.reduceSub, Nat.zero_add, exists_and_right, exists_const, if_true, if_false, Bool.not_true, Bool.not_false, Bool.false_eq_true, wipeA]
  rw [ix_m1 gp, ix_m0 gp]
  have last : ∀ (c : Int) (G' : Mem), ADeck G' p l (n + 1) → KeepM p l M G' → Q (.int (c % many)) G' := fun c G' f g =>
    k _ G' (Int.emod_nonneg _ (by omega)) (Int.emod_lt_of_pos _ h0) f g
  refine ⟨by decide, ?_⟩
  rw [ne_nil gl]
  refine ⟨_, rfl, ?_⟩
  have n9 : ((n + 1 : Nat) : Int) ≤ 10 ^ 9 := by omega
  have m2 : ∀ c : Int, CMul (c % 2147483647) (c % 2147483647) := fun c => by
    have a := Int.emod_nonneg c (show (2147483647 : Int) ≠ 0 by decide)
    have b := Int.emod_lt_of_pos c (show (0 : Int) < 2147483647 by decide)
    exact .inl ⟨by omega, by omega⟩
  have m3 : ∀ c : Int, CMul (c % 2147483563) (c % 2147483563 / 7 + 69621) := fun c => by
    have a := Int.emod_nonneg c (show (2147483563 : Int) ≠ 0 by decide)
    have b := Int.emod_lt_of_pos c (show (0 : Int) < 2147483563 by decide)
    exact .inl ⟨by omega, by omega⟩
  cases ns with
  | nil =>
    rw [if_neg (by decide)]
    refine ⟨_, rfl, by decide, ?_⟩
    rw [ix_m2 gp]
    refine ⟨_, rfl, .inl ⟨by decide, by decide⟩, ?_⟩
    rw [ix_m2 gp]
    refine ⟨_, rfl, .inr ⟨by omega, by omega⟩, ?_⟩
    rw [aAdd_ii, aAdd_ii]
    refine ⟨_, rfl, .inr ⟨by decide, by decide⟩, by decide, m2 _, ?_⟩
    rw [ix_m2 gp]
    refine ⟨_, rfl, .inl ⟨by decide, by decide⟩, ?_⟩
    rw [aAdd_ii, aAdd_ii]
    refine ⟨_, rfl, by decide, ⟨by decide, by decide⟩, ?_⟩
    rw [aAdd_ii]
    refine ⟨_, rfl, m3 _, by decide, ⟨by decide, by decide⟩, h0, ?_⟩
    exact last _ _ ⟨[], m, gp, gl, npl, by decide, m0, m1⟩ gk
  | cons z r =>
    rw [if_pos (by rfl)]
    generalize hz : (z :: r) = zs at gl hlen hl
    have hne : zs ≠ [] := by rw [← hz]; simp
    clear hz
    have pop : (zs.map D.int)[(zs.map D.int).length - 1]? = some (.int (zs.getLast hne)) := by
      rw [List.length_map, List.getElem?_map, ← List.getLast?_eq_getElem?, List.getLast?_eq_getLast hne]
      rfl
    generalize zs.getLast hne = y at pop
    have dl : (zs.map D.int).dropLast = (zs.dropLast).map D.int := by rw [List.map_dropLast]
    have dlen : zs.dropLast.length < 64 := by
      rw [List.length_dropLast]
      have : 0 < zs.length := List.length_pos_iff.mpr hne
      omega
    rw [ix_m0 gp]
    refine ⟨ty_m gl, l, _, _, rfl, rfl, gl, pop, ⟨by decide, by decide, by decide⟩, ?_⟩
    rw [dl]
    generalize hG2 : put G l (.lst (zs.dropLast.map D.int)) = G2
    have g2p : G2 p = some (.lst [.ref l, .int m, .int ((n + 1 : Nat) : Int)]) := by rw [← hG2, put_ne npl]; exact gp
    have g2l : G2 l = some (.lst (zs.dropLast.map D.int)) := by rw [← hG2]; exact put_same
    have g2k : KeepM p l M G2 := by rw [← hG2]; exact gk.putL
    refine ⟨_, rfl, ?_⟩
    show if decide ((10 : Int) ^ Int.toNat 18 ≤ y) = true then _ else _
    by_cases hb : (10 : Int) ^ Int.toNat 18 ≤ y
    · rw [decide_eq_true hb, if_pos rfl, ix_m0 g2p]
      refine ⟨ty_m g2l, _, rfl, ⟨h0, by omega⟩, l, _, _, rfl, rfl, g2l, by rw [List.length_map]; omega, _, rfl, h0, ?_⟩
      refine last _ _ ⟨zs.dropLast ++ [y / many], m, ?_, ?_, npl, ?_, m0, m1⟩ g2k.putL
      · rw [put_ne npl]
        exact g2p
      · rw [put_same, List.map_append]
        rfl
      · rw [List.length_append]
        simp only [List.length_cons, List.length_nil]
        omega
    · rw [decide_eq_false hb, if_neg (by decide), ix_m1 g2p, aAdd_ii]
      refine ⟨_, rfl, by decide, ?_⟩
      rw [ix_m2 g2p]
      refine ⟨_, rfl, .inl ⟨by decide, by decide⟩, ?_⟩
      rw [ix_m2 g2p]
      refine ⟨_, rfl, .inr ⟨by omega, by omega⟩, ?_⟩
      rw [aAdd_ii, aAdd_ii]
      refine ⟨_, rfl, .inr ⟨by decide, by decide⟩, by decide, m2 _, ?_⟩
      rw [ix_m2 g2p]
      refine ⟨_, rfl, .inl ⟨by decide, by decide⟩, ?_⟩
      rw [aAdd_ii, aAdd_ii]
      refine ⟨_, rfl, by decide, ⟨by decide, by decide⟩, ?_⟩
      rw [aAdd_ii]
      refine ⟨_, rfl, m3 _, by decide, ⟨by decide, by decide⟩, h0, ?_⟩
      exact last _ _ ⟨zs.dropLast, m, g2p, g2l, npl, by omega, m0, m1⟩ g2k
/-! ### an item of a list, a tuple, a text -/
def aPick : ASp := fun ds M Q => ∃ (p l : Addr) (n : Nat) (it : D) (its : List D), ds = [.ref p, it] ∧ ADeck M p l n ∧ n < 10 ^ 9 ∧ (it = .lst its ∨ it = .tup its ∨ ∃ z, it = .str z ∧ its = LA.signs z) ∧ its ≠ [] ∧ its.length < 1000000 ∧
  ∀ (d : D) M', d ∈ its → ADeck M' p l (n + 1) → KeepM p l M M' → Q d M'
theorem ok_law_pick {f : Addr} {fd : FuncData} (F : Fun K "_law_pick" "_law_pick" s_law_pick f fd) (z_len : mg "len" = none) (D_law_draw : Has P w K mg base 1 "_law_draw" ["_law_deck_here", "_law_below"] (spA K aDraw)) :
    FnG P w K mg base CX0 2 f fd ["_law_deck_here", "_law_items"] (spA K aPick) := by
  have nd := sc_law_pick.nd
  refine okA F sc_law_pick (fun ds M Q h => by obtain ⟨_, _, _, _, _, rfl, _⟩ := h; rfl) (fun cv A' out t G Z hr hq => (ass_one (as_ret (ae_ix hr.u1 (av 1) (ae_c D_law_draw (hr.mono (by decide)) hq (aa_cons (av 0) (aa_cons (ae_callB (c_len K) s_len z_len (by decide +kernel) (aa_cons (av 1) aa_nil)) aa_nil))) (fun _ _ => rfl))))) (fun ds M Q h => ?_)
  obtain ⟨p, l, n, it, its, rfl, hD, hn, hit, hne, hl, k⟩ := h
  simp only [aSeq, aAsg, aGName, aGTup, aGCons, aGNil, unTup, aVar, aC, aOp, aUn, aTest, aChain, aAnd, aOr, aNot, aIf, aAndT, aOrT, aNotT, aNil, aCons, aTup, aLst, aLstM, aDictM, aCB, aLc, aLc2, aDc, aFld, aFldSet, aMeth, aMethK, aMake, aMakeM, aPairs, aDisp, aRev, aRevM, aPutAt, aAugI, aFor, aWhile, aSeqW, aRng1, aRng2, aEnum, aNext, aNever, aBreak, aCont, aDrop, aRet, aRetN, aIfS, aPar, aCall, aYes, startA, endsA, aI, aU, aBM, aBM0, aTx, aSl, aNoPart, aPart, List.map_cons, List.map_nil, List.length_cons, List.length_nil, List.replicate_succ, List.replicate_zero, List.cons_append, List.nil_append, List.append_nil, List.set_cons_zero, List.set_cons_succ, List.getElem?_cons_zero, List.getElem?_cons_succ, Option.some.injEq, exists_eq_left', D.int.injEq, D.str.injEq, D.bl.injEq, D.ref.injEq, D.tup.injEq, D.lst.injEq, List.cons.injEq, and_true, true_and, exists_and_left, exists_eq_left, exists_eq, and_assoc, Nat.reduceAdd, Nat.reduceSub, Nat.zero_add, exists_and_right, exists_const, if_true, if_false, Bool.not_true, Bool.not_false, Bool.false_eq_true, wipeA, N_law_pick]
  have hpos : 0 < its.length := List.length_pos_iff.mpr hne
  have hlen : ∀ {Q : D → Mem → Prop}, aLen [it] M Q = Q (.int its.length) M := by
    intro Q
    rcases hit with rfl | rfl | ⟨z, rfl, rfl⟩
    · exact len_lst
    · exact len_tup
    · have e : (LA.signs z).length = z.length := by simp [LA.signs, Str.length]
      rw [e] at hl ⊢
      exact len_str (by omega)
  have hix : ∀ {M' : Mem} {Q : D → Mem → Prop} (k : Nat) (x : D), its[k]? = some x → aIx it (.int k) M' Q = Q x M' := by
    intro M' Q k0 x hk
    rcases hit with rfl | rfl | ⟨z, rfl, rfl⟩
    · exact ix_lk k0 hk
    · exact ix_tk k0 hk
    · exact ix_sk k0 hk (by simpa [LA.signs, Str.length] using Nat.le_of_lt hl)
  rw [hlen]
  refine ⟨p, l, n, _, rfl, hD, hn, by omega, by omega, fun r M' r0 r1 hD' hk => ?_⟩
  obtain ⟨j, rfl⟩ : ∃ j : Nat, r = j := ⟨r.toNat, by omega⟩
  have hj : its[j]? = some its[j] := List.getElem?_eq_getElem (by omega)
  rw [hix j _ hj]
  exact k _ _ (List.mem_of_getElem? hj) hD' hk
end
end E60
namespace E60
open PySem PySem.Spec PyProof.Rows L2 Lay LA
section
variable {P : Program} {w : World} {K : PySem.W.Frag} {mg : Str → Option Value} {base : Heap}
def aDeck : ASp := fun ds M Q => ∃ ns : List Int, ds = [.scr (ns.map D.int)] ∧ ns.length ≤ 63 ∧ ∀ p l M', M p = none → M l = none → ADeck M' p l 0 → KeepM p l M M' → Q (.ref p) M'
theorem ok_law_deck {f : Addr} {fd : FuncData} (F : Fun K "_law_deck" "_law_deck" s_law_deck f fd) (z_list : mg "list" = none) :
    FnG P w K mg base CX0 1 f fd ["_law_script"] (spA K aDeck) := by
  have nd := sc_law_deck.nd
  refine okA F sc_law_deck (fun ds M Q h => by obtain ⟨_, rfl, _⟩ := h; rfl) (fun cv A' out t G Z hr hq => (ass_cons (as_par (i := 2) (j := 3) (by rfl) nd rfl rfl (by decide) rfl rfl (aa_cons (ae_callTy (copyK K) s_list z_list (by decide +kernel) (aa_cons (ae_sl (av 0) ao_none (ao_some ae_int)) aa_nil)) (aa_cons ae_int aa_nil)) (by rfl))
      (ass_cons (as_for PassesOwn.never rfl (ai_seq (av 2)) (pg_name (i := 1) nd rfl (Or.inl rfl)) (go_name 1)
        (ass_one (as_set (i := 3) nd rfl (Or.inl rfl) (ae_op op_mod s_I (ae_op (op_addA K) s_add (ae_op (op_addA K) s_add (ae_op op_mul s_I (av 3) ae_int) (ae_op op_mod s_I (av 1) ae_int)) ae_int) ae_int))))
      (ass_one (as_ret (ae_lstM (aa_cons (ae_revM (av 2)) (aa_cons (av 3) (aa_cons ae_int aa_nil))))))))) (fun ds M Q h => ?_)
  obtain ⟨ns, rfl, hl, k⟩ := h
  simp only [aSeq, aAsg, aGName, aGTup, aGCons, aGNil, unTup, aVar, aC, aOp, aUn, aTest, aChain, aAnd, aOr, aNot, aIf, aAndT, aOrT, aNotT, aNil, aCons, aTup, aLst, aLstM, aDictM, aCB, aLc, aLc2, aDc, aFld, aFldSet, aMeth, aMethK, aMake, aMakeM, aPairs, aDisp, aRev, aRevM, aPutAt, aAugI, aFor, aWhile, aSeqW, aRng1, aRng2, aEnum, aNext, aNever, aBreak, aCont, aDrop, aRet, aRetN, aIfS, aPar, aCall, aYes, startA, endsA, aI, aU, aBM, aBM0, aTx, aSl, aNoPart, aPart, List.map_cons, List.map_nil, List.length_cons, List.length_nil, List.replicate_succ, List.replicate_zero, List.cons_append, List.nil_append, List.append_nil, List.set_cons_zero, List.set_cons_succ, List.getElem?_cons_zero, List.getElem?_cons_succ, Option.some.injEq, exists_eq_left', D.int.injEq, D.str.injEq, D.bl.injEq, D.ref.injEq, D.tup.injEq, D.lst.injEq, List.cons.injEq, and_true, true_and, exists_and_left, exists_eq_left, exists_eq, and_assoc, Nat.reduceAdd, Nat.reduceSub, Nat.zero_add, exists_and_right, exists_const, if_true, if_false, Bool.not_true, Bool.not_false, Bool.false_eq_true, wipeA, N_law_deck]
  have e63 : cutA (ns.map D.int) none (some 63) = ns.map D.int := by
    unfold cutA
    have h1 : HT.sIx (ns.map D.int).length 0 none = 0 := rfl
    have h2 : HT.sIx (ns.map D.int).length (ns.map D.int).length (some 63) = (ns.map D.int).length := by
      rw [List.length_map]
      unfold HT.sIx
      simp
      omega
    rw [h1, h2, List.drop_zero, Nat.sub_zero, List.take_length]
  refine ⟨.lst (ns.map D.int), by show some (D.lst (cutA _ none (some 63))) = _; rw [e63], _, _, rfl, rfl, _, rfl, ?_⟩
  refine for_all (β := Option D × {m : Int // 0 ≤ m ∧ m < 2147483587}) (fun _ => true) (fun y => [some (.scr (ns.map D.int)), y.1, some (.lst (ns.map D.int)), some (.int y.2.1)]) ⟨(none, ⟨98731, by decide, by decide⟩), rfl⟩ trivial (fun d hd y R hR => ?_) fun y _ => ?_
  · obtain ⟨i, _, rfl⟩ := List.mem_map.mp hd
    obtain ⟨c, m, h0, h1⟩ := y
    simp only [aSeq, aAsg, aGName, aGTup, aGCons, aGNil, unTup, aVar, aC, aOp, aUn, aTest, aChain, aAnd, aOr, aNot, aIf, aAndT, aOrT, aNotT, aNil, aCons, aTup, aLst, aLstM, aDictM, aCB, aLc, aLc2, aDc, aFld, aFldSet, aMeth, aMethK, aMake, aMakeM, aPairs, aDisp, aRev, aRevM, aPutAt, aAugI, aFor, aWhile, aSeqW, aRng1, aRng2, aEnum, aNext, aNever, aBreak, aCont, aDrop, aRet, aRetN, aIfS, aPar, aCall, aYes, startA, endsA, aI, aU, aBM, aBM0, aTx, aSl, aNoPart, aPart, List.map_cons, List.map_nil, List.length_cons, List.length_nil, List.replicate_succ, List.replicate_zero, List.cons_append, List.nil_append, List.append_nil, List.set_cons_zero, List.set_cons_succ, List.getElem?_cons_zero, List.getElem?_cons_succ, Option.some.injEq, exists_eq_left', D.int.injEq, D.str.injEq, D.bl.injEq, D.ref.injEq, D.tup.injEq, D.lst.injEq, List.cons.injEq, and_true, true_and, exists_and_left, exists_eq_left, exists_eq, and_assoc, Nat.reduceAdd, Nat.reduceSub, Nat.zero_add, exists_and_right, exists_const, if_true, if_false, Bool.not_true, Bool.not_false, Bool.false_eq_true, wipeA]
    refine ⟨.inr ⟨by decide, by decide⟩, by decide, ?_⟩
    rw [aAdd_ii, aAdd_ii]
    refine ⟨_, rfl, by decide, ?_⟩
    exact hR rfl (_, ⟨_, Int.emod_nonneg _ (by decide), Int.emod_lt_of_pos _ (by decide)⟩)
  · obtain ⟨c, m, h0, h1⟩ := y
    simp only [aSeq, aAsg, aGName, aGTup, aGCons, aGNil, unTup, aVar, aC, aOp, aUn, aTest, aChain, aAnd, aOr, aNot, aIf, aAndT, aOrT, aNotT, aNil, aCons, aTup, aLst, aLstM, aDictM, aCB, aLc, aLc2, aDc, aFld, aFldSet, aMeth, aMethK, aMake, aMakeM, aPairs, aDisp, aRev, aRevM, aPutAt, aAugI, aFor, aWhile, aSeqW, aRng1, aRng2, aEnum, aNext, aNever, aBreak, aCont, aDrop, aRet, aRetN, aIfS, aPar, aCall, aYes, startA, endsA, aI, aU, aBM, aBM0, aTx, aSl, aNoPart, aPart, List.map_cons, List.map_nil, List.length_cons, List.length_nil, List.replicate_succ, List.replicate_zero, List.cons_append, List.nil_append, List.append_nil, List.set_cons_zero, List.set_cons_succ, List.getElem?_cons_zero, List.getElem?_cons_succ, Option.some.injEq, exists_eq_left', D.int.injEq, D.str.injEq, D.bl.injEq, D.ref.injEq, D.tup.injEq, D.lst.injEq, List.cons.injEq, and_true, true_and, exists_and_left, exists_eq_left, exists_eq, and_assoc, Nat.reduceAdd, Nat.reduceSub, Nat.zero_add, exists_and_right, exists_const, if_true, if_false, Bool.not_true, Bool.not_false, Bool.false_eq_true, wipeA]
    refine ⟨_, rfl, fun l hl => ⟨by decide, fun p hp => ?_⟩⟩
    have npl : p ≠ l := fun e => by rw [e, put_same] at hp; cases hp
    refine k p l _ ?_ hl ⟨ns.reverse, m, put_same, ?_, npl, ?_, h0, h1⟩ ?_
    · rw [put_ne npl] at hp; exact hp
    · rw [put_ne (Ne.symm npl), put_same, List.map_reverse]
    · rw [List.length_reverse]
      omega
    · exact KeepM.refl.putL.putP
end
end E60
namespace E60
open PySem PySem.Spec PyProof.Rows L2 Lay LA
open M60 (Ex Te ev ops cmps T cellD)
section
variable {P : Program} {w : World} {K : PySem.W.Frag} {mg : Str → Option Value} {base : Heap}
theorem int1_bl {b : Bool} {M : Mem} {Q : D → Mem → Prop} : aInt1 [.bl b] M Q = Q (.int (if b = true then 1 else 0)) M := rfl
section
variable {n : Nat} (hn : n ≤ 6) (D_law_value : Has P w K mg base n "_law_value" ["_law_one", "_law_values", "_law_given"] (spA K (aBelow aValue n)))
  (D_law_so : Has P w K mg base n "_law_so" ["_law_one", "_law_values", "_law_given"] (spA K (aBelow aTruth n)))
include hn D_law_value D_law_so in
theorem ok_law_value {f : Addr} {fd : FuncData} (F : Fun K "_law_value" "_law_value" s_law_value f fd) (z_isinstance : mg "isinstance" = none) (z_int : mg "int" = none) :
    FnG P w K mg base CX0 (n + 1) f fd ["_law_one", "_law_values", "_law_given"] (spA K (aValue n)) := by
  have nd := sc_law_value.nd
  refine okA (k := n) F sc_law_value (fun ds M Q h => by obtain ⟨_, _, _, _, _, _, rfl, _⟩ := h; rfl) (fun cv A' out t G Z hr hq => (ass_cons (as_if (at_val (ae_callB (isiK K) s_isi z_isinstance (by decide +kernel) (aa_cons (av 0) (aa_cons (ae_ty (n := "int") z_int (by decide +kernel)) aa_nil)))) (ass_one (as_ret (av 0))) ass_nil)
      (ass_cons (as_if (at_cmp (eqDK K hr.units) s_eq (ae_ix hr.u1 (av 0) ae_int (fun _ _ => rfl)) ae_str (nomark _)) (ass_one (as_ret (ae_ix hr.u1 (av 1) (ae_ix hr.u1 (av 0) ae_int (fun _ _ => rfl)) (fun _ _ => rfl)))) ass_nil)
      (ass_cons (as_if (at_cmp (eqDK K hr.units) s_eq (ae_ix hr.u1 (av 0) ae_int (fun _ _ => rfl)) ae_str (nomark _)) (ass_one (as_ret (av 2))) ass_nil)
      (ass_cons (as_if (at_cmp (eqDK K hr.units) s_eq (ae_ix hr.u1 (av 0) ae_int (fun _ _ => rfl)) ae_str (nomark _)) (ass_one (as_ret (ae_c D_law_value (hr.mono (by omega)) hq (aa_cons (ae_ix hr.u1 (av 0) (ae_op (op_addA K) s_add ae_int (ae_callTy call_int1 s_int1 z_int (by decide +kernel) (aa_cons (ae_not (ae_c D_law_so (hr.mono (by omega)) hq (aa_cons (ae_ix hr.u1 (av 0) ae_int (fun _ _ => rfl)) (aa_cons (av 1) (aa_cons (av 2) aa_nil))))) aa_nil))) (fun _ _ => rfl)) (aa_cons (av 1) (aa_cons (av 2) aa_nil)))))) ass_nil)
      (ass_cons (as_par (i := 3) (j := 4) (by rfl) nd rfl rfl (by decide) rfl rfl (aa_cons (ae_c D_law_value (hr.mono (by omega)) hq (aa_cons (ae_ix hr.u1 (av 0) ae_int (fun _ _ => rfl)) (aa_cons (av 1) (aa_cons (av 2) aa_nil)))) (aa_cons (ae_c D_law_value (hr.mono (by omega)) hq (aa_cons (ae_ix hr.u1 (av 0) ae_int (fun _ _ => rfl)) (aa_cons (av 1) (aa_cons (av 2) aa_nil)))) aa_nil)) (by rfl))
      (ass_one (as_ret (ae_ix hr.u1 (ae_disp (aps_cons ae_str (ae_op (op_addA K) s_add (av 3) (av 4)) (aps_cons ae_str (ae_op op_sub s_I0 (av 3) (av 4)) (aps_cons ae_str (ae_op op_mulW s_I (av 3) (av 4)) aps_nil))) (by rfl) (by rfl) (fun z => by cases z) (by decide)) (ae_ix hr.u1 (av 0) ae_int (fun _ _ => rfl)) (fun _ _ => rfl)))))))))) (fun ds M Q h => ?_)
  obtain ⟨e, kvs, g, cs, inp, env, rfl, hx, hV, q⟩ := h
  simp only [aSeq, aAsg, aGName, aGTup, aGCons, aGNil, unTup, aVar, aC, aOp, aUn, aTest, aChain, aAnd, aOr, aNot, aIf, aAndT, aOrT, aNotT, aNil, aCons, aTup, aLst, aLstM, aDictM, aCB, aLc, aLc2, aDc, aFld, aFldSet, aMeth, aMethK, aMake, aMakeM, aPairs, aDisp, aRev, aRevM, aPutAt, aAugI, aFor, aWhile, aSeqW, aRng1, aRng2, aEnum, aNext, aNever, aBreak, aCont, aDrop, aRet, aRetN, aIfS, aPar, aCall, aYes, startA, endsA, aI, aU, aBM, aBM0, aTx, aSl, aNoPart, aPart, List.map_cons, List.map_nil, List.length_cons, List.length_nil, List.replicate_succ, List.replicate_zero, List.cons_append, List.nil_append, List.append_nil, List.set_cons_zero, List.set_cons_succ, List.getElem?_cons_zero, List.getElem?_cons_succ, Option.some.injEq, exists_eq_left', D.int.injEq, D.str.injEq, D.bl.injEq, D.ref.injEq, D.tup.injEq, D.lst.injEq, List.cons.injEq, and_true, true_and, exists_and_left, exists_eq_left, exists_eq, and_assoc, Nat.reduceAdd, Nat.reduceSub, Nat.zero_add, exists_and_right, exists_const, if_true, if_false, Bool.not_true, Bool.not_false, Bool.false_eq_true, wipeA, N_law_value]
  have wc : Fine (.str (Str.ofString "cell")) := fine_str (by decide +kernel) (by decide +kernel)
  have wi : Fine (.str (Str.ofString "input")) := fine_str (by decide +kernel) (by decide +kernel)
  have wp : Fine (.str (Str.ofString "pick")) := fine_str (by decide +kernel) (by decide +kernel)
  cases hx with
  | num _ i0 i1 =>
    simp only [ofPy, isi_int_int, D.bl.injEq, exists_eq_left', if_true]
    rw [M60.ev_num] at q
    exact q
  | cell _ hc =>
    rw [M60.ev_cell] at q
    simp only [ofPy, ofPyL, T, cellD, isi_tup_int, D.bl.injEq, exists_eq_left', Bool.false_eq_true, if_false, ix_t0, ix_t1, aEq_f wc wc, eqD_ss, decide_true, if_true]
    exact ⟨_, hV.at_ _ hc, q⟩
  | input _ hi =>
    rw [M60.ev_input] at q
    have ne : (Str.ofString "input" = Str.ofString "cell") = False := by simp only [eq_iff_iff, iff_false]; decide +kernel
    simp only [ofPy, ofPyL, T, isi_tup_int, D.bl.injEq, exists_eq_left', Bool.false_eq_true, if_false, ix_t0, aEq_f wi wc, aEq_f wi wi, eqD_ss, decide_true, if_true, ne, decide_false]
    exact q
  | @op m x ea eb hw hxa hxb =>
    have fx := ops_fine x hw
    have nw : (x = Str.ofString "cell") = False ∧ (x = Str.ofString "input") = False ∧ (x = Str.ofString "pick") = False := by
      simp only [eq_iff_iff, iff_false]
      exact ops_ne x hw
    simp only [ofPy, ofPyL, isi_tup_int, D.bl.injEq, exists_eq_left', Bool.false_eq_true, if_false, ix_t0, ix_t1, ix_t2, aEq_f fx wc, aEq_f fx wi, aEq_f fx wp, eqD_ss, nw.1, nw.2.1, nw.2.2, decide_false, decide_eq_true_eq]
    rw [M60.ev_op] at q
    refine ⟨ea, kvs, g, cs, inp, env, rfl, hxa, hV, eb, kvs, g, cs, inp, env, rfl, hxb, hV, ?_⟩
    have b1 := small hV (by omega) hxa
    have b2 := small hV (by omega) hxb
    generalize (ev env g m ea).1 = i at b1 q
    generalize (ev env g m eb).1 = j at b2 q
    dsimp only
    rw [aAdd_ii]
    refine ⟨_, rfl, _, rfl, _, rfl, _, rfl, by show _ + _ < _; omega, [(.inr (Str.ofString "plus"), .int (i + j)), (.inr (Str.ofString "minus"), .int (i - j)), (.inr (Str.ofString "times"), .int (i * j))], rfl, by simp, .int (M60.opI x i j), ?_, q⟩
    show valD (mergeD [] [(.inr (Str.ofString "plus"), .int (i + j)), (.inr (Str.ofString "minus"), .int (i - j)), (.inr (Str.ofString "times"), .int (i * j))]) (.inr x) = _
    simp only [ops, List.mem_cons, List.not_mem_nil, or_false] at hw
    rcases hw with rfl | rfl | rfl <;> rfl
  | @pick m t a b ht ha hb =>
    have ne : (Str.ofString "pick" = Str.ofString "cell") = False ∧ (Str.ofString "pick" = Str.ofString "input") = False := by
      simp only [eq_iff_iff, iff_false]
      decide +kernel
    simp only [ofPy, ofPyL, T, isi_tup_int, D.bl.injEq, exists_eq_left', Bool.false_eq_true, if_false, ix_t0, ix_t1, ix_t2, ix_t3, aEq_f wp wc, aEq_f wp wi, aEq_f wp wp, eqD_ss, ne.1, ne.2, decide_false, decide_true, if_true]
    rw [M60.ev_pick] at q
    refine ⟨t, kvs, g, cs, inp, env, rfl, ht, hV, _, rfl, ?_⟩
    rw [int1_bl]
    cases hb2 : (ev env g m t).2
    · rw [hb2, if_neg (by decide)] at q
      rw [if_pos (by decide), aAdd_ii, show (2 : Int) + 1 = 3 from rfl, ix_t3]
      exact ⟨b, kvs, g, cs, inp, env, rfl, hb, hV, q⟩
    · rw [hb2, if_pos rfl] at q
      rw [if_neg (by decide), aAdd_ii, show (2 : Int) + 0 = 2 from rfl, ix_t2]
      exact ⟨a, kvs, g, cs, inp, env, rfl, ha, hV, q⟩
include hn D_law_value D_law_so in
theorem ok_law_so {f : Addr} {fd : FuncData} (F : Fun K "_law_so" "_law_so" s_law_so f fd) :
    FnG P w K mg base CX0 (n + 1) f fd ["_law_one", "_law_values", "_law_given"] (spA K (aTruth n)) := by
  have nd := sc_law_so.nd
  refine okA (k := n) F sc_law_so (fun ds M Q h => by obtain ⟨_, _, _, _, _, _, rfl, _⟩ := h; rfl) (fun cv A' out t G Z hr hq => (ass_cons (as_if (at_cmp (eqDK K hr.units) s_eq (ae_ix hr.u1 (av 0) ae_int (fun _ _ => rfl)) ae_str (nomark _)) (ass_one (as_ret (ae_not (ae_c D_law_so (hr.mono (by omega)) hq (aa_cons (ae_ix hr.u1 (av 0) ae_int (fun _ _ => rfl)) (aa_cons (av 1) (aa_cons (av 2) aa_nil))))))) ass_nil)
      (ass_cons (as_if (at_cmp (eqDK K hr.units) s_eq (ae_ix hr.u1 (av 0) ae_int (fun _ _ => rfl)) ae_str (nomark _)) (ass_one (as_ret (ae_and (ae_c D_law_so (hr.mono (by omega)) hq (aa_cons (ae_ix hr.u1 (av 0) ae_int (fun _ _ => rfl)) (aa_cons (av 1) (aa_cons (av 2) aa_nil)))) (ae_one (ae_c D_law_so (hr.mono (by omega)) hq (aa_cons (ae_ix hr.u1 (av 0) ae_int (fun _ _ => rfl)) (aa_cons (av 1) (aa_cons (av 2) aa_nil)))))))) ass_nil)
      (ass_cons (as_par (i := 3) (j := 4) (by rfl) nd rfl rfl (by decide) rfl rfl (aa_cons (ae_c D_law_value (hr.mono (by omega)) hq (aa_cons (ae_ix hr.u1 (av 0) ae_int (fun _ _ => rfl)) (aa_cons (av 1) (aa_cons (av 2) aa_nil)))) (aa_cons (ae_c D_law_value (hr.mono (by omega)) hq (aa_cons (ae_ix hr.u1 (av 0) ae_int (fun _ _ => rfl)) (aa_cons (av 1) (aa_cons (av 2) aa_nil)))) aa_nil)) (by rfl))
      (ass_one (as_ret (ae_if (at_cmp (eqDK K hr.units) s_eq (ae_ix hr.u1 (av 0) ae_int (fun _ _ => rfl)) ae_str (nomark _)) (ae_cmp (eqDK K hr.units) s_eq (av 3) (av 4) (nomark _)) (ae_cmp (ltDK K hr.units) s_lt (av 3) (av 4) (nomark _))))))))) (fun ds M Q h => ?_)
  obtain ⟨e, kvs, g, cs, inp, env, rfl, hx, hV, q⟩ := h
  simp only [aSeq, aAsg, aGName, aGTup, aGCons, aGNil, unTup, aVar, aC, aOp, aUn, aTest, aChain, aAnd, aOr, aNot, aIf, aAndT, aOrT, aNotT, aNil, aCons, aTup, aLst, aLstM, aDictM, aCB, aLc, aLc2, aDc, aFld, aFldSet, aMeth, aMethK, aMake, aMakeM, aPairs, aDisp, aRev, aRevM, aPutAt, aAugI, aFor, aWhile, aSeqW, aRng1, aRng2, aEnum, aNext, aNever, aBreak, aCont, aDrop, aRet, aRetN, aIfS, aPar, aCall, aYes, startA, endsA, aI, aU, aBM, aBM0, aTx, aSl, aNoPart, aPart, List.map_cons, List.map_nil, List.length_cons, List.length_nil, List.replicate_succ, List.replicate_zero, List.cons_append, List.nil_append, List.append_nil, List.set_cons_zero, List.set_cons_succ, List.getElem?_cons_zero, List.getElem?_cons_succ, Option.some.injEq, exists_eq_left', D.int.injEq, D.str.injEq, D.bl.injEq, D.ref.injEq, D.tup.injEq, D.lst.injEq, List.cons.injEq, and_true, true_and, exists_and_left, exists_eq_left, exists_eq, and_assoc, Nat.reduceAdd, Nat.reduceSub, Nat.zero_add, exists_and_right, exists_const, if_true, if_false, Bool.not_true, Bool.not_false, Bool.false_eq_true, wipeA, N_law_so]
  have wn : Fine (.str (Str.ofString "not")) := fine_str (by decide +kernel) (by decide +kernel)
  have wa : Fine (.str (Str.ofString "and")) := fine_str (by decide +kernel) (by decide +kernel)
  have ws : Fine (.str (Str.ofString "same")) := fine_str (by decide +kernel) (by decide +kernel)
  cases hx with
  | @cmp m x ea eb hw hxa hxb =>
    have fx := cmps_fine x hw
    have nw : (x = Str.ofString "not") = False ∧ (x = Str.ofString "and") = False := by
      simp only [eq_iff_iff, iff_false]
      exact cmps_ne x hw
    simp only [ofPy, ofPyL, D.bl.injEq, exists_eq_left', Bool.false_eq_true, if_false, ix_t0, ix_t1, ix_t2, aEq_f fx wn, aEq_f fx wa, aEq_f fx ws, eqD_ss, nw.1, nw.2, decide_false, decide_eq_true_eq]
    rw [M60.ev_cmp hw] at q
    refine ⟨ea, kvs, g, cs, inp, env, rfl, hxa, hV, eb, kvs, g, cs, inp, env, rfl, hxb, hV, ?_⟩
    dsimp only
    by_cases h : x = Str.ofString "same"
    · rw [if_pos h] at q
      rw [if_pos h, aEq_f fine_int fine_int, eqD_ii]
      exact q
    · rw [if_neg h] at q
      rw [if_neg h, aLt_ii]
      exact q
  | @neg m t ht =>
    simp only [ofPy, ofPyL, T, D.bl.injEq, exists_eq_left', Bool.false_eq_true, if_false, ix_t0, ix_t1, aEq_f wn wn, eqD_ss, decide_true, if_true]
    rw [M60.ev_neg] at q
    exact ⟨t, kvs, g, cs, inp, env, rfl, ht, hV, _, rfl, q⟩
  | @both m t u ht hu =>
    have ne : (Str.ofString "and" = Str.ofString "not") = False := by
      simp only [eq_iff_iff, iff_false]
      decide +kernel
    simp only [ofPy, ofPyL, T, D.bl.injEq, exists_eq_left', Bool.false_eq_true, if_false, ix_t0, ix_t1, ix_t2, aEq_f wa wn, aEq_f wa wa, eqD_ss, ne, decide_false, decide_true, if_true]
    rw [M60.ev_both] at q
    refine ⟨t, kvs, g, cs, inp, env, rfl, ht, hV, _, rfl, ?_⟩
    cases hb2 : (ev env g m t).2
    · rw [hb2, Bool.false_and] at q
      rw [if_neg (by decide)]
      exact q
    · rw [hb2, Bool.true_and] at q
      rw [if_pos rfl]
      exact ⟨u, kvs, g, cs, inp, env, rfl, hu, hV, q⟩
end
end
end E60
namespace E60
open PySem PySem.Spec PyProof.Rows L2 Lay LA
open M60 (Ex Te ops cmps T cellD)
section
variable {P : Program} {w : World} {K : PySem.W.Frag} {mg : Str → Option Value} {base : Heap}
abbrev lv : Nat → Nat
  | 0 => 0
  | d + 1 => d + 2
def cD (c : Int × Int) : D := ofPy (cellD c)
def aExpr (d : Nat) : ASp := fun ds M Q => ∃ (p l : Addr) (n : Nat) (cs : List (Int × Int)) (hi : Bool), ds = [.ref p, .lst (cs.map cD), .int d, .bl hi] ∧ ADeck M p l n ∧ n + 20 * 5 ^ d < 10 ^ 9 ∧ cs ≠ [] ∧ cs.length ≤ 30 ∧
  ∀ (e : PyData) M' n', Ex cs hi (lv d) e → n' ≤ n + 20 * 5 ^ d → ADeck M' p l n' → KeepM p l M M' → Q (ofPy e) M'
def aTestS (d : Nat) : ASp := fun ds M Q => ∃ (p l : Addr) (n : Nat) (cs : List (Int × Int)) (hi : Bool), ds = [.ref p, .lst (cs.map cD), .int d, .bl hi] ∧ ADeck M p l n ∧ n + 50 * 5 ^ d < 10 ^ 9 ∧ cs ≠ [] ∧ cs.length ≤ 30 ∧
  ∀ (e : PyData) M' n', Te cs hi (d + 1) e → n' ≤ n + 50 * 5 ^ d → ADeck M' p l n' → KeepM p l M M' → Q (ofPy e) M'
theorem ok_law_expression (d : Nat) {f : Addr} {fd : FuncData} (F : Fun K "_law_expression" "_law_expression" s_law_expression f fd) (z_range : mg "range" = none)
    (D_law_draw : Has P w K mg base 1 "_law_draw" ["_law_deck_here", "_law_below"] (spA K aDraw))
    (D_law_pick : Has P w K mg base 2 "_law_pick" ["_law_deck_here", "_law_items"] (spA K aPick))
    (D_law_expression : Has P w K mg base (2 * d + 2) "_law_expression" ["_law_deck_here", "_law_here", "_law_deep", "_law_has_input"] (spA K (aBelow aExpr d)))
    (D_law_test : Has P w K mg base (2 * d + 2) "_law_test" ["_law_deck_here", "_law_here", "_law_deep", "_law_has_input"] (spA K (aBelow aTestS d))) :
    FnG P w K mg base CX0 (2 * d + 3) f fd ["_law_deck_here", "_law_here", "_law_deep", "_law_has_input"] (spA K (aExpr d)) := by
  have nd := sc_law_expression.nd
  refine okA (k := 2 * d + 2) F sc_law_expression (fun ds M Q h => by obtain ⟨_, _, _, _, _, rfl, _⟩ := h; rfl) (fun cv A' out t G Z hr hq => (ass_cons (as_set (i := 4) nd rfl (Or.inl rfl) (ae_c D_law_draw (hr.mono (by omega)) hq (aa_cons (av 0) (aa_cons ae_int aa_nil))))
      (ass_cons (as_if (PW.pt (aw_or (at_cmp (eqDK K hr.units) s_eq (av 2) ae_int (nomark _)) (aw_or1 (at_cmp (ltDK K hr.units) s_lt (av 4) ae_int (nomark _))))) (ass_cons (as_setLc (i := 6) (own := [("_law_k", 8)]) rfl nd rfl rfl (sw_true rfl rfl rfl (by decide +kernel)) (ai_rng1 z_range (aa_cons ae_int aa_nil)) (blkOk_by (own := [("_law_k", 8)]) (N := N_law_expression) (sc := defScope s_law_expression) (by decide +kernel)) (fun _ _ _ _ _ => (pg_name (i := 8) nd rfl (by first | exact Or.inl rfl | exact Or.inr rfl))) (go_name 8) (by decide) (fun _ _ _ _ _ => ats_nil) (fun _ _ _ _ _ => (ae_tup (aa_cons ae_str (aa_cons (ae_c D_law_pick (hr.mono (by omega)) hq (aa_cons (av 0) (aa_cons (av 1) aa_nil))) aa_nil)))))
        (ass_cons (as_set (i := 7) nd rfl (Or.inl rfl) (ae_op (op_addA K) s_add (ae_lst (aa_cons (ae_c D_law_draw (hr.mono (by omega)) hq (aa_cons (av 0) (aa_cons ae_int aa_nil))) (aa_cons (ae_c D_law_draw (hr.mono (by omega)) hq (aa_cons (av 0) (aa_cons ae_int aa_nil))) aa_nil))) (av 6)))
        (ass_one (as_ret (ae_if (PW.pt (aw_and (at_val (av 3)) (aw_and1 (at_cmp (eqDK K hr.units) s_eq (ae_c D_law_draw (hr.mono (by omega)) hq (aa_cons (av 0) (aa_cons ae_int aa_nil))) ae_int (nomark _))))) (ae_tup (aa_cons ae_str aa_nil)) (ae_c D_law_pick (hr.mono (by omega)) hq (aa_cons (av 0) (aa_cons (av 7) aa_nil)))))))) ass_nil)
      (ass_cons (as_setLc (i := 5) (own := [("_law_k", 8)]) rfl nd rfl rfl (sw_true rfl rfl rfl (by decide +kernel)) (ai_rng1 z_range (aa_cons ae_int aa_nil)) (blkOk_by (own := [("_law_k", 8)]) (N := N_law_expression) (sc := defScope s_law_expression) (by decide +kernel)) (fun _ _ _ _ _ => (pg_name (i := 8) nd rfl (by first | exact Or.inl rfl | exact Or.inr rfl))) (go_name 8) (by decide) (fun _ _ _ _ _ => ats_nil) (fun _ _ _ _ _ => (ae_c D_law_expression (hr.mono (by omega)) hq (aa_cons (av 0) (aa_cons (av 1) (aa_cons (ae_op op_sub s_I0 (av 2) ae_int) (aa_cons (av 3) aa_nil)))))))
      (ass_cons (as_if (at_cmp (eqDK K hr.units) s_eq (av 4) ae_int (nomark _)) (ass_one (as_ret (ae_tup (aa_cons ae_str (aa_cons (ae_c D_law_test (hr.mono (by omega)) hq (aa_cons (av 0) (aa_cons (av 1) (aa_cons (ae_op op_sub s_I0 (av 2) ae_int) (aa_cons (av 3) aa_nil))))) (aa_cons (ae_ix hr.u1 (av 5) ae_int (fun _ _ => rfl)) (aa_cons (ae_ix hr.u1 (av 5) ae_int (fun _ _ => rfl)) aa_nil))))))) ass_nil)
      (ass_one (as_ret (ae_tup (aa_cons (ae_ix hr.u1 (ae_lst (aa_cons ae_str (aa_cons ae_str (aa_cons ae_str aa_nil)))) (ae_op op_sub s_I0 (av 4) ae_int) (fun _ _ => rfl)) (aa_cons (ae_ix hr.u1 (av 5) ae_int (fun _ _ => rfl)) (aa_cons (ae_ix hr.u1 (av 5) ae_int (fun _ _ => rfl)) aa_nil))))))))))) (fun ds M Q h => ?_)
  obtain ⟨p, l, n, cs, hi, rfl, hD, hn, hne, h30, k⟩ := h
  have d4 : 1 ≤ 5 ^ d := Nat.one_le_pow _ _ (by decide)
  simp only [aSeq, aAsg, aGName, aGTup, aGCons, aGNil, unTup, aVar, aC, aOp, aUn, aTest, aChain, aAnd, aOr, aNot, aIf, aAndT, aOrT, aNotT, aNil, aCons, aTup, aLst, aLstM, aDictM, aCB, aLc, aLc2, aDc, aFld, aFldSet, aMeth, aMethK, aMake, aMakeM, aPairs, aDisp, aRev, aRevM, aPutAt, aAugI, aFor, aWhile, aSeqW, aRng1, aRng2, aEnum, aNext, aNever, aBreak, aCont, aDrop, aRet, aRetN, aIfS, aPar, aCall, aYes, startA, endsA, aI, aU, aBM, aBM0, aTx, aSl, aNoPart, aPart, List.map_cons, List.map_nil, List.length_cons, List.length_nil, List.replicate_succ, List.replicate_zero, List.cons_append, List.nil_append, List.append_nil, List.set_cons_zero, List.set_cons_succ, List.getElem?_cons_zero, List.getElem?_cons_succ, Option.some.injEq, exists_eq_left', D.int.injEq, D.str.injEq, D.bl.injEq, D.ref.injEq, D.tup.injEq, D.lst.injEq, List.cons.injEq, and_true, true_and, exists_and_left, exists_eq_left, exists_eq, and_assoc, Nat.reduceAdd, Nat.reduceSub, Nat.zero_add, exists_and_right, exists_const, if_true, if_false, Bool.not_true, Bool.not_false, Bool.false_eq_true, wipeA, N_law_expression]
  refine ⟨p, l, n, 8, rfl, hD, by omega, by decide, by decide, fun way M1 w0 w8 D1 K1 => ?_⟩
  have csne : cs.map cD ≠ [] := by simpa using hne
  dsimp only
  rw [aEq_f fine_int fine_int, eqD_ii]
  refine ⟨_, rfl, ?_⟩
  have leafEnd : ∀ (es : List (Int × Int)) (i1 i2 : Int) (M3 : Mem) (n3 : Nat), es.length = 2 → (∀ c ∈ es, c ∈ cs) → 0 ≤ i1 → i1 < 4 → 0 ≤ i2 → i2 < 21 → ADeck M3 p l n3 → KeepM p l M M3 → n3 + 1 ≤ n + 20 * 5 ^ d →
      aPick [.ref p, .lst ([D.int i1, .int i2] ++ es.map fun c => ofPy (.tuple [T "cell", cellD c]))] M3 Q := by
    intro es i1 i2 M3 n3 le hes a0 a1 b0 b1 D3 K3 hb
    refine ⟨p, l, _, _, _, rfl, D3, by omega, .inl rfl, by simp, by simp [le], fun x M4 hx D4 K4 => ?_⟩
    simp only [List.cons_append, List.nil_append, List.mem_cons, List.mem_map] at hx
    rcases hx with rfl | rfl | ⟨c, hc, rfl⟩
    · exact k (.int i1) M4 _ (.num _ a0 (by omega)) hb D4 (K3.trans K4)
    · exact k (.int i2) M4 _ (.num _ b0 (by omega)) hb D4 (K3.trans K4)
    · exact k _ M4 _ (.cell _ (hes c hc)) hb D4 (K3.trans K4)
  have both : ∀ {A B : Mem → Prop}, (d = 0 ∨ way < 4) → A M1 → (if decide ((d : Int) = 0) = true then A M1 else aLt (.int way) (.int 4) M1 fun x M => ∃ b, x = .bl b ∧ if b = true then A M else B M) := by
    intro A B h x
    by_cases hd : d = 0
    · rw [if_pos (by simp [hd])]
      exact x
    · rw [if_neg (by simp [hd]), aLt_ii]
      refine ⟨_, rfl, ?_⟩
      rw [if_pos (by simp; omega)]
      exact x
  rcases (show (d = 0 ∨ way < 4) ∨ (d ≠ 0 ∧ ¬ way < 4) by omega) with hlf | hlf
  · refine both hlf ?_
    all_goals
      refine ⟨by decide, by decide, lc_state (fun i acc M' => ∃ es : List (Int × Int), acc = es.map (fun c => ofPy (.tuple [T "cell", cellD c])) ∧ es.length = i ∧ (∀ c ∈ es, c ∈ cs) ∧ ADeck M' p l (n + 1 + i) ∧ KeepM p l M M')
        (fun _ => trivial) (by decide) ⟨[], rfl, rfl, by simp, D1, K1⟩ ?_ ?_⟩
      · rintro i d0 acc M' hd hacc ⟨es, rfl, le, hes, D2, K2⟩ P' R hP hR
        have i2 : i < 2 := by
          have := (List.getElem?_eq_some_iff.mp hd).1
          simpa [intsD] using this
        simp only [aSeq, aAsg, aGName, aGTup, aGCons, aGNil, unTup, aVar, aC, aOp, aUn, aTest, aChain, aAnd, aOr, aNot, aIf, aAndT, aOrT, aNotT, aNil, aCons, aTup, aLst, aLstM, aDictM, aCB, aLc, aLc2, aDc, aFld, aFldSet, aMeth, aMethK, aMake, aMakeM, aPairs, aDisp, aRev, aRevM, aPutAt, aAugI, aFor, aWhile, aSeqW, aRng1, aRng2, aEnum, aNext, aNever, aBreak, aCont, aDrop, aRet, aRetN, aIfS, aPar, aCall, aYes, startA, endsA, aI, aU, aBM, aBM0, aTx, aSl, aNoPart, aPart, List.map_cons, List.map_nil, List.length_cons, List.length_nil, List.replicate_succ, List.replicate_zero, List.cons_append, List.nil_append, List.append_nil, List.set_cons_zero, List.set_cons_succ, List.getElem?_cons_zero, List.getElem?_cons_succ, Option.some.injEq, exists_eq_left', D.int.injEq, D.str.injEq, D.bl.injEq, D.ref.injEq, D.tup.injEq, D.lst.injEq, List.cons.injEq, and_true, true_and, exists_and_left, exists_eq_left, exists_eq, and_assoc, Nat.reduceAdd, Nat.reduceSub, Nat.zero_add, exists_and_right, exists_const, if_true, if_false, Bool.not_true, Bool.not_false, Bool.false_eq_true, wipeA]
        refine ⟨p, l, _, _, _, rfl, D2, by omega, .inl rfl, csne, by rw [List.length_map]; omega, fun x M2 hx D3 K3 => ⟨by decide, hP _ _ ?_⟩⟩
        obtain ⟨c, hc, rfl⟩ := List.mem_map.mp hx
        refine ⟨es ++ [c], by rw [List.map_append]; rfl, by simp [le], fun z hz => ?_, D3, K2.trans K3⟩
        rcases List.mem_append.mp hz with h | h
        · exact hes z h
        · rw [List.mem_singleton.mp h]; exact hc
      · rintro acc M' hl ⟨es, rfl, le, hes, D2, K2⟩
        have le2 : es.length = 2 := le
        have D2' : ADeck M' p l (n + 3) := D2
        refine ⟨p, l, _, 4, rfl, D2', by omega, by decide, by decide, fun i1 M3 a0 a1 D3 K3 => ?_⟩
        refine ⟨p, l, _, 21, rfl, D3, by omega, by decide, by decide, fun i2 M4 b0 b1 D4 K4 => ?_⟩
        have K5 := (K2.trans K3).trans K4
        refine ⟨by decide, ?_⟩
        show _ + _ ≤ 1000000 ∧ _
        refine ⟨by simp [le2], ?_⟩
        cases hi with
        | false =>
          rw [if_neg (by decide)]
          exact leafEnd es i1 i2 M4 _ le2 hes a0 a1 b0 b1 D4 K5 (by omega)
        | true =>
          rw [if_pos rfl]
          refine ⟨p, l, _, 3, rfl, D4, by omega, by decide, by decide, fun i3 M5 c0 c1 D5 K6 => ?_⟩
          dsimp only
          rw [aEq_f fine_int fine_int, eqD_ii]
          refine ⟨_, rfl, ?_⟩
          by_cases h3 : i3 = 0
          · rw [if_pos (by simp [h3])]
            exact ⟨by decide, k (.tuple [T "input"]) M5 _ (.input _ rfl) (by omega) D5 (K5.trans K6)⟩
          · rw [if_neg (by simp [h3])]
            exact leafEnd es i1 i2 M5 _ le2 hes a0 a1 b0 b1 D5 (K5.trans K6) (by omega)
  · rw [if_neg (by simp [hlf.1]), aLt_ii]
    refine ⟨_, rfl, ?_⟩
    rw [if_neg (by simpa using hlf.2)]
    obtain ⟨m, rfl⟩ : ∃ m, d = m + 1 := ⟨d - 1, by omega⟩
    have e1 : ((m + 1 : Nat) : Int) - 1 = (m : Int) := by omega
    have p5 : 5 ^ (m + 1) = 5 * 5 ^ m := by rw [Nat.pow_succ, Nat.mul_comm]
    have p1 : 1 ≤ 5 ^ m := Nat.one_le_pow _ _ (by decide)
    rw [p5] at hn
    have k : ∀ (e : PyData) (M' : Mem) (n' : Nat), Ex cs hi (m + 2) e → n' ≤ n + 100 * 5 ^ m → ADeck M' p l n' → KeepM p l M M' → Q (ofPy e) M' := fun e M' n' h1 h2 h3 h4 => k e M' n' h1 (by rw [p5]; omega) h3 h4
    have up : ∀ {e : PyData}, Ex cs hi (lv m) e → Ex cs hi (m + 1) e := fun {e} h => h.mono (by cases m <;> simp [lv])
    refine ⟨by decide, by decide, lc_state (fun i acc M' => ∃ (es : List PyData) (n' : Nat), acc = es.map ofPy ∧ es.length = i ∧ (∀ e ∈ es, Ex cs hi (m + 1) e) ∧ n' ≤ n + 1 + 20 * 5 ^ m * i ∧ ADeck M' p l n' ∧ KeepM p l M M')
      (fun _ => trivial) (by decide) ⟨[], _, rfl, rfl, by simp, by omega, D1, K1⟩ ?_ ?_⟩
    · rintro i d0 acc M' hd hacc ⟨es, n', rfl, le, hes, hb, D2, K2⟩ P' R hP hR
      have i2 : i < 2 := by
        have := (List.getElem?_eq_some_iff.mp hd).1
        simpa [intsD] using this
      have hbi : 20 * 5 ^ m * i ≤ 20 * 5 ^ m * 1 := Nat.mul_le_mul_left _ (by omega)
      simp only [aSeq, aAsg, aGName, aGTup, aGCons, aGNil, unTup, aVar, aC, aOp, aUn, aTest, aChain, aAnd, aOr, aNot, aIf, aAndT, aOrT, aNotT, aNil, aCons, aTup, aLst, aLstM, aDictM, aCB, aLc, aLc2, aDc, aFld, aFldSet, aMeth, aMethK, aMake, aMakeM, aPairs, aDisp, aRev, aRevM, aPutAt, aAugI, aFor, aWhile, aSeqW, aRng1, aRng2, aEnum, aNext, aNever, aBreak, aCont, aDrop, aRet, aRetN, aIfS, aPar, aCall, aYes, startA, endsA, aI, aU, aBM, aBM0, aTx, aSl, aNoPart, aPart, List.map_cons, List.map_nil, List.length_cons, List.length_nil, List.replicate_succ, List.replicate_zero, List.cons_append, List.nil_append, List.append_nil, List.set_cons_zero, List.set_cons_succ, List.getElem?_cons_zero, List.getElem?_cons_succ, Option.some.injEq, exists_eq_left', D.int.injEq, D.str.injEq, D.bl.injEq, D.ref.injEq, D.tup.injEq, D.lst.injEq, List.cons.injEq, and_true, true_and, exists_and_left, exists_eq_left, exists_eq, and_assoc, Nat.reduceAdd, Nat.reduceSub, Nat.zero_add, exists_and_right, exists_const, if_true, if_false, Bool.not_true, Bool.not_false, Bool.false_eq_true, wipeA]
      rw [e1]
      refine ⟨p, l, n', cs, hi, rfl, D2, by omega, hne, h30, fun e M2 n2 he hb2 D3 K3 => hP _ _ ⟨es ++ [e], n2, by rw [List.map_append]; rfl, by simp [le], fun z hz => ?_, ?_, D3, K2.trans K3⟩⟩
      · rcases List.mem_append.mp hz with h | h
        · exact hes z h
        · rw [List.mem_singleton.mp h]; exact up he
      · rw [Nat.mul_succ]
        omega
    · rintro acc M' hl ⟨es, n', rfl, le, hes, hb, D2, K2⟩
      have le2 : es.length = 2 := le
      obtain ⟨a, b, rfl⟩ : ∃ a b, es = [a, b] := by
        match es, le2 with
        | [a, b], _ => exact ⟨a, b, rfl⟩
      have hb : n' ≤ n + 1 + 20 * 5 ^ m * 2 := hb
      have ha := hes a (by simp)
      have hb' := hes b (by simp)
      have i0 : ∀ {M : Mem} {Q : D → Mem → Prop}, aIx (.lst ([a, b].map ofPy)) (.int 0) M Q = Q (ofPy a) M := ix_lk 0 rfl
      have i1 : ∀ {M : Mem} {Q : D → Mem → Prop}, aIx (.lst ([a, b].map ofPy)) (.int 1) M Q = Q (ofPy b) M := ix_lk 1 rfl
      rw [aEq_f fine_int fine_int, eqD_ii]
      refine ⟨_, rfl, ?_⟩
      by_cases h4 : way = 4
      · rw [if_pos (by simp [h4]), e1]
        refine ⟨p, l, n', cs, hi, rfl, D2, by omega, hne, h30, fun t M2 n2 ht hb2 D3 K3 => ?_⟩
        dsimp only
        rw [i0, i1]
        exact ⟨by decide, k (.tuple [T "pick", t, a, b]) M2 n2 (.pick ht ha hb') (by omega) D3 (K2.trans K3)⟩
      · rw [if_neg (by simp [h4])]
        refine ⟨by decide, _, rfl, ?_⟩
        have hw : way = 5 ∨ way = 6 ∨ way = 7 := by omega
        have fin : ∀ x ∈ ops, 3 ≤ 1000000 ∧ Q (.tup [.str x, ofPy a, ofPy b]) M' := fun x hx => ⟨by decide, k (.tuple [.str x, a, b]) M' n' (.op hx ha hb') (by omega) D2 K2⟩
        rcases hw with rfl | rfl | rfl
        · show aIx (D.lst _) (.int 0) _ _
          rw [ix_l0, i0, i1]
          exact fin _ (by simp [ops])
        · show aIx (D.lst _) (.int 1) _ _
          rw [ix_l1, i0, i1]
          exact fin _ (by simp [ops])
        · show aIx (D.lst _) (.int 2) _ _
          rw [ix_l2, i0, i1]
          exact fin _ (by simp [ops])
end
end E60
namespace E60
open PySem PySem.Spec PyProof.Rows L2 Lay LA
open M60 (Ex Te ops cmps T cellD)
section
variable {P : Program} {w : World} {K : PySem.W.Frag} {mg : Str → Option Value} {base : Heap}
theorem ok_law_test (d : Nat) {f : Addr} {fd : FuncData} (F : Fun K "_law_test" "_law_test" s_law_test f fd) (z_range : mg "range" = none) (z_max : mg "max" = none)
    (D_law_draw : Has P w K mg base 1 "_law_draw" ["_law_deck_here", "_law_below"] (spA K aDraw))
    (D_law_expression : Has P w K mg base (2 * d + 3) "_law_expression" ["_law_deck_here", "_law_here", "_law_deep", "_law_has_input"] (spA K (aExpr (d - 1))))
    (D_law_test : Has P w K mg base (2 * d + 3) "_law_test" ["_law_deck_here", "_law_here", "_law_deep", "_law_has_input"] (spA K (aBelow aTestS d))) :
    FnG P w K mg base CX0 (2 * d + 4) f fd ["_law_deck_here", "_law_here", "_law_deep", "_law_has_input"] (spA K (aTestS d)) := by
  have nd := sc_law_test.nd
  refine okA (k := 2 * d + 3) F sc_law_test (fun ds M Q h => by obtain ⟨_, _, _, _, _, rfl, _⟩ := h; rfl) (fun cv A' out t G Z hr hq => (ass_cons (as_set (i := 4) nd rfl (Or.inl rfl) (ae_c D_law_draw (hr.mono (by omega)) hq (aa_cons (av 0) (aa_cons ae_int aa_nil))))
      (ass_cons (as_if (PW.pt (aw_and (at_cmp op_gtA s_B (av 2) ae_int (nomark _)) (aw_and1 (at_cmp (eqDK K hr.units) s_eq (av 4) ae_int (nomark _))))) (ass_one (as_ret (ae_tup (aa_cons ae_str (aa_cons (ae_c D_law_test (hr.mono (by omega)) hq (aa_cons (av 0) (aa_cons (av 1) (aa_cons (ae_op op_sub s_I0 (av 2) ae_int) (aa_cons (av 3) aa_nil))))) aa_nil))))) ass_nil)
      (ass_cons (as_if (PW.pt (aw_and (at_cmp op_gtA s_B (av 2) ae_int (nomark _)) (aw_and1 (at_cmp (eqDK K hr.units) s_eq (av 4) ae_int (nomark _))))) (ass_one (as_ret (ae_tup (aa_cons ae_str (aa_cons (ae_c D_law_test (hr.mono (by omega)) hq (aa_cons (av 0) (aa_cons (av 1) (aa_cons (ae_op op_sub s_I0 (av 2) ae_int) (aa_cons (av 3) aa_nil))))) (aa_cons (ae_c D_law_test (hr.mono (by omega)) hq (aa_cons (av 0) (aa_cons (av 1) (aa_cons (ae_op op_sub s_I0 (av 2) ae_int) (aa_cons (av 3) aa_nil))))) aa_nil)))))) ass_nil)
      (ass_cons (as_setLc (i := 5) (own := [("_law_k", 6)]) rfl nd rfl rfl (sw_true rfl rfl rfl (by decide +kernel)) (ai_rng1 z_range (aa_cons ae_int aa_nil)) (blkOk_by (own := [("_law_k", 6)]) (N := N_law_test) (sc := defScope s_law_test) (by decide +kernel)) (fun _ _ _ _ _ => (pg_name (i := 6) nd rfl (by first | exact Or.inl rfl | exact Or.inr rfl))) (go_name 6) (by decide) (fun _ _ _ _ _ => ats_nil) (fun _ _ _ _ _ => (ae_c D_law_expression (hr.mono (by omega)) hq (aa_cons (av 0) (aa_cons (av 1) (aa_cons (ae_callB (call_max2 rfl) s_int2 z_max (by decide +kernel) (aa_cons ae_int (aa_cons (ae_op op_sub s_I0 (av 2) ae_int) aa_nil))) (aa_cons (av 3) aa_nil)))))))
      (ass_one (as_ret (ae_tup (aa_cons (ae_ix hr.u1 (ae_lst (aa_cons ae_str (aa_cons ae_str aa_nil))) (ae_op op_mod s_I (av 4) ae_int) (fun _ _ => rfl)) (aa_cons (ae_ix hr.u1 (av 5) ae_int (fun _ _ => rfl)) (aa_cons (ae_ix hr.u1 (av 5) ae_int (fun _ _ => rfl)) aa_nil))))))))))) (fun ds M Q h => ?_)
  obtain ⟨p, l, n, cs, hi, rfl, hD, hn, hne, h30, k⟩ := h
  have d4 : 1 ≤ 5 ^ d := Nat.one_le_pow _ _ (by decide)
  simp only [aSeq, aAsg, aGName, aGTup, aGCons, aGNil, unTup, aVar, aC, aOp, aUn, aTest, aChain, aAnd, aOr, aNot, aIf, aAndT, aOrT, aNotT, aNil, aCons, aTup, aLst, aLstM, aDictM, aCB, aLc, aLc2, aDc, aFld, aFldSet, aMeth, aMethK, aMake, aMakeM, aPairs, aDisp, aRev, aRevM, aPutAt, aAugI, aFor, aWhile, aSeqW, aRng1, aRng2, aEnum, aNext, aNever, aBreak, aCont, aDrop, aRet, aRetN, aIfS, aPar, aCall, aYes, startA, endsA, aI, aU, aBM, aBM0, aTx, aSl, aNoPart, aPart, List.map_cons, List.map_nil, List.length_cons, List.length_nil, List.replicate_succ, List.replicate_zero, List.cons_append, List.nil_append, List.append_nil, List.set_cons_zero, List.set_cons_succ, List.getElem?_cons_zero, List.getElem?_cons_succ, Option.some.injEq, exists_eq_left', D.int.injEq, D.str.injEq, D.bl.injEq, D.ref.injEq, D.tup.injEq, D.lst.injEq, List.cons.injEq, and_true, true_and, exists_and_left, exists_eq_left, exists_eq, and_assoc, Nat.reduceAdd, Nat.reduceSub, Nat.zero_add, exists_and_right, exists_const, if_true, if_false, Bool.not_true, Bool.not_false, Bool.false_eq_true, wipeA, N_law_test]
  refine ⟨p, l, n, 5, rfl, hD, by omega, by decide, by decide, fun way M1 w0 w8 D1 K1 => ?_⟩
  dsimp only
  have inner : ∀ {M' : Mem} {B C : Mem → Prop}, ¬ (d ≠ 0 ∧ way = 4) → C M' → (aB (fun i j => decide (j < i)) (fun a b => decide (b < a)) (D.int d) (D.int 0) M' fun x M => ∃ b, x = .bl b ∧ if b = true then (aEq false (.int way) (.int 4) M fun x M => ∃ b, x = .bl b ∧ if b = true then B M else C M) else C M) := by
    intro M' B C h c
    refine ⟨_, rfl, ?_⟩
    by_cases hd : d = 0
    · rw [if_neg (by simp [hd])]
      exact c
    · rw [if_pos (by simp; omega), aEq_f fine_int fine_int, eqD_ii]
      refine ⟨_, rfl, ?_⟩
      rw [if_neg (by simp; exact fun e => h ⟨hd, e⟩)]
      exact c
  have outer : ∀ {A C : Mem → Prop}, ¬ (d ≠ 0 ∧ way = 3) → C M1 → (aB (fun i j => decide (j < i)) (fun a b => decide (b < a)) (D.int d) (D.int 0) M1 fun x M => ∃ b, x = .bl b ∧ if b = true then (aEq false (.int way) (.int 3) M fun x M => ∃ b, x = .bl b ∧ if b = true then A M else C M) else C M) := by
    intro A C h c
    refine ⟨_, rfl, ?_⟩
    by_cases hd : d = 0
    · rw [if_neg (by simp [hd])]
      exact c
    · rw [if_pos (by simp; omega), aEq_f fine_int fine_int, eqD_ii]
      refine ⟨_, rfl, ?_⟩
      rw [if_neg (by simp; exact fun e => h ⟨hd, e⟩)]
      exact c
  by_cases h3 : d ≠ 0 ∧ way = 3
  · obtain ⟨m, rfl⟩ : ∃ m, d = m + 1 := ⟨d - 1, by omega⟩
    have e1 : ((m + 1 : Nat) : Int) - 1 = (m : Int) := by omega
    have p5 : 5 ^ (m + 1) = 5 * 5 ^ m := by rw [Nat.pow_succ, Nat.mul_comm]
    have p1 : 1 ≤ 5 ^ m := Nat.one_le_pow _ _ (by decide)
    rw [p5] at hn
    refine ⟨_, rfl, ?_⟩
    rw [if_pos (by simp), aEq_f fine_int fine_int, eqD_ii]
    refine ⟨_, rfl, ?_⟩
    rw [if_pos (by simp [h3.2]), e1]
    exact ⟨p, l, _, cs, hi, rfl, D1, by omega, hne, h30, fun t M2 n2 ht hb D2 K2 => ⟨by decide, k (.tuple [T "not", t]) M2 n2 (.neg ht) (by rw [p5]; omega) D2 (K1.trans K2)⟩⟩
  refine outer h3 ?_
  by_cases h4 : d ≠ 0 ∧ way = 4
  · obtain ⟨m, rfl⟩ : ∃ m, d = m + 1 := ⟨d - 1, by omega⟩
    have e1 : ((m + 1 : Nat) : Int) - 1 = (m : Int) := by omega
    have p5 : 5 ^ (m + 1) = 5 * 5 ^ m := by rw [Nat.pow_succ, Nat.mul_comm]
    have p1 : 1 ≤ 5 ^ m := Nat.one_le_pow _ _ (by decide)
    rw [p5] at hn
    refine ⟨_, rfl, ?_⟩
    rw [if_pos (by simp), aEq_f fine_int fine_int, eqD_ii]
    refine ⟨_, rfl, ?_⟩
    rw [if_pos (by simp [h4.2]), e1]
    refine ⟨p, l, _, cs, hi, rfl, D1, by omega, hne, h30, fun t M2 n2 ht hb D2 K2 => ?_⟩
    exact ⟨p, l, _, cs, hi, rfl, D2, by omega, hne, h30, fun u M3 n3 hu hb3 D3 K3 => ⟨by decide, k (.tuple [T "and", t, u]) M3 n3 (.both ht hu) (by rw [p5]; omega) D3 ((K1.trans K2).trans K3)⟩⟩
  refine inner h4 ?_
  have dle : 5 ^ (d - 1) ≤ 5 ^ d := Nat.pow_le_pow_right (by decide) (by omega)
  have up : ∀ {e : PyData}, Ex cs hi (lv (d - 1)) e → Ex cs hi d e := fun {e} h => h.mono (by
    cases d with
    | zero => simp [lv]
    | succ m => cases m <;> simp [lv])
  have mx : (if ((d : Int) - 1) > 0 then ((d : Int) - 1) else 0) = ((d - 1 : Nat) : Int) := by
    split <;> omega
  refine ⟨by decide, by decide, lc_state (fun i acc M' => ∃ (es : List PyData) (n' : Nat), acc = es.map ofPy ∧ es.length = i ∧ (∀ e ∈ es, Ex cs hi d e) ∧ n' ≤ n + 1 + 20 * 5 ^ (d - 1) * i ∧ ADeck M' p l n' ∧ KeepM p l M M')
    (fun _ => trivial) (by decide) ⟨[], _, rfl, rfl, by simp, by omega, D1, K1⟩ ?_ ?_⟩
  · rintro i d0 acc M' hd hacc ⟨es, n', rfl, le, hes, hb, D2, K2⟩ P' R hP hR
    have i2 : i < 2 := by
      have := (List.getElem?_eq_some_iff.mp hd).1
      simpa [intsD] using this
    have hbi : 20 * 5 ^ (d - 1) * i ≤ 20 * 5 ^ (d - 1) * 1 := Nat.mul_le_mul_left _ (by omega)
    simp only [aSeq, aAsg, aGName, aGTup, aGCons, aGNil, unTup, aVar, aC, aOp, aUn, aTest, aChain, aAnd, aOr, aNot, aIf, aAndT, aOrT, aNotT, aNil, aCons, aTup, aLst, aLstM, aDictM, aCB, aLc, aLc2, aDc, aFld, aFldSet, aMeth, aMethK, aMake, aMakeM, aPairs, aDisp, aRev, aRevM, aPutAt, aAugI, aFor, aWhile, aSeqW, aRng1, aRng2, aEnum, aNext, aNever, aBreak, aCont, aDrop, aRet, aRetN, aIfS, aPar, aCall, aYes, startA, endsA, aI, aU, aBM, aBM0, aTx, aSl, aNoPart, aPart, List.map_cons, List.map_nil, List.length_cons, List.length_nil, List.replicate_succ, List.replicate_zero, List.cons_append, List.nil_append, List.append_nil, List.set_cons_zero, List.set_cons_succ, List.getElem?_cons_zero, List.getElem?_cons_succ, Option.some.injEq, exists_eq_left', D.int.injEq, D.str.injEq, D.bl.injEq, D.ref.injEq, D.tup.injEq, D.lst.injEq, List.cons.injEq, and_true, true_and, exists_and_left, exists_eq_left, exists_eq, and_assoc, Nat.reduceAdd, Nat.reduceSub, Nat.zero_add, exists_and_right, exists_const, if_true, if_false, Bool.not_true, Bool.not_false, Bool.false_eq_true, wipeA]
    refine ⟨_, _, rfl, ?_⟩
    dsimp only
    rw [mx]
    refine ⟨p, l, n', cs, hi, rfl, D2, by omega, hne, h30, fun e M2 n2 he hb2 D3 K3 => hP _ _ ⟨es ++ [e], n2, by rw [List.map_append]; rfl, by simp [le], fun z hz => ?_, ?_, D3, K2.trans K3⟩⟩
    · rcases List.mem_append.mp hz with h | h
      · exact hes z h
      · rw [List.mem_singleton.mp h]; exact up he
    · rw [Nat.mul_succ]
      omega
  · rintro acc M' hl ⟨es, n', rfl, le, hes, hb, D2, K2⟩
    have le2 : es.length = 2 := le
    obtain ⟨a, b, rfl⟩ : ∃ a b, es = [a, b] := by
      match es, le2 with
      | [a, b], _ => exact ⟨a, b, rfl⟩
    have hb : n' ≤ n + 1 + 20 * 5 ^ (d - 1) * 2 := hb
    have ha := hes a (by simp)
    have hb' := hes b (by simp)
    have i0 : ∀ {M : Mem} {Q : D → Mem → Prop}, aIx (.lst ([a, b].map ofPy)) (.int 0) M Q = Q (ofPy a) M := ix_lk 0 rfl
    have i1 : ∀ {M : Mem} {Q : D → Mem → Prop}, aIx (.lst ([a, b].map ofPy)) (.int 1) M Q = Q (ofPy b) M := ix_lk 1 rfl
    refine ⟨by decide, _, rfl, by decide, ?_⟩
    have fin : ∀ x ∈ cmps, 3 ≤ 1000000 ∧ Q (.tup [.str x, ofPy a, ofPy b]) M' := fun x hx => ⟨by decide, k (.tuple [.str x, a, b]) M' n' (.cmp hx ha hb') (by omega) D2 K2⟩
    have hw : way % 2 = 0 ∨ way % 2 = 1 := by omega
    rcases hw with h | h <;> rw [h]
    · rw [ix_l0, i0, i1]
      exact fin _ (by simp [cmps])
    · rw [ix_l1, i0, i1]
      exact fin _ (by simp [cmps])
end
end E60
namespace M20
open PySem PySem.Spec L2 Lay
abbrev ABC : Str := Str.ofString "abcdefghijklmnopqrstuvwxyz"
def mk (cs : List Nat) : Str := ⟨cs.toArray⟩
theorem mk_list (cs : List Nat) : (mk cs).cps.toList = cs := by simp [mk]
theorem mk_len (cs : List Nat) : (mk cs).length = cs.length := by
  show cs.toArray.size = _
  simp
theorem of_list (x : Str) : mk x.cps.toList = x := by
  cases x
  simp [mk]
theorem app_mk (a b : List Nat) : mk a ++ mk b = mk (a ++ b) := by
  show (⟨a.toArray ++ b.toArray⟩ : Str) = ⟨(a ++ b).toArray⟩
  simp
theorem mk_inj {a b : List Nat} (h : mk a = mk b) : a = b := by
  have := congrArg (fun x : Str => x.cps.toList) h
  simpa [mk] using this
theorem abc_list : ABC.cps.toList = (List.range 26).map (97 + ·) := by decide +kernel
theorem abc_at {j : Nat} (h : j < 26) : ABC.cps.toList[j]? = some (97 + j) := by
  rw [abc_list, List.getElem?_map, List.getElem?_range h]
  rfl
theorem abc_index0 : ∀ k < 26, Builtin.Str.occurrences ABC ⟨#[97 + k]⟩ 0 26 1 = [k] := by decide +kernel
theorem abc_len : ABC.length = 26 := by decide +kernel
theorem abc_index {c : Nat} (h0 : 97 ≤ c) (h1 : c ≤ 122) : Builtin.Str.occurrences ABC ⟨#[c]⟩ 0 ABC.length 1 = [c - 97] := by
  rw [abc_len]
  have := abc_index0 (c - 97) (by omega)
  rwa [show 97 + (c - 97) = c from by omega] at this
theorem cut_front (cs : List Nat) (k : Nat) : cutS (mk cs) none (some (k : Int)) = mk (cs.take k) := by
  unfold cutS
  rw [HT.sIx_none, HT.sIx_nat, List.drop_zero, Nat.sub_zero, mk_list, mk_len]
  show mk _ = mk _
  congr 1
  rcases Nat.le_total k cs.length with h | h
  · rw [Nat.min_eq_left h]
  · rw [Nat.min_eq_right h, List.take_of_length_le (Nat.le_refl _), List.take_of_length_le h]
theorem cut_back (cs : List Nat) (k : Nat) : cutS (mk cs) (some (k : Int)) none = mk (cs.drop k) := by
  unfold cutS
  rw [HT.sIx_none, HT.sIx_nat, mk_list, mk_len]
  show mk _ = mk _
  congr 1
  rcases Nat.le_total k cs.length with h | h
  · rw [Nat.min_eq_left h, List.take_of_length_le (by rw [List.length_drop]; omega)]
  · rw [Nat.min_eq_right h, List.drop_of_length_le h, List.drop_of_length_le (Nat.le_refl _), List.take_nil]
theorem cut_mid (cs : List Nat) (a b : Nat) : ∃ ds : List Nat, cutS (mk cs) (some (a : Int)) (some (b : Int)) = mk ds ∧ ds.length ≤ b - a ∧ ∀ c ∈ ds, c ∈ cs := by
  refine ⟨(cs.drop (min a cs.length)).take (min b cs.length - min a cs.length), ?_, ?_, ?_⟩
  · unfold cutS
    rw [HT.sIx_nat, HT.sIx_nat, mk_list, mk_len]
    rfl
  · rw [List.length_take]
    omega
  · intro c hc
    exact List.mem_of_mem_drop (List.mem_of_mem_take hc)
/-- what a name is made of -/
def letters (x : Str) : Prop := ∃ cs : List Nat, x = mk cs ∧ 1 ≤ cs.length ∧ cs.length ≤ 8 ∧ ∀ c ∈ cs, 97 ≤ c ∧ c ≤ 122
/-- the first letter k steps on -/
def step (c k : Nat) : Nat := 97 + (c - 97 + k) % 26
theorem step_in (c k : Nat) : 97 ≤ step c k ∧ step c k ≤ 122 := by
  unfold step
  omega
theorem step_step (c j : Nat) : step (step c j) 1 = step c (j + 1) := by
  unfold step
  omega
theorem step_inj {c i j : Nat} (hi : i < 26) (hj : j < 26) (h : step c i = step c j) : i = j := by
  unfold step at h
  omega
theorem step_zero {c : Nat} (h0 : 97 ≤ c) (h1 : c ≤ 122) : step c 0 = c := by
  unfold step
  omega
theorem nodup_le {α : Type} [DecidableEq α] : ∀ {a b : List α}, a.Nodup → (∀ x ∈ a, x ∈ b) → a.length ≤ b.length
  | [], b, _, _ => Nat.zero_le _
  | x :: r, b, h, s => by
    have hx := s x (List.mem_cons_self ..)
    have h2 := List.nodup_cons.mp h
    have := nodup_le (a := r) (b := b.erase x) h2.2 (fun y hy => by
      have : y ≠ x := fun e => h2.1 (e ▸ hy)
      exact (List.mem_erase_of_ne this).mpr (s y (List.mem_cons_of_mem _ hy)))
    have l := List.length_erase_of_mem hx
    have : 0 < b.length := List.length_pos_of_mem hx
    rw [List.length_cons]
    omega
theorem turns_le {c : Nat} {t : List Nat} {ys : List Str} {j : Nat} (hj : j ≤ 26) (h : ∀ i < j, mk (step c i :: t) ∈ ys) : j ≤ ys.length := by
  have nd : ((List.range j).map fun i => mk (step c i :: t)).Nodup := by
    refine List.pairwise_map.mpr (List.Pairwise.imp_of_mem ?_ (List.nodup_range (n := j)))
    intro a b ha hb hne e
    have := mk_inj e
    exact hne (step_inj (by have := List.mem_range.mp ha; omega) (by have := List.mem_range.mp hb; omega) (List.cons.inj this).1)
  have := nodup_le nd (b := ys) (fun x hx => by
    obtain ⟨i, hi, rfl⟩ := List.mem_map.mp hx
    exact h i (List.mem_range.mp hi))
  simpa using this
end M20
namespace E60
open PySem PySem.Spec PyProof.Rows L2 Lay LA M20
section
variable {P : Program} {w : World} {K : PySem.W.Frag} {mg : Str → Option Value} {base : Heap}
theorem join_mk : ∀ cs : List Nat, Txt.join (Str.ofString "") (cs.map fun c => (⟨#[c]⟩ : Str)) = mk cs := by
  intro cs
  unfold Txt.join
  rw [StrLaws.glued_eq_join]
  induction cs with
  | nil => decide +kernel
  | cons c r ih =>
    cases r with
    | nil => rfl
    | cons d r' =>
      have e : Str.join (Str.ofString "") ((c :: d :: r').map fun c => (⟨#[c]⟩ : Str)) = mk [c] ++ Str.ofString "" ++ Str.join (Str.ofString "") ((d :: r').map fun c => (⟨#[c]⟩ : Str)) := rfl
      rw [e, ih]
      have e2 : Str.ofString "" = mk [] := by decide +kernel
      rw [e2, app_mk, app_mk]
      rfl
theorem strsD_map : ∀ ks : List Str, strsD (ks.map D.str) = some ks
  | [] => rfl
  | k :: r => by rw [List.map_cons, strsD, strsD_map r]; rfl
theorem letters_ok {x : Str} (h : letters x) : PyData.strOk x = true ∧ x.length ≤ 8 := by
  obtain ⟨cs, rfl, l1, l8, hcs⟩ := h
  refine ⟨?_, by rw [mk_len]; exact l8⟩
  unfold PyData.strOk
  rw [← Array.all_toList, mk_list, List.all_eq_true]
  intro c hc
  have := hcs c hc
  exact decide_eq_true (by omega)
theorem letters_fine {x : Str} (h : letters x) : Fine (.str x) := fine_str (letters_ok h).1 (by have := (letters_ok h).2; omega)
theorem words_while {A : AEnds} {G : Mem} {z : Addr} {ys : List Str} {a0 a1 a2 a5 a7 : Option D} {x : Str} (hx : letters x) (hz : G z = some (.lst (ys.map D.str))) (hys : ∀ y ∈ ys, letters y) (ly : ys.length < 26)
    (k : ∀ x', letters x' → x' ∉ ys → A.nx [a0, a1, a2, some (.str ABC), some (.ref z), a5, some (.str x'), a7] G) :
    WhB (aTest (aOp (aIn false) (aVar 6) (aVar 4))) (aAsg (aOp aAdd (aOp aIx (aVar 3) (aOp (fun x y M Q => ∃ i, x = D.int i ∧ ∃ j, y = D.int j ∧ 0 < j ∧ Q (D.int (i % j)) M) (aOp aAdd (aBM "str" aSidx (aVar 3) (aCons (aOp aIx (aVar 6) (aC (.int 0))) aNil)) (aC (.int 1))) (aC (.int 26))))
      (aSl (aVar 6) (aPart (aC (.int 1))) aNoPart)) (aGName 6)) A [a0, a1, a2, some (.str ABC), some (.ref z), a5, some (.str x), a7] G := by
  obtain ⟨cs, rfl, l1, l8, hcs⟩ := hx
  obtain ⟨c, t, rfl⟩ : ∃ c t, cs = c :: t := by
    cases cs with
    | nil => simp at l1
    | cons c t => exact ⟨c, t, rfl⟩
  have hc := hcs c (List.mem_cons_self ..)
  have ht : ∀ d ∈ t, 97 ≤ d ∧ d ≤ 122 := fun d hd => hcs d (List.mem_cons_of_mem _ hd)
  have good : ∀ j, letters (mk (step c j :: t)) := fun j => ⟨_, rfl, by simp, by simpa using l8, fun d hd => by
    rcases List.mem_cons.mp hd with rfl | hd
    · exact step_in c j
    · exact ht d hd⟩
  refine ⟨fun m Γ G' => ∃ j, m + j = 26 ∧ G' = G ∧ Γ = [a0, a1, a2, some (.str ABC), some (.ref z), a5, some (.str (mk (step c j :: t))), a7] ∧ ∀ i < j, mk (step c i :: t) ∈ ys,
    ⟨26, 0, rfl, rfl, by rw [step_zero hc.1 hc.2], fun i hi => by omega⟩, ?_⟩
  rintro m Γ G' ⟨j, hm, rfl, rfl, hin⟩
  simp only [aSeq, aAsg, aGName, aGTup, aGCons, aGNil, unTup, aVar, aC, aOp, aUn, aTest, aChain, aAnd, aOr, aNot, aIf, aAndT, aOrT, aNotT, aNil, aCons, aTup, aLst, aLstM, aDictM, aCB, aLc, aLc2, aDc, aFld, aFldSet, aMeth, aMethK, aMake, aMakeM, aPairs, aDisp, aRev, aRevM, aPutAt, aAugI, aFor, aWhile, aSeqW, aRng1, aRng2, aEnum, aNext, aNever, aBreak, aCont, aDrop, aRet, aRetN, aIfS, aPar, aCall, aYes, startA, endsA, aI, aU, aBM, aBM0, aTx, aSl, aNoPart, aPart, List.map_cons, List.map_nil, List.length_cons, List.length_nil, List.replicate_succ, List.replicate_zero, List.cons_append, List.nil_append, List.append_nil, List.set_cons_zero, List.set_cons_succ, List.getElem?_cons_zero, List.getElem?_cons_succ, Option.some.injEq, exists_eq_left', D.int.injEq, D.str.injEq, D.bl.injEq, D.ref.injEq, D.tup.injEq, D.lst.injEq, List.cons.injEq, and_true, true_and, exists_and_left, exists_eq_left, exists_eq, and_assoc, Nat.reduceAdd, Nat.reduceSub, Nat.zero_add, exists_and_right, exists_const, if_true, if_false, Bool.not_true, Bool.not_false, Bool.false_eq_true, wipeA]
  rw [in_m hz (letters_fine (good j)) fun y hy => (letters_ok (hys y hy)).1]
  refine ⟨_, rfl, ?_⟩
  by_cases hmem : mk (step c j :: t) ∈ ys
  · rw [if_pos (by simpa using hmem)]
    have all : ∀ i < j + 1, mk (step c i :: t) ∈ ys := fun i hi => by
      by_cases e : i = j
      · rw [e]; exact hmem
      · exact hin i (by omega)
    have j26 : j + 1 ≤ 26 := by
      rcases Nat.lt_or_ge j 26 with h | h
      · omega
      · have := turns_le (j := 26) (Nat.le_refl _) (fun i hi => hin i (by omega))
        omega
    have jl := turns_le j26 all
    have cc := step_in c j
    have tl8 : (step c j :: t).length ≤ 8 := by simpa using l8
    have rest : cutS (mk (step c j :: t)) (some ((1 : Nat) : Int)) none = mk t := cut_back _ 1
    have sg : ∀ {ks : List Nat} {k : Nat} {c : Nat}, ks[k]? = some c → (LA.signs (mk ks))[k]? = some (.str (mk [c])) := fun {ks k c} h => by
      unfold LA.signs
      rw [mk_list, List.getElem?_map, h]
      rfl
    refine ⟨rfl, ?_⟩
    rw [show (0 : Int) = ((0 : Nat) : Int) from rfl, ix_sk 0 (sg rfl) (by rw [mk_len]; omega)]
    refine ⟨ABC, mk [step c j], step c j - 97, [], rfl, rfl, abc_index cc.1 cc.2, ?_⟩
    have em : (((step c j - 97 : Nat) : Int) + 1) % 26 = (((step c j - 97 + 1) % 26 : Nat) : Int) := by omega
    have en : 97 + (step c j - 97 + 1) % 26 = step c (j + 1) := step_step c j
    dsimp only
    rw [aAdd_ii]
    refine ⟨_, rfl, by decide, ?_⟩
    have at' : (LA.signs ABC)[(step c j - 97 + 1) % 26]? = some (.str (mk [step c (j + 1)])) := by
      unfold LA.signs
      rw [List.getElem?_map, abc_at (by omega), ← en]
      rfl
    rw [em, ix_sk _ at' (by rw [abc_len]; omega)]
    refine ⟨.str (mk t), ?_, ?_⟩
    · show (if (mk (step c j :: t)).length ≤ 1000000 then some (D.str (cutS (mk (step c j :: t)) (some 1) none)) else none) = _
      rw [if_pos (by rw [mk_len]; omega)]
      exact congrArg (fun z => some (D.str z)) rest
    · show _ + _ ≤ 1000000 ∧ _
      refine ⟨by rw [mk_len, mk_len]; simp at l8 ⊢; omega, m - 1, by omega, j + 1, by omega, rfl, ?_, all⟩
      exact congrArg D.str (app_mk [step c (j + 1)] t)
  · rw [if_neg (by simpa using hmem)]
    exact k _ (good j) hmem
theorem asc_of_pairs : ∀ {us : List Str}, us.Pairwise (fun a b => ltD (.str a) (.str b) = true) → ascD (us.map D.str) = true
  | [], _ => rfl
  | [_], _ => rfl
  | a :: b :: r, h => by
    rw [List.pairwise_cons] at h
    show (ltD (.str a) (.str b) && ascD ((b :: r).map D.str)) = true
    rw [h.1 b (List.mem_cons_self ..), asc_of_pairs h.2]
    rfl
def aWords : ASp := fun ds M Q => ∃ (p l : Addr) (n many : Nat), ds = [.ref p, .int many] ∧ many ≤ 20 ∧ ADeck M p l n ∧ n + 2000 < 10 ^ 9 ∧
  ∀ (ys : List Str) M' n', ys.length = many → ys.Nodup → ascD (ys.map D.str) = true → (∀ y ∈ ys, letters y) → n' ≤ n + 10 * many → ADeck M' p l n' → KeepM p l M M' → Q (.tup (ys.map D.str)) M'
def WordInv (p l z : Addr) (n many : Nat) (M : Mem) (i : Nat) (Γ : Sl) (G : Mem) : Prop := ∃ (o2 o5 o6 o7 : Option D) (ys : List Str) (n' : Nat),
  Γ = [some (.ref p), some (.int many), o2, some (.str ABC), some (.ref z), o5, o6, o7] ∧
  G z = some (.lst (ys.map D.str)) ∧ ys.length = i ∧ ys.Nodup ∧ (∀ y ∈ ys, letters y) ∧ n' ≤ n + 10 * i ∧ ADeck G p l n' ∧ KeepM p l M G
theorem ok_law_words {f : Addr} {fd : FuncData} (F : Fun K "_law_words" "_law_words" s_law_words f fd) (z_range : mg "range" = none) (z_tuple : mg "tuple" = none) (z_sorted : mg "sorted" = none)
    (D_law_draw : Has P w K mg base 1 "_law_draw" ["_law_deck_here", "_law_below"] (spA K aDraw))
    (D_law_pick : Has P w K mg base 2 "_law_pick" ["_law_deck_here", "_law_items"] (spA K aPick)) :
    FnG P w K mg base CX0 3 f fd ["_law_deck_here", "_law_many"] (spA K aWords) := by
  have nd := sc_law_words.nd
  refine okA F sc_law_words (fun ds M Q h => by obtain ⟨_, _, _, _, rfl, _⟩ := h; rfl) (fun cv A' out t G Z hr hq => (ass_cons (as_asg (ae_tup (aa_cons ae_str (aa_cons (ae_lstM aa_nil) aa_nil))) (gTupK K (pg_tup (n := 2) (by rfl) (pgs_cons (pg_name (i := 3) nd rfl (Or.inr rfl)) (pgs_cons (pg_name (i := 4) nd rfl (Or.inl rfl)) pgs_nil)))) (go_tup (gos_cons (go_name 3) (gos_cons (go_name 4) gos_nil))))
      (ass_cons (as_for PassesOwn.never rfl (ai_rng1 z_range (aa_cons (av 1) aa_nil)) (pg_name (i := 2) nd rfl (Or.inl rfl)) (go_name 2)
        (ass_cons (as_set (i := 5) nd rfl (Or.inl rfl) (ae_op (op_addA K) s_add ae_int (ae_c D_law_draw (hr.mono (by decide)) hq (aa_cons (av 0) (aa_cons (ae_c D_law_pick (hr.mono (by decide)) hq (aa_cons (av 0) (aa_cons (ae_lst (aa_cons ae_int (aa_cons ae_int (aa_cons ae_int aa_nil)))) aa_nil))) aa_nil)))))
        (ass_cons (as_set (i := 6) nd rfl (Or.inl rfl) (ae_bm K s_join (pe_bm PySem.F.plainAttrs_str PySem.F.slot_str_join PySem.F.type_str_join (mt_joinK K) ae_str (aa_cons (ae_lc (own := [("_law_k", 7)]) rfl nd (ai_rng1 z_range (aa_cons (av 5) aa_nil)) (blkOk_by (own := [("_law_k", 7)]) (N := N_law_words) (sc := defScope s_law_words) (by decide +kernel)) (fun _ _ _ _ _ => (pg_name (i := 7) nd rfl (by first | exact Or.inl rfl | exact Or.inr rfl))) (go_name 7) (by decide) (fun _ _ _ _ _ => ats_nil) (fun _ _ _ _ _ => (ae_c D_law_pick (hr.mono (by decide)) hq (aa_cons (av 0) (aa_cons (av 3) aa_nil))))) aa_nil))))
        (ass_cons (as_while PassesOwn.never (at_cmp (op_inA K hr.u65) (s_in false) (av 6) (av 4) rfl)
          (ass_one (as_set (i := 6) nd rfl (Or.inl rfl) (ae_op (op_addA K) s_add (ae_ix hr.u1 (av 3) (ae_op op_mod s_I (ae_op (op_addA K) s_add (ae_bm K s_sidx (pe_bm PySem.F.plainAttrs_str PySem.F.slot_str_index PySem.F.type_str_index mt_sindex (av 3) (aa_cons (ae_ix hr.u1 (av 6) ae_int (fun _ _ => rfl)) aa_nil))) ae_int) ae_int) (fun _ _ => rfl)) (ae_sl (av 6) (ao_some ae_int) ao_none)))))
        (ass_one (as_expr (ae_bm K s_append (pe_bm PySem.F.plainAttrs_list PySem.F.slot_list_append PySem.F.type_list_append mt_append (av 4) (aa_cons (av 6) aa_nil)))))))))
      (ass_one (as_ret (ae_callTy (c_tupleF K) s_tuple z_tuple (by decide +kernel) (aa_cons (ae_callB (c_sorted K hr.units) s_sorted z_sorted (by decide +kernel) (aa_cons (av 4) aa_nil)) aa_nil))))))) (fun ds M Q h => ?_)
  obtain ⟨p, l, n, many, rfl, hm, hD, hn, k⟩ := h
  simp only [aSeq, aAsg, aGName, aGTup, aGCons, aGNil, unTup, aVar, aC, aOp, aUn, aTest, aChain, aAnd, aOr, aNot, aIf, aAndT, aOrT, aNotT, aNil, aCons, aTup, aLst, aLstM, aDictM, aCB, aLc, aLc2, aDc, aFld, aFldSet, aMeth, aMethK, aMake, aMakeM, aPairs, aDisp, aRev, aRevM, aPutAt, aAugI, aFor, aWhile, aSeqW, aRng1, aRng2, aEnum, aNext, aNever, aBreak, aCont, aDrop, aRet, aRetN, aIfS, aPar, aCall, aYes, startA, endsA, aI, aU, aBM, aBM0, aTx, aSl, aNoPart, aPart, List.map_cons, List.map_nil, List.length_cons, List.length_nil, List.replicate_succ, List.replicate_zero, List.cons_append, List.nil_append, List.append_nil, List.set_cons_zero, List.set_cons_succ, List.getElem?_cons_zero, List.getElem?_cons_succ, Option.some.injEq, exists_eq_left', D.int.injEq, D.str.injEq, D.bl.injEq, D.ref.injEq, D.tup.injEq, D.lst.injEq, List.cons.injEq, and_true, true_and, exists_and_left, exists_eq_left, exists_eq, and_assoc, Nat.reduceAdd, Nat.reduceSub, Nat.zero_add, exists_and_right, exists_const, if_true, if_false, Bool.not_true, Bool.not_false, Bool.false_eq_true, wipeA, N_law_words]
  refine ⟨by decide, fun z hz => ⟨by decide, by omega, by omega, ?_⟩⟩
  obtain ⟨D0, zp, zl⟩ := hD.new (o := .lst []) hz
  have K0 : KeepM p l M (put M z (.lst [])) := KeepM.refl.new hz
  refine ⟨WordInv p l z n many M, ⟨none, none, none, none, [], n, rfl, put_same, rfl, List.nodup_nil, (fun y hy => by cases hy), by omega, D0, K0⟩, fun _ _ _ _ _ => trivial, ?_, ?_⟩
  · rintro i d Γ G hd ⟨o2, o5, o6, o7, ys, n', rfl, gz, ly, ndy, hys, hn', D1, K1⟩
    have im : i < many := by
      have := (List.getElem?_eq_some_iff.mp hd).1
      simpa [intsD] using this
    simp only [aSeq, aAsg, aGName, aGTup, aGCons, aGNil, unTup, aVar, aC, aOp, aUn, aTest, aChain, aAnd, aOr, aNot, aIf, aAndT, aOrT, aNotT, aNil, aCons, aTup, aLst, aLstM, aDictM, aCB, aLc, aLc2, aDc, aFld, aFldSet, aMeth, aMethK, aMake, aMakeM, aPairs, aDisp, aRev, aRevM, aPutAt, aAugI, aFor, aWhile, aSeqW, aRng1, aRng2, aEnum, aNext, aNever, aBreak, aCont, aDrop, aRet, aRetN, aIfS, aPar, aCall, aYes, startA, endsA, aI, aU, aBM, aBM0, aTx, aSl, aNoPart, aPart, List.map_cons, List.map_nil, List.length_cons, List.length_nil, List.replicate_succ, List.replicate_zero, List.cons_append, List.nil_append, List.append_nil, List.set_cons_zero, List.set_cons_succ, List.getElem?_cons_zero, List.getElem?_cons_succ, Option.some.injEq, exists_eq_left', D.int.injEq, D.str.injEq, D.bl.injEq, D.ref.injEq, D.tup.injEq, D.lst.injEq, List.cons.injEq, and_true, true_and, exists_and_left, exists_eq_left, exists_eq, and_assoc, Nat.reduceAdd, Nat.reduceSub, Nat.zero_add, exists_and_right, exists_const, if_true, if_false, Bool.not_true, Bool.not_false, Bool.false_eq_true, wipeA]
    refine ⟨by decide, p, l, n', _, _, rfl, D1, by omega, .inl rfl, by simp, by decide, fun x G2 hx D2 K2 => ?_⟩
    obtain ⟨m, rfl, m1, m8⟩ : ∃ m : Int, x = .int m ∧ 1 ≤ m ∧ m ≤ 8 := by
      simp only [List.mem_cons, List.not_mem_nil, or_false] at hx
      rcases hx with rfl | rfl | rfl
      · exact ⟨1, rfl, by decide, by decide⟩
      · exact ⟨2, rfl, by decide, by decide⟩
      · exact ⟨8, rfl, by decide, by decide⟩
    refine ⟨p, l, _, m, rfl, D2, by omega, by omega, by omega, fun r G3 r0 r1 D3 K3 => ?_⟩
    dsimp only
    rw [aAdd_ii]
    refine ⟨rfl, _, rfl, by omega, by omega, lc_state (fun i' acc M' => ∃ cs : List Nat, acc = cs.map (fun c => D.str ⟨#[c]⟩) ∧ cs.length = i' ∧ (∀ c ∈ cs, 97 ≤ c ∧ c ≤ 122) ∧ ADeck M' p l (n' + 1 + 1 + i') ∧ KeepM p l G M')
      (fun _ => trivial) (by rw [intsD_len]; omega) ⟨[], rfl, rfl, (fun c hc => by cases hc), D3, K2.trans K3⟩ ?_ ?_⟩
    · rintro i' d0 acc G4 hd' hacc ⟨cs, rfl, lc, hcs, D4, K4⟩ P' R hP hR
      have i8 : i' < (1 + r).toNat := by
        have := (List.getElem?_eq_some_iff.mp hd').1
        simpa [intsD] using this
      simp only [aSeq, aAsg, aGName, aGTup, aGCons, aGNil, unTup, aVar, aC, aOp, aUn, aTest, aChain, aAnd, aOr, aNot, aIf, aAndT, aOrT, aNotT, aNil, aCons, aTup, aLst, aLstM, aDictM, aCB, aLc, aLc2, aDc, aFld, aFldSet, aMeth, aMethK, aMake, aMakeM, aPairs, aDisp, aRev, aRevM, aPutAt, aAugI, aFor, aWhile, aSeqW, aRng1, aRng2, aEnum, aNext, aNever, aBreak, aCont, aDrop, aRet, aRetN, aIfS, aPar, aCall, aYes, startA, endsA, aI, aU, aBM, aBM0, aTx, aSl, aNoPart, aPart, List.map_cons, List.map_nil, List.length_cons, List.length_nil, List.replicate_succ, List.replicate_zero, List.cons_append, List.nil_append, List.append_nil, List.set_cons_zero, List.set_cons_succ, List.getElem?_cons_zero, List.getElem?_cons_succ, Option.some.injEq, exists_eq_left', D.int.injEq, D.str.injEq, D.bl.injEq, D.ref.injEq, D.tup.injEq, D.lst.injEq, List.cons.injEq, and_true, true_and, exists_and_left, exists_eq_left, exists_eq, and_assoc, Nat.reduceAdd, Nat.reduceSub, Nat.zero_add, exists_and_right, exists_const, if_true, if_false, Bool.not_true, Bool.not_false, Bool.false_eq_true, wipeA]
      refine ⟨p, l, _, _, LA.signs ABC, rfl, D4, by omega, .inr (.inr ⟨ABC, rfl, rfl⟩), (fun e => by have := congrArg List.length e; simp [LA.signs, abc_list] at this), by simp [LA.signs, abc_list], fun x G5 hx D5 K5 => hP _ _ ?_⟩
      unfold LA.signs at hx
      rw [abc_list] at hx
      obtain ⟨c, hc, rfl⟩ := List.mem_map.mp hx
      obtain ⟨a, ha, rfl⟩ := List.mem_map.mp hc
      have := List.mem_range.mp ha
      refine ⟨cs ++ [97 + a], by simp, by simp [lc], fun c hc => ?_, D5, K4.trans K5⟩
      rcases List.mem_append.mp hc with h | h
      · exact hcs c h
      · rw [List.mem_singleton.mp h]
        omega
    · rintro acc G4 hl ⟨cs, rfl, lc, hcs, D4, K4⟩
      rw [intsD_len] at lc
      have lc' : cs.length ≤ 8 ∧ 1 ≤ cs.length := by omega
      refine ⟨Str.ofString "", _, _, cs.map fun c => ⟨#[c]⟩, rfl, rfl, rfl, ?_, ?_, ?_⟩
      · have := strsD_map (cs.map fun c => (⟨#[c]⟩ : Str))
        rw [List.map_map] at this
        exact this
      · have : ∀ ks : List Nat, (List.map (fun x : Str => x.length) (List.map (fun c => (⟨#[c]⟩ : Str)) ks)).sum = ks.length := by
          intro ks
          induction ks with
          | nil => rfl
          | cons k r ih => simp only [List.map_cons, List.sum_cons, List.length_cons, ih]; show 1 + _ = _; omega
        rw [this, List.length_map, show (Str.ofString "").length = 0 from by decide +kernel]
        omega
      · rw [join_mk]
        have g4 := K4.at gz zp zl
        refine words_while ⟨cs, rfl, lc'.2, lc'.1, hcs⟩ g4 hys (by omega) fun x' hx' hn'' => ?_
        simp only [aSeq, aAsg, aGName, aGTup, aGCons, aGNil, unTup, aVar, aC, aOp, aUn, aTest, aChain, aAnd, aOr, aNot, aIf, aAndT, aOrT, aNotT, aNil, aCons, aTup, aLst, aLstM, aDictM, aCB, aLc, aLc2, aDc, aFld, aFldSet, aMeth, aMethK, aMake, aMakeM, aPairs, aDisp, aRev, aRevM, aPutAt, aAugI, aFor, aWhile, aSeqW, aRng1, aRng2, aEnum, aNext, aNever, aBreak, aCont, aDrop, aRet, aRetN, aIfS, aPar, aCall, aYes, startA, endsA, aI, aU, aBM, aBM0, aTx, aSl, aNoPart, aPart, List.map_cons, List.map_nil, List.length_cons, List.length_nil, List.replicate_succ, List.replicate_zero, List.cons_append, List.nil_append, List.append_nil, List.set_cons_zero, List.set_cons_succ, List.getElem?_cons_zero, List.getElem?_cons_succ, Option.some.injEq, exists_eq_left', D.int.injEq, D.str.injEq, D.bl.injEq, D.ref.injEq, D.tup.injEq, D.lst.injEq, List.cons.injEq, and_true, true_and, exists_and_left, exists_eq_left, exists_eq, and_assoc, Nat.reduceAdd, Nat.reduceSub, Nat.zero_add, exists_and_right, exists_const, if_true, if_false, Bool.not_true, Bool.not_false, Bool.false_eq_true, wipeA]
        refine ⟨ty_m g4, append_m g4 (by rw [List.length_map]; omega) ⟨_, _, _, _, ys ++ [x'], _, rfl, ?_, by simp [ly], ?_, ?_, (by omega : n' + 1 + 1 + (1 + r).toNat ≤ n + 10 * (i + 1)), ?_, ?_⟩⟩
        · rw [put_same, List.map_append]
          rfl
        · refine List.nodup_append.mpr ⟨ndy, List.nodup_cons.mpr ⟨(by simp), List.nodup_nil⟩, ?_⟩
          intro y hy y' hy' e
          rw [List.mem_singleton.mp hy'] at e
          exact hn'' (e ▸ hy)
        · intro y hy
          rcases List.mem_append.mp hy with h | h
          · exact hys y h
          · rw [List.mem_singleton.mp h]
            exact hx'
        · rw [intsD_len] at D4
          exact D4.upd zp zl
        · exact (K1.trans K4).new hz
  · rintro Γ G ⟨o2, o5, o6, o7, ys, n', rfl, gz, ly, ndy, hys, hn', D1, K1⟩
    simp only [aSeq, aAsg, aGName, aGTup, aGCons, aGNil, unTup, aVar, aC, aOp, aUn, aTest, aChain, aAnd, aOr, aNot, aIf, aAndT, aOrT, aNotT, aNil, aCons, aTup, aLst, aLstM, aDictM, aCB, aLc, aLc2, aDc, aFld, aFldSet, aMeth, aMethK, aMake, aMakeM, aPairs, aDisp, aRev, aRevM, aPutAt, aAugI, aFor, aWhile, aSeqW, aRng1, aRng2, aEnum, aNext, aNever, aBreak, aCont, aDrop, aRet, aRetN, aIfS, aPar, aCall, aYes, startA, endsA, aI, aU, aBM, aBM0, aTx, aSl, aNoPart, aPart, List.map_cons, List.map_nil, List.length_cons, List.length_nil, List.replicate_succ, List.replicate_zero, List.cons_append, List.nil_append, List.append_nil, List.set_cons_zero, List.set_cons_succ, List.getElem?_cons_zero, List.getElem?_cons_succ, Option.some.injEq, exists_eq_left', D.int.injEq, D.str.injEq, D.bl.injEq, D.ref.injEq, D.tup.injEq, D.lst.injEq, List.cons.injEq, and_true, true_and, exists_and_left, exists_eq_left, exists_eq, and_assoc, Nat.reduceAdd, Nat.reduceSub, Nat.zero_add, exists_and_right, exists_const, if_true, if_false, Bool.not_true, Bool.not_false, Bool.false_eq_true, wipeA]
    have im : ys.length = many := by rw [ly, intsD_len]; omega
    have hn2 : n' ≤ n + 10 * many := by rw [intsD_len] at hn'; simpa using hn'
    refine ⟨_, ys.map D.str, rfl, by unfold listD; rw [view_m gz], strs_plain ys, ?_, ?_, by rw [List.length_map]; omega, ?_, ?_⟩
    · rw [pyL_strs]
      exact PySem.W.AllAlike.of fun _ _ => rfl
    · rw [pyL_strs]
      exact PySem.W.Sortable.others fun b => ⟨(fun z => nomatch z), (fun xs z => nomatch z)⟩
    · intro d hd
      obtain ⟨y, _, rfl⟩ := List.mem_map.mp hd
      simp [py, PyData.depth]
    · dsimp only
      rw [sortD_str, tuple_lst]
      have pm := sortS_perm ys
      have ndu : (sortS ys).Nodup := pm.nodup_iff.mpr ndy
      exact k _ G n' (by rw [pm.length_eq]; exact im) ndu (asc_of_pairs (asc_pairs (sortS_up ys) ndu)) (fun y hy => hys y (pm.mem_iff.mp hy)) hn2 D1 K1
end
end E60
namespace E60
open PySem PySem.Spec PyProof.Rows L2 Lay LA
section
variable {P : Program} {w : World} {K : PySem.W.Frag} {mg : Str → Option Value} {base : Heap}
abbrev Row := (Int × Int) × Int × Int
def rowD (r : Row) : D := .tup [cD r.1, .int r.2.1, .int r.2.2]
structure Rows (rs : List Row) : Prop where
  n2 : 2 ≤ rs.length
  n3 : rs.length ≤ 3
  up : (rs.map (·.1)).Pairwise fun a b => a.1 < b.1 ∨ (a.1 = b.1 ∧ a.2 < b.2)
  c : ∀ r ∈ rs, 0 ≤ r.1.1 ∧ r.1.1 ≤ 20 ∧ 0 ≤ r.1.2 ∧ r.1.2 ≤ 20
  s : ∀ r ∈ rs, 1 ≤ r.2.1 ∧ r.2.1 ≤ 4 ∧ 0 ≤ r.2.2 ∧ r.2.2 < r.2.1
theorem erase_map {α β : Type} (f : α → β) : ∀ (xs : List α) (k : Nat), (xs.map f).eraseIdx k = (xs.eraseIdx k).map f
  | [], k => by simp
  | x :: r, 0 => by simp
  | x :: r, k + 1 => by simp [List.eraseIdx_cons_succ, erase_map f r k]
def aCells : ASp := fun ds M Q => ∃ (p l : Addr) (n : Nat), ds = [.ref p] ∧ ADeck M p l n ∧ n + 100 < 10 ^ 9 ∧
  ∀ (rs : List Row) M' n', Rows rs → n' ≤ n + 30 → ADeck M' p l n' → KeepM p l M M' → Q (.tup (rs.map rowD)) M'
theorem ok_law_cells {f : Addr} {fd : FuncData} (F : Fun K "_law_cells" "_law_cells" s_law_cells f fd) (z_len : mg "len" = none) (z_tuple : mg "tuple" = none) (z_sorted : mg "sorted" = none)
    (D_law_draw : Has P w K mg base 1 "_law_draw" ["_law_deck_here", "_law_below"] (spA K aDraw))
    (D_law_pick : Has P w K mg base 2 "_law_pick" ["_law_deck_here", "_law_items"] (spA K aPick)) :
    FnG P w K mg base CX0 3 f fd ["_law_deck_here"] (spA K aCells) := by
  have nd := sc_law_cells.nd
  refine okA F sc_law_cells (fun ds M Q h => by obtain ⟨_, _, _, rfl, _⟩ := h; rfl) (fun cv A' out t G Z hr hq => (ass_cons (as_par (i := 3) (j := 4) (by rfl) nd rfl rfl (by decide) rfl rfl (aa_cons (ae_c D_law_draw (hr.mono (by decide)) hq (aa_cons (av 0) (aa_cons ae_int aa_nil))) (aa_cons (ae_c D_law_draw (hr.mono (by decide)) hq (aa_cons (av 0) (aa_cons ae_int aa_nil))) aa_nil)) (by rfl))
      (ass_cons (as_set (i := 1) nd rfl (Or.inl rfl) (ae_lstM (aa_cons (ae_tup (aa_cons (av 3) (aa_cons (av 4) aa_nil))) (aa_cons (ae_tup (aa_cons (av 3) (aa_cons (ae_op (op_addA K) s_add (av 4) ae_int) aa_nil))) (aa_cons (ae_tup (aa_cons (ae_op (op_addA K) s_add (av 3) ae_int) (aa_cons (av 4) aa_nil))) (aa_cons (ae_tup (aa_cons (ae_op (op_addA K) s_add (ae_op (op_addA K) s_add (av 3) ae_int) (ae_c D_law_draw (hr.mono (by decide)) hq (aa_cons (av 0) (aa_cons ae_int aa_nil)))) (aa_cons (ae_op (op_addA K) s_add (av 4) ae_int) aa_nil))) aa_nil))))))
      (ass_cons (as_par (i := 5) (j := 6) (by rfl) nd rfl rfl (by decide) rfl rfl (aa_cons (ae_op (op_addA K) s_add ae_int (ae_c D_law_draw (hr.mono (by decide)) hq (aa_cons (av 0) (aa_cons ae_int aa_nil)))) (aa_cons (ae_lstM aa_nil) aa_nil)) (by rfl))
      (ass_cons (as_while PassesOwn.never (at_cmp op_gtA s_B (ae_callB (c_len K) s_len z_len (by decide +kernel) (aa_cons (av 1) aa_nil)) (av 5) (nomark _))
        (ass_one (as_expr (ae_bm K s_popAt (pe_bm PySem.F.plainAttrs_list PySem.F.slot_list_pop PySem.F.type_list_pop mt_popAt (av 1) (aa_cons (ae_c D_law_draw (hr.mono (by decide)) hq (aa_cons (av 0) (aa_cons (ae_callB (c_len K) s_len z_len (by decide +kernel) (aa_cons (av 1) aa_nil)) aa_nil))) aa_nil))))))
      (ass_cons (as_for PassesOwn.never rfl (ai_seq (ae_callB (c_sorted K hr.units) s_sorted z_sorted (by decide +kernel) (aa_cons (av 1) aa_nil))) (pg_name (i := 2) nd rfl (Or.inl rfl)) (go_name 2)
        (ass_cons (as_set (i := 7) nd rfl (Or.inl rfl) (ae_c D_law_pick (hr.mono (by decide)) hq (aa_cons (av 0) (aa_cons (ae_lst (aa_cons ae_int (aa_cons ae_int (aa_cons ae_int (aa_cons ae_int (aa_cons ae_int aa_nil)))))) aa_nil))))
        (ass_one (as_expr (ae_bm K s_append (pe_bm PySem.F.plainAttrs_list PySem.F.slot_list_append PySem.F.type_list_append mt_append (av 6) (aa_cons (ae_tup (aa_cons (av 2) (aa_cons (av 7) (aa_cons (ae_c D_law_draw (hr.mono (by decide)) hq (aa_cons (av 0) (aa_cons (av 7) aa_nil))) aa_nil)))) aa_nil)))))))
      (ass_one (as_ret (ae_callTy (c_tupleF K) s_tuple z_tuple (by decide +kernel) (aa_cons (av 6) aa_nil)))))))))) (fun ds M Q h => ?_)
  obtain ⟨p, l, n, rfl, hD, hn, k⟩ := h
  simp only [aSeq, aAsg, aGName, aGTup, aGCons, aGNil, unTup, aVar, aC, aOp, aUn, aTest, aChain, aAnd, aOr, aNot, aIf, aAndT, aOrT, aNotT, aNil, aCons, aTup, aLst, aLstM, aDictM, aCB, aLc, aLc2, aDc, aFld, aFldSet, aMeth, aMethK, aMake, aMakeM, aPairs, aDisp, aRev, aRevM, aPutAt, aAugI, aFor, aWhile, aSeqW, aRng1, aRng2, aEnum, aNext, aNever, aBreak, aCont, aDrop, aRet, aRetN, aIfS, aPar, aCall, aYes, startA, endsA, aI, aU, aBM, aBM0, aTx, aSl, aNoPart, aPart, List.map_cons, List.map_nil, List.length_cons, List.length_nil, List.replicate_succ, List.replicate_zero, List.cons_append, List.nil_append, List.append_nil, List.set_cons_zero, List.set_cons_succ, List.getElem?_cons_zero, List.getElem?_cons_succ, Option.some.injEq, exists_eq_left', D.int.injEq, D.str.injEq, D.bl.injEq, D.ref.injEq, D.tup.injEq, D.lst.injEq, List.cons.injEq, and_true, true_and, exists_and_left, exists_eq_left, exists_eq, and_assoc, Nat.reduceAdd, Nat.reduceSub, Nat.zero_add, exists_and_right, exists_const, if_true, if_false, Bool.not_true, Bool.not_false, Bool.false_eq_true, wipeA, N_law_cells]
  refine ⟨p, l, n, 4, rfl, hD, by omega, by decide, by decide, fun b M1 b0 b1 D1 K1 => ?_⟩
  refine ⟨p, l, _, 3, rfl, D1, by omega, by decide, by decide, fun a M2 a0 a1 D2 K2 => ?_⟩
  dsimp only
  refine ⟨by decide, ?_⟩
  rw [aAdd_ii]
  refine ⟨by decide, ?_⟩
  rw [aAdd_ii]
  refine ⟨by decide, ?_⟩
  rw [aAdd_ii]
  refine ⟨p, l, _, 3, rfl, D2, by omega, by decide, by decide, fun d M3 d0 d1 D3 K3 => ?_⟩
  dsimp only
  rw [aAdd_ii, aAdd_ii]
  refine ⟨by decide, by decide, fun z hz => ?_⟩
  have K03 := (K1.trans K2).trans K3
  generalize hpool : [(b, a), (b, a + 1), (b + 1, a), (b + 1 + d, a + 2)] = pool
  have epool : [D.tup [D.int b, D.int a], D.tup [D.int b, D.int (a + 1)], D.tup [D.int (b + 1), D.int a], D.tup [D.int (b + 1 + d), D.int (a + 2)]] = pool.map cD := by rw [← hpool]; rfl
  rw [epool]
  obtain ⟨D4, zp, zl⟩ := D3.new (o := .lst (pool.map cD)) hz
  refine ⟨p, l, _, 2, rfl, D4, by omega, by decide, by decide, fun r M5 r0 r1 D5 K5 => ?_⟩
  dsimp only
  rw [aAdd_ii]
  refine ⟨by decide, fun y hy => ?_⟩
  have gz5 := K5.at (put_same (M := M3) (a := z) (o := .lst (pool.map cD))) zp zl
  obtain ⟨D6, yp, yl⟩ := D5.new (o := .lst []) hy
  have zy : z ≠ y := fun e => by rw [← e, gz5] at hy; cases hy
  have pl4 : pool.length = 4 := by rw [← hpool]; rfl
  have hzM : M z = none := K03.back hz zp zl
  have hyM : M y = none := ((K03.new hzM).trans K5).back hy yp yl
  refine ⟨fun m Γ G => ∃ (us : List (Int × Int)) (n' : Nat), Γ = [some (.ref p), some (.ref z), none, some (.int b), some (.int a), some (.int (2 + r)), some (.ref y), none] ∧ G z = some (.lst (us.map cD)) ∧ G y = some (.lst []) ∧
    us.Sublist pool ∧ 2 + r ≤ us.length ∧ m = us.length ∧ n' + us.length ≤ n + 10 ∧ ADeck G p l n' ∧ KeepM p l M G, ⟨4, pool, n + 1 + 1 + 1 + 1, rfl, ?_, put_same, List.Sublist.refl _, by omega, pl4.symm, by omega, D6, ?_⟩, ?_⟩
  · rw [put_ne zy]
    exact gz5
  · exact ((K03.new hzM).trans K5).new hyM
  · rintro m Γ G ⟨us, n', rfl, gz, gy, sub, hlen, rfl, hn', D7, K7⟩
    have ul : us.length ≤ 4 := by have := sub.length_le; omega
    simp only [aSeq, aAsg, aGName, aGTup, aGCons, aGNil, unTup, aVar, aC, aOp, aUn, aTest, aChain, aAnd, aOr, aNot, aIf, aAndT, aOrT, aNotT, aNil, aCons, aTup, aLst, aLstM, aDictM, aCB, aLc, aLc2, aDc, aFld, aFldSet, aMeth, aMethK, aMake, aMakeM, aPairs, aDisp, aRev, aRevM, aPutAt, aAugI, aFor, aWhile, aSeqW, aRng1, aRng2, aEnum, aNext, aNever, aBreak, aCont, aDrop, aRet, aRetN, aIfS, aPar, aCall, aYes, startA, endsA, aI, aU, aBM, aBM0, aTx, aSl, aNoPart, aPart, List.map_cons, List.map_nil, List.length_cons, List.length_nil, List.replicate_succ, List.replicate_zero, List.cons_append, List.nil_append, List.append_nil, List.set_cons_zero, List.set_cons_succ, List.getElem?_cons_zero, List.getElem?_cons_succ, Option.some.injEq, exists_eq_left', D.int.injEq, D.str.injEq, D.bl.injEq, D.ref.injEq, D.tup.injEq, D.lst.injEq, List.cons.injEq, and_true, true_and, exists_and_left, exists_eq_left, exists_eq, and_assoc, Nat.reduceAdd, Nat.reduceSub, Nat.zero_add, exists_and_right, exists_const, if_true, if_false, Bool.not_true, Bool.not_false, Bool.false_eq_true, wipeA]
    rw [len_m gz]
    refine ⟨_, rfl, ?_⟩
    by_cases hb : 2 + r < ((us.map cD).length : Nat)
    · rw [if_pos (by simpa using hb)]
      refine ⟨ty_m gz, ?_⟩
      rw [len_m gz]
      rw [List.length_map] at hb
      refine ⟨p, l, n', _, rfl, D7, by omega, by rw [List.length_map]; omega, by rw [List.length_map]; omega, fun i G2 i0 i1 D8 K8 => ?_⟩
      rw [List.length_map] at i1
      have gz2 := K8.at gz zp zl
      have gy2 := K8.at gy yp yl
      obtain ⟨j, rfl⟩ : ∃ j : Nat, i = j := ⟨i.toNat, by omega⟩
      have hj : j < us.length := by omega
      refine ⟨z, _, (j : Int), j, cD us[j], rfl, rfl, gz2, by omega, by omega, by rw [List.length_map]; exact seqIndex_of (by omega) (by omega), by rw [List.getElem?_map, List.getElem?_eq_getElem hj]; rfl, ?_⟩
      rw [erase_map]
      have le1 : (us.eraseIdx j).length = us.length - 1 := by rw [List.length_eraseIdx, if_pos hj]
      exact ⟨us.length - 1, by omega, us.eraseIdx j, put_same, by rw [put_ne (Ne.symm zy)]; exact gy2, (List.eraseIdx_sublist us j).trans sub, by omega, le1.symm, n' + 1, by omega, D8.upd zp zl, (K7.trans K8).new hzM⟩
    · rw [if_neg (by simpa using hb)]
      have hu : us.length ≤ 3 := by rw [List.length_map] at hb; omega
      have nd4 : pool.Nodup := by
        rw [← hpool]
        simp only [List.nodup_cons, List.mem_cons, Prod.mk.injEq, List.not_mem_nil, or_false, not_false_eq_true, List.nodup_nil, and_true, not_or]
        omega
      have ndu : us.Nodup := sub.nodup nd4
      have pm := sortC_perm us
      have up := sortC_up ndu
      have lw : (sortC us).length = us.length := pm.length_eq
      have bw : ∀ c ∈ sortC us, 0 ≤ c.1 ∧ c.1 ≤ 20 ∧ 0 ≤ c.2 ∧ c.2 ≤ 20 := fun c hc => by
        have := sub.subset (pm.mem_iff.mp hc)
        rw [← hpool] at this
        simp only [List.mem_cons, List.not_mem_nil, or_false] at this
        rcases this with rfl | rfl | rfl | rfl <;> refine ⟨?_, ?_, ?_, ?_⟩ <;> dsimp only <;> omega
      refine sorted_pairs gz (by omega) ?_
      generalize sortC us = ws at lw bw up
      refine ⟨_, rfl, fun i Γ G' => ∃ (o2 o7 : Option D) (rs : List Row) (n2 : Nat), Γ = [some (.ref p), some (.ref z), o2, some (.int b), some (.int a), some (.int (2 + r)), some (.ref y), o7] ∧ G' y = some (.lst (rs.map rowD)) ∧ rs.map (·.1) = ws.take i ∧
        (∀ r ∈ rs, 1 ≤ r.2.1 ∧ r.2.1 ≤ 4 ∧ 0 ≤ r.2.2 ∧ r.2.2 < r.2.1) ∧ n2 ≤ n + 10 + 2 * i ∧ ADeck G' p l n2 ∧ KeepM p l M G', ⟨none, none, [], n', rfl, gy, rfl, (fun r h => by cases h), by omega, D7, K7⟩, fun _ _ _ _ _ => trivial, ?_, ?_⟩
      · rintro i d Γ G' hd' ⟨o2, o7, rs, n2, rfl, gy', e1, hs, hn2, D8, K8⟩
        have hd2 : (ws.map pD)[i]? = some d := hd'
        rw [List.getElem?_map, Option.map_eq_some_iff] at hd2
        obtain ⟨c, hc, rfl⟩ := hd2
        have iw : i < ws.length := (List.getElem?_eq_some_iff.mp hc).1
        simp only [aSeq, aAsg, aGName, aGTup, aGCons, aGNil, unTup, aVar, aC, aOp, aUn, aTest, aChain, aAnd, aOr, aNot, aIf, aAndT, aOrT, aNotT, aNil, aCons, aTup, aLst, aLstM, aDictM, aCB, aLc, aLc2, aDc, aFld, aFldSet, aMeth, aMethK, aMake, aMakeM, aPairs, aDisp, aRev, aRevM, aPutAt, aAugI, aFor, aWhile, aSeqW, aRng1, aRng2, aEnum, aNext, aNever, aBreak, aCont, aDrop, aRet, aRetN, aIfS, aPar, aCall, aYes, startA, endsA, aI, aU, aBM, aBM0, aTx, aSl, aNoPart, aPart, List.map_cons, List.map_nil, List.length_cons, List.length_nil, List.replicate_succ, List.replicate_zero, List.cons_append, List.nil_append, List.append_nil, List.set_cons_zero, List.set_cons_succ, List.getElem?_cons_zero, List.getElem?_cons_succ, Option.some.injEq, exists_eq_left', D.int.injEq, D.str.injEq, D.bl.injEq, D.ref.injEq, D.tup.injEq, D.lst.injEq, List.cons.injEq, and_true, true_and, exists_and_left, exists_eq_left, exists_eq, and_assoc, Nat.reduceAdd, Nat.reduceSub, Nat.zero_add, exists_and_right, exists_const, if_true, if_false, Bool.not_true, Bool.not_false, Bool.false_eq_true, wipeA]
        refine ⟨by decide, p, l, n2, _, _, rfl, D8, by omega, .inl rfl, by simp, by decide, fun x G2 hx D9 K9 => ?_⟩
        obtain ⟨m, rfl, m1, m4⟩ : ∃ m : Int, x = .int m ∧ 1 ≤ m ∧ m ≤ 4 := by
          simp only [List.mem_cons, List.not_mem_nil, or_false] at hx
          rcases hx with rfl | rfl | rfl | rfl | rfl
          · exact ⟨2, rfl, by decide, by decide⟩
          · exact ⟨2, rfl, by decide, by decide⟩
          · exact ⟨3, rfl, by decide, by decide⟩
          · exact ⟨1, rfl, by decide, by decide⟩
          · exact ⟨4, rfl, by decide, by decide⟩
        have gy2 := K9.at gy' yp yl
        refine ⟨ty_m gy2, p, l, _, m, rfl, D9, by omega, by omega, by omega, fun f G3 f0 f1 D10 K10 => ⟨by decide, ?_⟩⟩
        have gy3 := K10.at gy2 yp yl
        have rl : rs.length ≤ 3 := by
          have := congrArg List.length e1
          rw [List.length_map, List.length_take] at this
          omega
        refine append_m gy3 (by rw [List.length_map]; omega) ⟨rs ++ [(c, m, f)], ?_, ?_, ?_, _, (by omega : n2 + 1 + 1 ≤ n + 10 + 2 * (i + 1)), D10.upd yp yl, (K8.trans (K9.trans K10)).new hyM⟩
        · rw [put_same, List.map_append]
          rfl
        · rw [List.map_append, e1, List.take_succ, hc]
          rfl
        · intro r' hr'
          rcases List.mem_append.mp hr' with h | h
          · exact hs r' h
          · rw [List.mem_singleton.mp h]
            exact ⟨m1, m4, f0, f1⟩
      · rintro Γ G' ⟨o2, o7, rs, n2, rfl, gy', e1, hs, hn2, D8, K8⟩
        have e1' : rs.map (·.1) = ws := by
          have h : rs.map (·.1) = ws.take ((ws.map pD).length) := e1
          rw [List.length_map, List.take_length] at h
          exact h
        have hn3 : n2 ≤ n + 10 + 2 * (ws.map pD).length := hn2
        rw [List.length_map] at hn3
        simp only [aSeq, aAsg, aGName, aGTup, aGCons, aGNil, unTup, aVar, aC, aOp, aUn, aTest, aChain, aAnd, aOr, aNot, aIf, aAndT, aOrT, aNotT, aNil, aCons, aTup, aLst, aLstM, aDictM, aCB, aLc, aLc2, aDc, aFld, aFldSet, aMeth, aMethK, aMake, aMakeM, aPairs, aDisp, aRev, aRevM, aPutAt, aAugI, aFor, aWhile, aSeqW, aRng1, aRng2, aEnum, aNext, aNever, aBreak, aCont, aDrop, aRet, aRetN, aIfS, aPar, aCall, aYes, startA, endsA, aI, aU, aBM, aBM0, aTx, aSl, aNoPart, aPart, List.map_cons, List.map_nil, List.length_cons, List.length_nil, List.replicate_succ, List.replicate_zero, List.cons_append, List.nil_append, List.append_nil, List.set_cons_zero, List.set_cons_succ, List.getElem?_cons_zero, List.getElem?_cons_succ, Option.some.injEq, exists_eq_left', D.int.injEq, D.str.injEq, D.bl.injEq, D.ref.injEq, D.tup.injEq, D.lst.injEq, List.cons.injEq, and_true, true_and, exists_and_left, exists_eq_left, exists_eq, and_assoc, Nat.reduceAdd, Nat.reduceSub, Nat.zero_add, exists_and_right, exists_const, if_true, if_false, Bool.not_true, Bool.not_false, Bool.false_eq_true, wipeA]
        have rl : rs.length = us.length := by
          have := congrArg List.length e1'
          rw [List.length_map] at this
          omega
        refine ⟨_, rs.map rowD, rfl, by rw [view_m gy']; rfl, k rs G' n2 ⟨by omega, by omega, by rw [e1']; exact up, fun q hq => bw q.1 (by rw [← e1']; exact List.mem_map.mpr ⟨q, hq, rfl⟩), hs⟩ (by omega) D8 K8⟩
end
end E60
namespace E60
open PySem PySem.Spec PyProof.Rows L2 Lay LA
section
variable {P : Program} {w : World} {K : PySem.W.Frag} {mg : Str → Option Value} {base : Heap}
structure Cont (cs : List (Int × Int)) (its : Its) : Prop where
  nd : (its.map (·.1)).Nodup
  sub : ∀ c ∈ cs, c ∈ its.map (·.1)
  few : its.length ≤ 10
  val : ∀ q ∈ its, -3 ≤ q.2 ∧ q.2 ≤ 30
  c : ∀ q ∈ its, 0 ≤ q.1.1 ∧ q.1.1 ≤ 30 ∧ 0 ≤ q.1.2 ∧ q.1.2 ≤ 30
def aContent : ASp := fun ds M Q => ∃ (p l : Addr) (n : Nat) (cs : List (Int × Int)), ds = [.ref p, .lst (cs.map cD)] ∧ ADeck M p l n ∧ n + 100 < 10 ^ 9 ∧ cs.Nodup ∧ cs.length ≤ 3 ∧ (∀ c ∈ cs, 0 ≤ c.1 ∧ c.1 ≤ 20 ∧ 0 ≤ c.2 ∧ c.2 ≤ 20) ∧
  ∀ (its : Its) M' n', Cont cs its → n' ≤ n + 30 → ADeck M' p l n' → KeepM p l M M' → Q (.tup (its.map itD)) M'
theorem ok_law_content {f : Addr} {fd : FuncData} (F : Fun K "_law_content" "_law_content" s_law_content f fd) (z_list : mg "list" = none) (z_range : mg "range" = none) (z_tuple : mg "tuple" = none) (z_sorted : mg "sorted" = none)
    (D_law_draw : Has P w K mg base 1 "_law_draw" ["_law_deck_here", "_law_below"] (spA K aDraw)) :
    FnG P w K mg base CX0 2 f fd ["_law_deck_here", "_law_here"] (spA K aContent) := by
  have nd := sc_law_content.nd
  refine okA F sc_law_content (fun ds M Q h => by obtain ⟨_, _, _, _, rfl, _⟩ := h; rfl) (fun cv A' out t G Z hr hq => (ass_cons (as_set (i := 2) nd rfl (Or.inl rfl) (ae_callTy (copyK K) s_listM z_list (by decide +kernel) (aa_cons (av 1) aa_nil)))
      (ass_cons (as_for PassesOwn.never rfl (ai_rng1 z_range (aa_cons (ae_c D_law_draw (hr.mono (by decide)) hq (aa_cons (av 0) (aa_cons ae_int aa_nil))) aa_nil)) (pg_name (i := 3) nd rfl (Or.inl rfl)) (go_name 3)
        (ass_cons (as_set (i := 4) nd rfl (Or.inl rfl) (ae_tup (aa_cons (ae_c D_law_draw (hr.mono (by decide)) hq (aa_cons (av 0) (aa_cons ae_int aa_nil))) (aa_cons (ae_op (op_addA K) s_add ae_int (ae_c D_law_draw (hr.mono (by decide)) hq (aa_cons (av 0) (aa_cons ae_int aa_nil)))) aa_nil))))
        (ass_one (as_if (at_cmp (op_notInA K hr.u65) (s_in true) (av 4) (av 2) rfl) (ass_one (as_expr (ae_bm K s_append (pe_bm PySem.F.plainAttrs_list PySem.F.slot_list_append PySem.F.type_list_append mt_append (av 2) (aa_cons (av 4) aa_nil))))) ass_nil))))
      (ass_one (as_ret (ae_callTy (c_tupleF K) s_tuple z_tuple (by decide +kernel) (aa_cons (ae_lc (own := [("_law_cell", 5)]) rfl nd (ai_seq (ae_callB (c_sorted K hr.units) s_sorted z_sorted (by decide +kernel) (aa_cons (av 2) aa_nil))) (blkOk_by (own := [("_law_cell", 5)]) (N := N_law_content) (sc := defScope s_law_content) (by decide +kernel)) (fun _ _ _ _ _ => (pg_name (i := 5) nd rfl (by first | exact Or.inl rfl | exact Or.inr rfl))) (go_name 5) (by decide) (fun _ _ _ _ _ => ats_nil) (fun _ _ _ _ _ => (ae_tup (aa_cons (av 5) (aa_cons (ae_op op_sub s_I0 (ae_c D_law_draw (hr.mono (by decide)) hq (aa_cons (av 0) (aa_cons ae_int aa_nil))) ae_int) aa_nil))))) aa_nil))))))) (fun ds M Q h => ?_)
  obtain ⟨p, l, n, cs, rfl, hD, hn, ndc, c3, hb, k⟩ := h
  simp only [aSeq, aAsg, aGName, aGTup, aGCons, aGNil, unTup, aVar, aC, aOp, aUn, aTest, aChain, aAnd, aOr, aNot, aIf, aAndT, aOrT, aNotT, aNil, aCons, aTup, aLst, aLstM, aDictM, aCB, aLc, aLc2, aDc, aFld, aFldSet, aMeth, aMethK, aMake, aMakeM, aPairs, aDisp, aRev, aRevM, aPutAt, aAugI, aFor, aWhile, aSeqW, aRng1, aRng2, aEnum, aNext, aNever, aBreak, aCont, aDrop, aRet, aRetN, aIfS, aPar, aCall, aYes, startA, endsA, aI, aU, aBM, aBM0, aTx, aSl, aNoPart, aPart, List.map_cons, List.map_nil, List.length_cons, List.length_nil, List.replicate_succ, List.replicate_zero, List.cons_append, List.nil_append, List.append_nil, List.set_cons_zero, List.set_cons_succ, List.getElem?_cons_zero, List.getElem?_cons_succ, Option.some.injEq, exists_eq_left', D.int.injEq, D.str.injEq, D.bl.injEq, D.ref.injEq, D.tup.injEq, D.lst.injEq, List.cons.injEq, and_true, true_and, exists_and_left, exists_eq_left, exists_eq, and_assoc, Nat.reduceAdd, Nat.reduceSub, Nat.zero_add, exists_and_right, exists_const, if_true, if_false, Bool.not_true, Bool.not_false, Bool.false_eq_true, wipeA, N_law_content]
  refine ⟨_, _, rfl, rfl, fun z hz => ?_⟩
  obtain ⟨D0, zp, zl⟩ := hD.new (o := .lst (cs.map cD)) hz
  refine ⟨p, l, n, 3, rfl, D0, by omega, by decide, by decide, fun r M1 r0 r1 D1 K1 => ?_⟩
  have gz1 := K1.at (put_same (M := M) (a := z) (o := .lst (cs.map cD))) zp zl
  have K01 : KeepM p l M M1 := (KeepM.refl.new hz).trans K1
  refine ⟨r, rfl, by omega, by omega, ?_⟩
  refine ⟨fun i Γ G => ∃ (o3 o4 o5 : Option D) (us : List (Int × Int)), Γ = [some (.ref p), some (.lst (cs.map cD)), some (.ref z), o3, o4, o5] ∧ G z = some (.lst (us.map pD)) ∧ us.Nodup ∧ us.length ≤ 3 + i ∧ (∀ c ∈ cs, c ∈ us) ∧
    (∀ c ∈ us, 0 ≤ c.1 ∧ c.1 ≤ 30 ∧ 0 ≤ c.2 ∧ c.2 ≤ 30) ∧ ADeck G p l (n + 1 + 2 * i) ∧ KeepM p l M G, ⟨none, none, none, cs, rfl, gz1, ndc, by omega, fun c h => h, fun c h => by have := hb c h; omega, D1, K01⟩, fun _ _ _ _ _ => trivial, ?_, ?_⟩
  · rintro i d Γ G hd ⟨o3, o4, o5, us, rfl, gz, ndu, lu, sub, bu, D2, K2⟩
    have i2 : i < 2 := by
      have := (List.getElem?_eq_some_iff.mp hd).1
      have : i < r.toNat := by simpa [intsD] using this
      omega
    simp only [aSeq, aAsg, aGName, aGTup, aGCons, aGNil, unTup, aVar, aC, aOp, aUn, aTest, aChain, aAnd, aOr, aNot, aIf, aAndT, aOrT, aNotT, aNil, aCons, aTup, aLst, aLstM, aDictM, aCB, aLc, aLc2, aDc, aFld, aFldSet, aMeth, aMethK, aMake, aMakeM, aPairs, aDisp, aRev, aRevM, aPutAt, aAugI, aFor, aWhile, aSeqW, aRng1, aRng2, aEnum, aNext, aNever, aBreak, aCont, aDrop, aRet, aRetN, aIfS, aPar, aCall, aYes, startA, endsA, aI, aU, aBM, aBM0, aTx, aSl, aNoPart, aPart, List.map_cons, List.map_nil, List.length_cons, List.length_nil, List.replicate_succ, List.replicate_zero, List.cons_append, List.nil_append, List.append_nil, List.set_cons_zero, List.set_cons_succ, List.getElem?_cons_zero, List.getElem?_cons_succ, Option.some.injEq, exists_eq_left', D.int.injEq, D.str.injEq, D.bl.injEq, D.ref.injEq, D.tup.injEq, D.lst.injEq, List.cons.injEq, and_true, true_and, exists_and_left, exists_eq_left, exists_eq, and_assoc, Nat.reduceAdd, Nat.reduceSub, Nat.zero_add, exists_and_right, exists_const, if_true, if_false, Bool.not_true, Bool.not_false, Bool.false_eq_true, wipeA]
    refine ⟨p, l, _, 12, rfl, D2, by omega, by decide, by decide, fun x M3 x0 x1 D3 K3 => ?_⟩
    refine ⟨p, l, _, 3, rfl, D3, by omega, by decide, by decide, fun y M4 y0 y1 D4 K4 => ?_⟩
    dsimp only
    rw [aAdd_ii]
    have gz4 := (K3.trans K4).at gz zp zl
    refine ⟨by decide, ?_⟩
    rw [show D.tup [D.int x, D.int (20 + y)] = pD (x, 20 + y) from rfl, notIn_pairs gz4]
    refine ⟨_, rfl, ?_⟩
    have K24 := K2.trans (K3.trans K4)
    by_cases hm : (x, 20 + y) ∈ us
    · rw [if_neg (by simp [hm])]
      exact ⟨us, gz4, ndu, by omega, sub, bu, D4, K24⟩
    · rw [if_pos (by simp [hm])]
      refine ⟨ty_m gz4, append_m gz4 (by rw [List.length_map]; omega) ⟨us ++ [(x, 20 + y)], ?_, ?_, ?_, fun c h => List.mem_append_left _ (sub c h), ?_, D4.upd zp zl, K24.new hz⟩⟩
      · rw [put_same, List.map_append]
        rfl
      · refine List.nodup_append.mpr ⟨ndu, List.nodup_cons.mpr ⟨(by simp), List.nodup_nil⟩, ?_⟩
        intro c hc c' hc' e
        rw [List.mem_singleton.mp hc'] at e
        exact hm (e ▸ hc)
      · rw [List.length_append, List.length_singleton]
        omega
      · intro c hc
        rcases List.mem_append.mp hc with h | h
        · exact bu c h
        · rw [List.mem_singleton.mp h]
          refine ⟨?_, ?_, ?_, ?_⟩ <;> dsimp only <;> omega
  · rintro Γ G ⟨o3, o4, o5, us, rfl, gz, ndu, lu, sub, bu, D2, K2⟩
    rw [intsD_len] at lu D2
    simp only [aSeq, aAsg, aGName, aGTup, aGCons, aGNil, unTup, aVar, aC, aOp, aUn, aTest, aChain, aAnd, aOr, aNot, aIf, aAndT, aOrT, aNotT, aNil, aCons, aTup, aLst, aLstM, aDictM, aCB, aLc, aLc2, aDc, aFld, aFldSet, aMeth, aMethK, aMake, aMakeM, aPairs, aDisp, aRev, aRevM, aPutAt, aAugI, aFor, aWhile, aSeqW, aRng1, aRng2, aEnum, aNext, aNever, aBreak, aCont, aDrop, aRet, aRetN, aIfS, aPar, aCall, aYes, startA, endsA, aI, aU, aBM, aBM0, aTx, aSl, aNoPart, aPart, List.map_cons, List.map_nil, List.length_cons, List.length_nil, List.replicate_succ, List.replicate_zero, List.cons_append, List.nil_append, List.append_nil, List.set_cons_zero, List.set_cons_succ, List.getElem?_cons_zero, List.getElem?_cons_succ, Option.some.injEq, exists_eq_left', D.int.injEq, D.str.injEq, D.bl.injEq, D.ref.injEq, D.tup.injEq, D.lst.injEq, List.cons.injEq, and_true, true_and, exists_and_left, exists_eq_left, exists_eq, and_assoc, Nat.reduceAdd, Nat.reduceSub, Nat.zero_add, exists_and_right, exists_const, if_true, if_false, Bool.not_true, Bool.not_false, Bool.false_eq_true, wipeA]
    have r3 : r.toNat ≤ 2 := by omega
    have lu5 : us.length ≤ 5 := by omega
    refine sorted_pairs gz (by omega) ?_
    have pm := sortC_perm us
    have lw : (sortC us).length ≤ 5 := by rw [pm.length_eq]; exact lu5
    have ndw : (sortC us).Nodup := pm.nodup_iff.mpr ndu
    have bw : ∀ c ∈ sortC us, 0 ≤ c.1 ∧ c.1 ≤ 30 ∧ 0 ≤ c.2 ∧ c.2 ≤ 30 := fun c hc => bu c (pm.mem_iff.mp hc)
    have subw : ∀ c ∈ cs, c ∈ sortC us := fun c hc => pm.mem_iff.mpr (sub c hc)
    generalize sortC us = ws at lw ndw bw subw
    refine ⟨_, rfl, lc_state (fun i acc M' => ∃ its : Its, acc = its.map itD ∧ its.map (·.1) = ws.take i ∧ (∀ q ∈ its, -3 ≤ q.2 ∧ q.2 ≤ 30) ∧ ADeck M' p l (n + 1 + 2 * r.toNat + i) ∧ KeepM p l M M')
      (fun _ => trivial) (by rw [List.length_map]; omega) ⟨[], rfl, rfl, (fun q h => by cases h), D2, K2⟩ ?_ ?_⟩
    · rintro i d acc M' hd' hacc ⟨its, rfl, e1, hv, D3, K3⟩ P' R hP hR
      have hd2 : (ws.map pD)[i]? = some d := hd'
      rw [List.getElem?_map, Option.map_eq_some_iff] at hd2
      obtain ⟨c, hc, rfl⟩ := hd2
      have iw : i < ws.length := (List.getElem?_eq_some_iff.mp hc).1
      simp only [aSeq, aAsg, aGName, aGTup, aGCons, aGNil, unTup, aVar, aC, aOp, aUn, aTest, aChain, aAnd, aOr, aNot, aIf, aAndT, aOrT, aNotT, aNil, aCons, aTup, aLst, aLstM, aDictM, aCB, aLc, aLc2, aDc, aFld, aFldSet, aMeth, aMethK, aMake, aMakeM, aPairs, aDisp, aRev, aRevM, aPutAt, aAugI, aFor, aWhile, aSeqW, aRng1, aRng2, aEnum, aNext, aNever, aBreak, aCont, aDrop, aRet, aRetN, aIfS, aPar, aCall, aYes, startA, endsA, aI, aU, aBM, aBM0, aTx, aSl, aNoPart, aPart, List.map_cons, List.map_nil, List.length_cons, List.length_nil, List.replicate_succ, List.replicate_zero, List.cons_append, List.nil_append, List.append_nil, List.set_cons_zero, List.set_cons_succ, List.getElem?_cons_zero, List.getElem?_cons_succ, Option.some.injEq, exists_eq_left', D.int.injEq, D.str.injEq, D.bl.injEq, D.ref.injEq, D.tup.injEq, D.lst.injEq, List.cons.injEq, and_true, true_and, exists_and_left, exists_eq_left, exists_eq, and_assoc, Nat.reduceAdd, Nat.reduceSub, Nat.zero_add, exists_and_right, exists_const, if_true, if_false, Bool.not_true, Bool.not_false, Bool.false_eq_true, wipeA]
      refine ⟨p, l, _, 34, rfl, D3, by omega, by decide, by decide, fun v M4 v0 v1 D4 K4 => ⟨_, rfl, by decide, hP _ _ ⟨its ++ [(c, v - 3)], ?_, ?_, ?_, D4, K3.trans K4⟩⟩⟩
      · rw [List.map_append]
        rfl
      · rw [List.map_append, e1, List.take_succ, hc]
        rfl
      · intro q hq
        rcases List.mem_append.mp hq with h | h
        · exact hv q h
        · rw [List.mem_singleton.mp h]
          refine ⟨?_, ?_⟩ <;> dsimp only <;> omega
    · rintro acc M' hl ⟨its, rfl, e1, hv, D3, K3⟩
      have e1' : its.map (·.1) = ws := by
        have h : its.map (·.1) = ws.take ((ws.map pD).length) := e1
        rw [List.length_map, List.take_length] at h
        exact h
      have D3' : ADeck M' p l (n + 1 + 2 * r.toNat + (ws.map pD).length) := D3
      rw [List.length_map] at D3'
      have li : its.length = ws.length := by
        have := congrArg List.length e1'
        rwa [List.length_map] at this
      rw [tuple_lst]
      exact k its M' _ ⟨by rw [e1']; exact ndw, by rw [e1']; exact subw, by omega, hv, fun q hq => bw q.1 (by rw [← e1']; exact List.mem_map.mpr ⟨q, hq, rfl⟩)⟩ (by omega) D3' K3
end
end E60
namespace E60
open PySem PySem.Spec PyProof.Rows L2 Lay LA
open M60 (Ex Te Put St T cellD)
section
variable {P : Program} {w : World} {K : PySem.W.Frag} {mg : Str → Option Value} {base : Heap}
def upC (cs : List (Int × Int)) : Prop := cs.Pairwise fun a b => a.1 < b.1 ∨ (a.1 = b.1 ∧ a.2 < b.2)
def wD (v : (Int × Int) × PyData) : D := .tup [cD v.1, ofPy v.2]
theorem put_py (ws : List ((Int × Int) × PyData)) (as : List Str) (h : PyData) : ofPy (M60.putD ws as h) = .tup [.str (Str.ofString "put"), .tup (ws.map wD), .tup (as.map D.str), ofPy h] := by
  unfold M60.putD
  simp only [ofPy, ofPyL, T, ofPyL_map, List.map_map]
  rfl
def aPutS : ASp := fun ds M Q => ∃ (p l : Addr) (n : Nat) (cs : List (Int × Int)) (gs : List Str), ds = [.ref p, .lst (cs.map cD), .tup (gs.map D.str)] ∧ ADeck M p l n ∧ n + 3000 < 10 ^ 9 ∧ cs ≠ [] ∧ cs.length ≤ 3 ∧ upC cs ∧ gs.length ≤ 3 ∧
  ∀ (e : PyData) M' n', St cs gs 0 e → n' ≤ n + 2000 → ADeck M' p l n' → KeepM p l M M' → Q (ofPy e) M'
theorem ok_law_put_drawn {f : Addr} {fd : FuncData} (F : Fun K "_law_put_drawn" "_law_put_drawn" s_law_put_drawn f fd) (z_tuple : mg "tuple" = none) (z_list : mg "list" = none)
    (D_law_draw : Has P w K mg base 1 "_law_draw" ["_law_deck_here", "_law_below"] (spA K aDraw))
    (D_law_pick : Has P w K mg base 2 "_law_pick" ["_law_deck_here", "_law_items"] (spA K aPick))
    (D_law_expression : Has P w K mg base 7 "_law_expression" ["_law_deck_here", "_law_here", "_law_deep", "_law_has_input"] (spA K (aExpr 2))) :
    FnG P w K mg base CX0 8 f fd ["_law_deck_here", "_law_here", "_law_grips"] (spA K aPutS) := by
  have nd := sc_law_put_drawn.nd
  refine okA F sc_law_put_drawn (fun ds M Q h => by obtain ⟨_, _, _, _, _, rfl, _⟩ := h; rfl) (fun cv A' out t G Z hr hq => (ass_cons (as_set (i := 3) nd rfl (Or.inr rfl) (ae_ix hr.u1 (ae_c D_law_pick (hr.mono (by decide)) hq (aa_cons (av 0) (aa_cons (av 1) aa_nil))) ae_int (fun _ _ => rfl)))
      (ass_cons (as_setLc (i := 4) (own := [("_law_cell", 7)]) rfl nd rfl rfl (sw_true rfl rfl rfl (by decide +kernel)) (ai_seq (av 1)) (blkOk_by (own := [("_law_cell", 7)]) (N := N_law_put_drawn) (sc := defScope s_law_put_drawn) (by decide +kernel)) (fun _ _ _ _ _ => (pg_name (i := 7) nd rfl (by first | exact Or.inl rfl | exact Or.inr rfl))) (go_name 7) (by decide) (fun _ _ _ _ _ => (ats_one (at_cmp (eqDK K hr.units) s_eq (ae_ix hr.u1 (av 7) ae_int (fun _ _ => rfl)) (av 3) (nomark _)))) (fun _ _ _ _ _ => (av 7)))
      (ass_cons (as_if (at_cmp (eqDK K hr.units) s_eq (ae_c D_law_draw (hr.mono (by decide)) hq (aa_cons (av 0) (aa_cons ae_int aa_nil))) ae_int (nomark _)) (ass_one (as_set (i := 4) nd rfl (Or.inl rfl) (ae_lst (aa_cons (ae_c D_law_pick (hr.mono (by decide)) hq (aa_cons (av 0) (aa_cons (av 4) aa_nil))) aa_nil)))) ass_nil)
      (ass_cons (as_set (i := 5) nd rfl (Or.inl rfl) (ae_callTy (c_tupleF K) s_tuple z_tuple (by decide +kernel) (aa_cons (ae_lc (own := [("_law_cell", 7)]) rfl nd (ai_seq (av 4)) (blkOk_by (own := [("_law_cell", 7)]) (N := N_law_put_drawn) (sc := defScope s_law_put_drawn) (by decide +kernel)) (fun _ _ _ _ _ => (pg_name (i := 7) nd rfl (by first | exact Or.inl rfl | exact Or.inr rfl))) (go_name 7) (by decide) (fun _ _ _ _ _ => ats_nil) (fun _ _ _ _ _ => (ae_tup (aa_cons (av 7) (aa_cons (ae_c D_law_expression (hr.mono (by decide)) hq (aa_cons (av 0) (aa_cons (av 1) (aa_cons ae_int (aa_cons ae_bl aa_nil))))) aa_nil))))) aa_nil)))
      (ass_cons (as_set (i := 6) nd rfl (Or.inl rfl) (ae_callTy (c_tupleF K) s_tuple z_tuple (by decide +kernel) (aa_cons (ae_lc (own := [("_law_one", 8)]) rfl nd (ai_seq (av 2)) (blkOk_by (own := [("_law_one", 8)]) (N := N_law_put_drawn) (sc := defScope s_law_put_drawn) (by decide +kernel)) (fun _ _ _ _ _ => (pg_name (i := 8) nd rfl (by first | exact Or.inl rfl | exact Or.inr rfl))) (go_name 8) (by decide) (fun _ _ _ _ _ => (ats_one (at_cmp (eqDK K hr.units) s_eq (ae_c D_law_draw (hr.mono (by decide)) hq (aa_cons (av 0) (aa_cons ae_int aa_nil))) ae_int (nomark _)))) (fun _ _ _ _ _ => (av 8))) aa_nil)))
      (ass_one (as_ret (ae_tup (aa_cons ae_str (aa_cons (av 5) (aa_cons (av 6) (aa_cons (ae_c D_law_pick (hr.mono (by decide)) hq (aa_cons (av 0) (aa_cons (ae_op (op_addA K) s_add (ae_lst (aa_cons ae_non aa_nil)) (ae_callTy (copyK K) s_list z_list (by decide +kernel) (aa_cons (av 2) aa_nil))) aa_nil))) aa_nil))))))))))))) (fun ds M Q h => ?_)
  obtain ⟨p, l, n, cs, gs, rfl, hD, hn, hne, c3, up, g3, k⟩ := h
  refine cut3 (fun Γ' M' => ∃ (us : List (Int × Int)) (n' : Nat) (blk : Int), Γ' = [some (.ref p), some (.lst (cs.map cD)), some (.tup (gs.map D.str)), some (.int blk), some (.lst (us.map cD)), none, none, none, none] ∧
    us ≠ [] ∧ us.Sublist cs ∧ (∀ c ∈ us, c.1 = blk) ∧ n' ≤ n + 3 ∧ ADeck M' p l n' ∧ KeepM p l M M') (fun u hu => ?_) ?_
  · simp only [aSeq, aAsg, aGName, aGTup, aGCons, aGNil, unTup, aVar, aC, aOp, aUn, aTest, aChain, aAnd, aOr, aNot, aIf, aAndT, aOrT, aNotT, aNil, aCons, aTup, aLst, aLstM, aDictM, aCB, aLc, aLc2, aDc, aFld, aFldSet, aMeth, aMethK, aMake, aMakeM, aPairs, aDisp, aRev, aRevM, aPutAt, aAugI, aFor, aWhile, aSeqW, aRng1, aRng2, aEnum, aNext, aNever, aBreak, aCont, aDrop, aRet, aRetN, aIfS, aPar, aCall, aYes, startA, endsA, aI, aU, aBM, aBM0, aTx, aSl, aNoPart, aPart, List.map_cons, List.map_nil, List.length_cons, List.length_nil, List.replicate_succ, List.replicate_zero, List.cons_append, List.nil_append, List.append_nil, List.set_cons_zero, List.set_cons_succ, List.getElem?_cons_zero, List.getElem?_cons_succ, Option.some.injEq, exists_eq_left', D.int.injEq, D.str.injEq, D.bl.injEq, D.ref.injEq, D.tup.injEq, D.lst.injEq, List.cons.injEq, and_true, true_and, exists_and_left, exists_eq_left, exists_eq, and_assoc, Nat.reduceAdd, Nat.reduceSub, Nat.zero_add, exists_and_right, exists_const, if_true, if_false, Bool.not_true, Bool.not_false, Bool.false_eq_true, wipeA, N_law_put_drawn]
    refine ⟨p, l, n, _, _, rfl, hD, by omega, .inl rfl, by simpa using hne, by rw [List.length_map]; omega, fun x M1 hx D1 K1 => ?_⟩
    obtain ⟨c0, hc0, rfl⟩ := List.mem_map.mp hx
    rw [show cD c0 = pD c0 from rfl, ix_t0]
    refine ⟨_, rfl, lc_go (fun d => match d with | .tup (.int a :: _) => decide (a = c0.1) | _ => false) (fun d => d) trivial (by show (cs.map cD).length ≤ _; rw [List.length_map]; omega) (fun d hd P' R hP hR => ?_) ?_⟩
    · obtain ⟨c, hc, rfl⟩ := List.mem_map.mp hd
      simp only [aSeq, aAsg, aGName, aGTup, aGCons, aGNil, unTup, aVar, aC, aOp, aUn, aTest, aChain, aAnd, aOr, aNot, aIf, aAndT, aOrT, aNotT, aNil, aCons, aTup, aLst, aLstM, aDictM, aCB, aLc, aLc2, aDc, aFld, aFldSet, aMeth, aMethK, aMake, aMakeM, aPairs, aDisp, aRev, aRevM, aPutAt, aAugI, aFor, aWhile, aSeqW, aRng1, aRng2, aEnum, aNext, aNever, aBreak, aCont, aDrop, aRet, aRetN, aIfS, aPar, aCall, aYes, startA, endsA, aI, aU, aBM, aBM0, aTx, aSl, aNoPart, aPart, List.map_cons, List.map_nil, List.length_cons, List.length_nil, List.replicate_succ, List.replicate_zero, List.cons_append, List.nil_append, List.append_nil, List.set_cons_zero, List.set_cons_succ, List.getElem?_cons_zero, List.getElem?_cons_succ, Option.some.injEq, exists_eq_left', D.int.injEq, D.str.injEq, D.bl.injEq, D.ref.injEq, D.tup.injEq, D.lst.injEq, List.cons.injEq, and_true, true_and, exists_and_left, exists_eq_left, exists_eq, and_assoc, Nat.reduceAdd, Nat.reduceSub, Nat.zero_add, exists_and_right, exists_const, if_true, if_false, Bool.not_true, Bool.not_false, Bool.false_eq_true, wipeA]
      rw [show cD c = pD c from rfl, ix_t0, aEq_f fine_int fine_int, eqD_ii]
      refine ⟨_, rfl, ?_⟩
      cases hb : decide (c.1 = c0.1)
      · rw [if_neg (by decide)]
        exact hR hb
      · rw [if_pos rfl]
        exact hP hb
    · have ef : ((cs.map cD).filter (fun d => match d with | .tup (.int a :: _) => decide (a = c0.1) | _ => false)).map (fun d => d) = (cs.filter fun c => decide (c.1 = c0.1)).map cD := by
        rw [List.map_id', List.filter_map]
        rfl
      have ef' : List.map (fun d : D => d) (List.filter (fun d => match d with | D.tup (D.int a :: tail) => decide (a = c0.1) | x => false) ({ items := List.map cD cs, stay := fun x => True } : Walk).items) = (cs.filter fun c => decide (c.1 = c0.1)).map cD := ef
      rw [ef']
      have hmem : c0 ∈ cs.filter fun c => decide (c.1 = c0.1) := List.mem_filter.mpr ⟨hc0, by simp⟩
      have hsub : (cs.filter fun c => decide (c.1 = c0.1)).Sublist cs := List.filter_sublist
      have hblk : ∀ c ∈ cs.filter (fun c => decide (c.1 = c0.1)), c.1 = c0.1 := fun c hc => of_decide_eq_true (List.mem_filter.mp hc).2
      generalize (cs.filter fun c => decide (c.1 = c0.1)) = fs at hmem hsub hblk
      have fne : fs ≠ [] := fun e => by rw [e] at hmem; cases hmem
      refine ⟨p, l, _, 2, rfl, D1, by omega, by decide, by decide, fun r M2 r0 r1 D2 K2 => ?_⟩
      dsimp only
      rw [aEq_f fine_int fine_int, eqD_ii]
      refine ⟨_, rfl, ?_⟩
      by_cases h0 : r = 0
      · rw [if_pos (by simp [h0])]
        refine ⟨p, l, _, _, _, rfl, D2, by omega, .inl rfl, by simpa using fne, by rw [List.length_map]; have := hsub.length_le; omega, fun x M3 hx' D3 K3 => ⟨by decide, ?_⟩⟩
        obtain ⟨c1, hc1, rfl⟩ := List.mem_map.mp hx'
        exact hu _ _ ⟨[c1], _, c0.1, rfl, by simp, (List.singleton_sublist.mpr hc1).trans hsub, fun c hc => by rw [List.mem_singleton.mp hc]; exact hblk c1 hc1, by omega, D3, (K1.trans K2).trans K3⟩
      · rw [if_neg (by simp [h0])]
        exact hu _ _ ⟨fs, _, c0.1, rfl, fne, hsub, hblk, by omega, D2, K1.trans K2⟩
  · rintro Γ' M1 ⟨us, n1, blk, rfl, une, usub, ublk, hn1, D1, K1⟩
    simp only [aSeq, aAsg, aGName, aGTup, aGCons, aGNil, unTup, aVar, aC, aOp, aUn, aTest, aChain, aAnd, aOr, aNot, aIf, aAndT, aOrT, aNotT, aNil, aCons, aTup, aLst, aLstM, aDictM, aCB, aLc, aLc2, aDc, aFld, aFldSet, aMeth, aMethK, aMake, aMakeM, aPairs, aDisp, aRev, aRevM, aPutAt, aAugI, aFor, aWhile, aSeqW, aRng1, aRng2, aEnum, aNext, aNever, aBreak, aCont, aDrop, aRet, aRetN, aIfS, aPar, aCall, aYes, startA, endsA, aI, aU, aBM, aBM0, aTx, aSl, aNoPart, aPart, List.map_cons, List.map_nil, List.length_cons, List.length_nil, List.replicate_succ, List.replicate_zero, List.cons_append, List.nil_append, List.append_nil, List.set_cons_zero, List.set_cons_succ, List.getElem?_cons_zero, List.getElem?_cons_succ, Option.some.injEq, exists_eq_left', D.int.injEq, D.str.injEq, D.bl.injEq, D.ref.injEq, D.tup.injEq, D.lst.injEq, List.cons.injEq, and_true, true_and, exists_and_left, exists_eq_left, exists_eq, and_assoc, Nat.reduceAdd, Nat.reduceSub, Nat.zero_add, exists_and_right, exists_const, if_true, if_false, Bool.not_true, Bool.not_false, Bool.false_eq_true, wipeA]
    have us3 : us.length ≤ 3 := by have := usub.length_le; omega
    refine ⟨_, rfl, lc_state (fun i acc M' => ∃ (ws : List ((Int × Int) × PyData)) (n2 : Nat), acc = ws.map wD ∧ ws.map (·.1) = us.take i ∧ (∀ v ∈ ws, Ex cs true 3 v.2) ∧ n2 ≤ n + 3 + 500 * i ∧ ADeck M' p l n2 ∧ KeepM p l M M')
      (fun _ => trivial) (by show (us.map cD).length ≤ _; rw [List.length_map]; omega) ⟨[], n1, rfl, rfl, (fun v h => by cases h), by omega, D1, K1⟩ ?_ ?_⟩
    · rintro i d acc M' hd' hacc ⟨ws, n2, rfl, e1, hv, hn2, D2, K2⟩ P' R hP hR
      have hd2 : (us.map cD)[i]? = some d := hd'
      rw [List.getElem?_map, Option.map_eq_some_iff] at hd2
      obtain ⟨c, hc, rfl⟩ := hd2
      have iw : i < us.length := (List.getElem?_eq_some_iff.mp hc).1
      simp only [aSeq, aAsg, aGName, aGTup, aGCons, aGNil, unTup, aVar, aC, aOp, aUn, aTest, aChain, aAnd, aOr, aNot, aIf, aAndT, aOrT, aNotT, aNil, aCons, aTup, aLst, aLstM, aDictM, aCB, aLc, aLc2, aDc, aFld, aFldSet, aMeth, aMethK, aMake, aMakeM, aPairs, aDisp, aRev, aRevM, aPutAt, aAugI, aFor, aWhile, aSeqW, aRng1, aRng2, aEnum, aNext, aNever, aBreak, aCont, aDrop, aRet, aRetN, aIfS, aPar, aCall, aYes, startA, endsA, aI, aU, aBM, aBM0, aTx, aSl, aNoPart, aPart, List.map_cons, List.map_nil, List.length_cons, List.length_nil, List.replicate_succ, List.replicate_zero, List.cons_append, List.nil_append, List.append_nil, List.set_cons_zero, List.set_cons_succ, List.getElem?_cons_zero, List.getElem?_cons_succ, Option.some.injEq, exists_eq_left', D.int.injEq, D.str.injEq, D.bl.injEq, D.ref.injEq, D.tup.injEq, D.lst.injEq, List.cons.injEq, and_true, true_and, exists_and_left, exists_eq_left, exists_eq, and_assoc, Nat.reduceAdd, Nat.reduceSub, Nat.zero_add, exists_and_right, exists_const, if_true, if_false, Bool.not_true, Bool.not_false, Bool.false_eq_true, wipeA]
      refine ⟨p, l, n2, cs, true, rfl, D2, by omega, hne, by omega, fun e M3 n3 he hb3 D3 K3 => ⟨by decide, hP _ _ ⟨ws ++ [(c, e)], n3, ?_, ?_, ?_, by omega, D3, K2.trans K3⟩⟩⟩
      · rw [List.map_append]
        rfl
      · rw [List.map_append, e1, List.take_succ, hc]
        rfl
      · intro v hv'
        rcases List.mem_append.mp hv' with h | h
        · exact hv v h
        · rw [List.mem_singleton.mp h]
          exact he
    · rintro acc M2 hl ⟨ws, n2, rfl, e1, hv, hn2, D2, K2⟩
      have e1' : ws.map (·.1) = us := by
        have h : ws.map (·.1) = us.take ((us.map cD).length) := e1
        rw [List.length_map, List.take_length] at h
        exact h
      have hn2' : n2 ≤ n + 3 + 500 * (us.map cD).length := hn2
      rw [List.length_map] at hn2'
      rw [tuple_lst]
      refine ⟨_, rfl, lc_state (fun i acc M' => ∃ (as : List Str) (n3 : Nat), acc = as.map D.str ∧ as.Sublist (gs.take i) ∧ n3 = n2 + i ∧ ADeck M' p l n3 ∧ KeepM p l M M')
        (fun _ => trivial) (by show (gs.map D.str).length ≤ _; rw [List.length_map]; omega) ⟨[], n2, rfl, List.Sublist.refl _, rfl, D2, K2⟩ ?_ ?_⟩
      · rintro i d acc M' hd' hacc ⟨as, n3, rfl, sub, rfl, D3, K3⟩ P' R hP hR
        have hd2 : (gs.map D.str)[i]? = some d := hd'
        rw [List.getElem?_map, Option.map_eq_some_iff] at hd2
        obtain ⟨g, hg, rfl⟩ := hd2
        have ig : i < gs.length := (List.getElem?_eq_some_iff.mp hg).1
        have et : gs.take (i + 1) = gs.take i ++ [g] := by rw [List.take_succ, hg]; rfl
        simp only [aSeq, aAsg, aGName, aGTup, aGCons, aGNil, unTup, aVar, aC, aOp, aUn, aTest, aChain, aAnd, aOr, aNot, aIf, aAndT, aOrT, aNotT, aNil, aCons, aTup, aLst, aLstM, aDictM, aCB, aLc, aLc2, aDc, aFld, aFldSet, aMeth, aMethK, aMake, aMakeM, aPairs, aDisp, aRev, aRevM, aPutAt, aAugI, aFor, aWhile, aSeqW, aRng1, aRng2, aEnum, aNext, aNever, aBreak, aCont, aDrop, aRet, aRetN, aIfS, aPar, aCall, aYes, startA, endsA, aI, aU, aBM, aBM0, aTx, aSl, aNoPart, aPart, List.map_cons, List.map_nil, List.length_cons, List.length_nil, List.replicate_succ, List.replicate_zero, List.cons_append, List.nil_append, List.append_nil, List.set_cons_zero, List.set_cons_succ, List.getElem?_cons_zero, List.getElem?_cons_succ, Option.some.injEq, exists_eq_left', D.int.injEq, D.str.injEq, D.bl.injEq, D.ref.injEq, D.tup.injEq, D.lst.injEq, List.cons.injEq, and_true, true_and, exists_and_left, exists_eq_left, exists_eq, and_assoc, Nat.reduceAdd, Nat.reduceSub, Nat.zero_add, exists_and_right, exists_const, if_true, if_false, Bool.not_true, Bool.not_false, Bool.false_eq_true, wipeA]
        refine ⟨p, l, _, 2, rfl, D3, by omega, by decide, by decide, fun r M4 r0 r1 D4 K4 => ?_⟩
        dsimp only
        rw [aEq_f fine_int fine_int, eqD_ii]
        refine ⟨_, rfl, ?_⟩
        by_cases h0 : r = 0
        · rw [if_pos (by simp [h0])]
          refine hP _ _ ⟨as ++ [g], _, by rw [List.map_append]; rfl, ?_, rfl, D4, K3.trans K4⟩
          rw [et]
          exact List.Sublist.append sub (List.Sublist.refl _)
        · rw [if_neg (by simp [h0])]
          refine hR _ ⟨as, _, rfl, ?_, rfl, D4, K3.trans K4⟩
          rw [et]
          exact sub.trans (List.sublist_append_left ..)
      · rintro acc M3 hl ⟨as, n3, rfl, sub, rfl, D3, K3⟩
        have sub' : as.Sublist gs := sub.trans (List.take_sublist ..)
        have D3' : ADeck M3 p l (n2 + (gs.map D.str).length) := D3
        rw [List.length_map] at D3'
        rw [tuple_lst]
        refine ⟨by decide, _, gs.map D.str, rfl, rfl, ?_⟩
        show _ + _ ≤ 1000000 ∧ _
        refine ⟨by simp; omega, p, l, _, _, _, rfl, D3', by omega, .inl rfl, by simp, by simp; omega, fun x M4 hx D4 K4 => ⟨by decide, ?_⟩⟩
        have fin : ∀ h : PyData, (h = .none ∨ ∃ g ∈ gs, h = .str g) → Q (.tup [.str (Str.ofString "put"), .tup (ws.map wD), .tup (as.map D.str), ofPy h]) M4 := fun h hh => by
          have := k (M60.putD ws as h) M4 _ (.put 0 ⟨?_, ?_, ?_, ?_, ?_, sub', hh⟩) (by omega) D4 (K3.trans K4)
          · rw [put_py] at this
            exact this
          · intro e
            rw [e] at e1'
            exact une e1'.symm
          · have := congrArg List.length e1'
            rw [List.length_map] at this
            omega
          · rw [e1']
            exact List.Pairwise.sublist usub up
          · exact ⟨blk, fun v hv' => ublk _ (by rw [← e1']; exact List.mem_map.mpr ⟨v, hv', rfl⟩)⟩
          · exact fun v hv' => ⟨usub.subset (by rw [← e1']; exact List.mem_map.mpr ⟨v, hv', rfl⟩), hv v hv'⟩
        rcases List.mem_append.mp hx with h | h
        · rw [List.mem_singleton.mp h]
          exact fin .none (.inl rfl)
        · obtain ⟨g, hg, rfl⟩ := List.mem_map.mp h
          exact fin (.str g) (.inr ⟨g, hg, rfl⟩)
end
end E60
namespace E60
open PySem PySem.Spec PyProof.Rows L2 Lay LA
open M60 (Ex Te St T)
section
variable {P : Program} {w : World} {K : PySem.W.Frag} {mg : Str → Option Value} {base : Heap}
def aBodyS (d : Nat) : ASp := fun ds M Q => ∃ (p l : Addr) (n many : Nat) (cs : List (Int × Int)) (gs : List Str), ds = [.ref p, .lst (cs.map cD), .tup (gs.map D.str), .int many, .int d] ∧ many ≤ 3 ∧ ADeck M p l n ∧ n + 4000 * 3 ^ d * many + 4000 < 10 ^ 9 ∧ cs ≠ [] ∧ cs.length ≤ 3 ∧ upC cs ∧ gs.length ≤ 3 ∧ (∀ g ∈ gs, M20.letters g) ∧
  ∀ (es : List PyData) M' n', es.length = many → (∀ e ∈ es, St cs gs d e) → n' ≤ n + 4000 * 3 ^ d * many → ADeck M' p l n' → KeepM p l M M' → Q (.tup (es.map ofPy)) M'
def BodyInv (p l o : Addr) (n many d : Nat) (cs : List (Int × Int)) (gs : List Str) (M : Mem) (i : Nat) (Γ : Sl) (G : Mem) : Prop := ∃ (o6 o7 o8 o9 : Option D) (es : List PyData) (n' : Nat),
  Γ = [some (.ref p), some (.lst (cs.map cD)), some (.tup (gs.map D.str)), some (.int many), some (.int d), some (.ref o), o6, o7, o8, o9] ∧ G o = some (.lst (es.map ofPy)) ∧ es.length = i ∧ (∀ e ∈ es, St cs gs d e) ∧ n' ≤ n + 4000 * 3 ^ d * i ∧ ADeck G p l n' ∧ KeepM p l M G
theorem grips_fine {gs : List Str} (h : ∀ g ∈ gs, M20.letters g) (hl : gs.length ≤ 3) : Fine (.tup (gs.map D.str)) := by
  refine ⟨strs_plain gs, ?_, ?_, ?_⟩
  · show (decide ((gs.map D.str).length ≤ 1000000) && shortL (gs.map D.str)) = true
    rw [List.length_map, decide_eq_true (by omega), Bool.true_and]
    clear hl
    induction gs with
    | nil => rfl
    | cons g r ih =>
      rw [List.map_cons, shortL, ih fun x hx => h x (List.mem_cons_of_mem _ hx), (letters_fine (h g (List.mem_cons_self ..))).short]
      rfl
  · show PyData.canLay0 (.tuple (pyL (gs.map D.str))) = true
    rw [PyData.canLay0]
    clear hl
    induction gs with
    | nil => rfl
    | cons g r ih =>
      rw [List.map_cons, pyL, PyData.canLayAll0, ih fun x hx => h x (List.mem_cons_of_mem _ hx), (letters_fine (h g (List.mem_cons_self ..))).lay]
      rfl
  · show PyData.depth (.tuple (pyL (gs.map D.str))) ≤ 60
    have : PyData.depthAll (pyL (gs.map D.str)) = 0 := by
      clear hl h
      induction gs with
      | nil => rfl
      | cons g r ih => rw [List.map_cons, pyL, PyData.depthAll, ih]; simp [py, PyData.depth]
    simp [PyData.depth, this]
theorem ok_law_body (d : Nat) {f : Addr} {fd : FuncData} (F : Fun K "_law_body" "_law_body" s_law_body f fd) (z_tuple : mg "tuple" = none) (z_range : mg "range" = none)
    (D_law_draw : Has P w K mg base 1 "_law_draw" ["_law_deck_here", "_law_below"] (spA K aDraw))
    (D_law_pick : Has P w K mg base 2 "_law_pick" ["_law_deck_here", "_law_items"] (spA K aPick))
    (D_law_test : Has P w K mg base 8 "_law_test" ["_law_deck_here", "_law_here", "_law_deep", "_law_has_input"] (spA K (aTestS 2)))
    (D_law_put_drawn : Has P w K mg base 8 "_law_put_drawn" ["_law_deck_here", "_law_here", "_law_grips"] (spA K aPutS))
    (D_law_body : Has P w K mg base (d + 8) "_law_body" ["_law_deck_here", "_law_here", "_law_grips", "_law_many", "_law_deep"] (spA K (aBelow aBodyS d))) :
    FnG P w K mg base CX0 (d + 9) f fd ["_law_deck_here", "_law_here", "_law_grips", "_law_many", "_law_deep"] (spA K (aBodyS d)) := by
  have nd := sc_law_body.nd
  refine okA (k := d + 8) F sc_law_body (fun ds M Q h => by obtain ⟨_, _, _, _, _, _, rfl, _⟩ := h; rfl) (fun cv A' out t G Z hr hq => (ass_cons (as_set (i := 5) nd rfl (Or.inl rfl) (ae_lstM aa_nil))
      (ass_cons (as_for PassesOwn.never rfl (ai_rng1 z_range (aa_cons (av 3) aa_nil)) (pg_name (i := 6) nd rfl (Or.inl rfl)) (go_name 6)
        (ass_cons (as_set (i := 7) nd rfl (Or.inl rfl) (ae_c D_law_draw (hr.mono (by omega)) hq (aa_cons (av 0) (aa_cons ae_int aa_nil))))
        (ass_one (as_if (PW.pt (aw_and (at_cmp (eqDK K hr.units) s_eq (av 7) ae_int (nomark _)) (aw_and1 (at_cmp op_gtA s_B (av 4) ae_int (nomark _))))) (ass_cons (as_setLc (i := 8) (own := [("_law_k", 9)]) rfl nd rfl rfl (sw_true rfl rfl rfl (by decide +kernel)) (ai_rng1 z_range (aa_cons ae_int aa_nil)) (blkOk_by (own := [("_law_k", 9)]) (N := N_law_body) (sc := defScope s_law_body) (by decide +kernel)) (fun _ _ _ _ _ => (pg_name (i := 9) nd rfl (by first | exact Or.inl rfl | exact Or.inr rfl))) (go_name 9) (by decide) (fun _ _ _ _ _ => ats_nil) (fun _ _ _ _ _ => (ae_c D_law_body (hr.mono (by omega)) hq (aa_cons (av 0) (aa_cons (av 1) (aa_cons (av 2) (aa_cons (ae_c D_law_draw (hr.mono (by omega)) hq (aa_cons (av 0) (aa_cons ae_int aa_nil))) (aa_cons (ae_op op_sub s_I0 (av 4) ae_int) aa_nil))))))))
          (ass_one (as_expr (ae_bm K s_append (pe_bm PySem.F.plainAttrs_list PySem.F.slot_list_append PySem.F.type_list_append mt_append (av 5) (aa_cons (ae_tup (aa_cons ae_str (aa_cons (ae_c D_law_test (hr.mono (by omega)) hq (aa_cons (av 0) (aa_cons (av 1) (aa_cons ae_int (aa_cons ae_bl aa_nil))))) (aa_cons (ae_ix hr.u1 (av 8) ae_int (fun _ _ => rfl)) (aa_cons (ae_ix hr.u1 (av 8) ae_int (fun _ _ => rfl)) aa_nil))))) aa_nil)))))) (ass_one (as_if (PW.pt (aw_and (at_cmp (eqDK K hr.units) s_eq (av 7) ae_int (nomark _)) (aw_and1 (at_cmp (neDK K hr.units) s_ne (av 2) (ae_tup aa_nil) (nomark _))))) (ass_one (as_expr (ae_bm K s_append (pe_bm PySem.F.plainAttrs_list PySem.F.slot_list_append PySem.F.type_list_append mt_append (av 5) (aa_cons (ae_tup (aa_cons ae_str (aa_cons (ae_c D_law_pick (hr.mono (by omega)) hq (aa_cons (av 0) (aa_cons (av 2) aa_nil))) aa_nil))) aa_nil))))) (ass_one (as_expr (ae_bm K s_append (pe_bm PySem.F.plainAttrs_list PySem.F.slot_list_append PySem.F.type_list_append mt_append (av 5) (aa_cons (ae_c D_law_put_drawn (hr.mono (by omega)) hq (aa_cons (av 0) (aa_cons (av 1) (aa_cons (av 2) aa_nil)))) aa_nil)))))))))))
      (ass_one (as_ret (ae_callTy (c_tupleF K) s_tuple z_tuple (by decide +kernel) (aa_cons (av 5) aa_nil))))))) (fun ds M Q h => ?_)
  obtain ⟨p, l, n, many, cs, gs, rfl, m3, hD, hn, hne, c3, up, g3, gl, k⟩ := h
  have d1 : 1 ≤ 3 ^ d := Nat.one_le_pow _ _ (by decide)
  simp only [aSeq, aAsg, aGName, aGTup, aGCons, aGNil, unTup, aVar, aC, aOp, aUn, aTest, aChain, aAnd, aOr, aNot, aIf, aAndT, aOrT, aNotT, aNil, aCons, aTup, aLst, aLstM, aDictM, aCB, aLc, aLc2, aDc, aFld, aFldSet, aMeth, aMethK, aMake, aMakeM, aPairs, aDisp, aRev, aRevM, aPutAt, aAugI, aFor, aWhile, aSeqW, aRng1, aRng2, aEnum, aNext, aNever, aBreak, aCont, aDrop, aRet, aRetN, aIfS, aPar, aCall, aYes, startA, endsA, aI, aU, aBM, aBM0, aTx, aSl, aNoPart, aPart, List.map_cons, List.map_nil, List.length_cons, List.length_nil, List.replicate_succ, List.replicate_zero, List.cons_append, List.nil_append, List.append_nil, List.set_cons_zero, List.set_cons_succ, List.getElem?_cons_zero, List.getElem?_cons_succ, Option.some.injEq, exists_eq_left', D.int.injEq, D.str.injEq, D.bl.injEq, D.ref.injEq, D.tup.injEq, D.lst.injEq, List.cons.injEq, and_true, true_and, exists_and_left, exists_eq_left, exists_eq, and_assoc, Nat.reduceAdd, Nat.reduceSub, Nat.zero_add, exists_and_right, exists_const, if_true, if_false, Bool.not_true, Bool.not_false, Bool.false_eq_true, wipeA, N_law_body]
  refine ⟨by decide, fun o ho => ⟨by omega, by omega, ?_⟩⟩
  obtain ⟨D0, op, ol⟩ := hD.new (o := .lst []) ho
  refine ⟨BodyInv p l o n many d cs gs M, ⟨none, none, none, none, [], n, rfl, put_same, rfl, (fun e h => by cases h), by omega, D0, KeepM.refl.new ho⟩, fun _ _ _ _ _ => trivial, ?_, ?_⟩
  · rintro i x Γ G hd ⟨o6, o7, o8, o9, es, n', rfl, go, le, hes, hn', D1, K1⟩
    have im : i < many := by
      have := (List.getElem?_eq_some_iff.mp hd).1
      simpa [intsD] using this
    have hbi : 4000 * 3 ^ d * (i + 1) ≤ 4000 * 3 ^ d * many := Nat.mul_le_mul_left _ (by omega)
    have hbs : 4000 * 3 ^ d * (i + 1) = 4000 * 3 ^ d * i + 4000 * 3 ^ d := Nat.mul_succ _ _
    have add : ∀ (e : PyData) (G2 : Mem) (n2 : Nat), St cs gs d e → n2 ≤ n' + 4000 * 3 ^ d → ADeck G2 p l n2 → KeepM p l G G2 → ∀ (N : D → Mem → Prop), (∀ G3, G3 o = some (.lst ((es ++ [e]).map ofPy)) → ADeck G3 p l n2 → KeepM p l M G3 → N .non G3) → aAppend (.ref o) [ofPy e] G2 N := by
      intro e G2 n2 he hb D2 K2 N hN
      have go2 := K2.at go op ol
      refine append_m go2 (by rw [List.length_map]; omega) (hN _ ?_ (D2.upd op ol) ((K1.trans K2).new ho))
      rw [put_same, List.map_append]
      rfl
    have mem : ∀ (e : PyData), St cs gs d e → ∀ z ∈ es ++ [e], St cs gs d z := fun e he z hz => by
      rcases List.mem_append.mp hz with h | h
      · exact hes z h
      · rw [List.mem_singleton.mp h]; exact he
    simp only [aSeq, aAsg, aGName, aGTup, aGCons, aGNil, unTup, aVar, aC, aOp, aUn, aTest, aChain, aAnd, aOr, aNot, aIf, aAndT, aOrT, aNotT, aNil, aCons, aTup, aLst, aLstM, aDictM, aCB, aLc, aLc2, aDc, aFld, aFldSet, aMeth, aMethK, aMake, aMakeM, aPairs, aDisp, aRev, aRevM, aPutAt, aAugI, aFor, aWhile, aSeqW, aRng1, aRng2, aEnum, aNext, aNever, aBreak, aCont, aDrop, aRet, aRetN, aIfS, aPar, aCall, aYes, startA, endsA, aI, aU, aBM, aBM0, aTx, aSl, aNoPart, aPart, List.map_cons, List.map_nil, List.length_cons, List.length_nil, List.replicate_succ, List.replicate_zero, List.cons_append, List.nil_append, List.append_nil, List.set_cons_zero, List.set_cons_succ, List.getElem?_cons_zero, List.getElem?_cons_succ, Option.some.injEq, exists_eq_left', D.int.injEq, D.str.injEq, D.bl.injEq, D.ref.injEq, D.tup.injEq, D.lst.injEq, List.cons.injEq, and_true, true_and, exists_and_left, exists_eq_left, exists_eq, and_assoc, Nat.reduceAdd, Nat.reduceSub, Nat.zero_add, exists_and_right, exists_const, if_true, if_false, Bool.not_true, Bool.not_false, Bool.false_eq_true, wipeA]
    refine ⟨p, l, n', 7, rfl, D1, by omega, by decide, by decide, fun way G2 w0 w7 D2 K2 => ?_⟩
    have put : ∀ a b c e : Option D, isTy "list" G2 (.ref o) ∧ aPutS [.ref p, .lst (cs.map cD), .tup (gs.map D.str)] G2 fun x M1 => aAppend (.ref o) [x] M1 fun _ M1 =>
        BodyInv p l o n many d cs gs M (i + 1) [some (.ref p), some (.lst (cs.map cD)), some (.tup (gs.map D.str)), some (.int many), some (.int d), some (.ref o), a, b, c, e] M1 := by
      intro a b c e
      refine ⟨ty_m (K2.at go op ol), p, l, _, cs, gs, rfl, D2, by omega, hne, c3, up, g3, fun z G3 n3 hz hb D3 K3 => ?_⟩
      have hz' : St cs gs d z := hz.mono (Nat.zero_le _)
      refine add z G3 n3 hz' (by omega) D3 (K2.trans K3) _ fun G4 g4 D4 K4 => ?_
      exact ⟨_, _, _, _, es ++ [z], n3, rfl, g4, by simp [le], mem z hz', by omega, D4, K4⟩
    dsimp only
    rw [aEq_f fine_int fine_int, eqD_ii]
    refine ⟨_, rfl, ?_⟩
    have after : ∀ a b c e : Option D, (aEq false (.int way) (.int 1) G2 fun x M1 => ∃ b', x = .bl b' ∧ if b' = true then (0 ≤ 1000000 ∧ aEq true (.tup (gs.map D.str)) (.tup []) M1 fun x M1 => ∃ b', x = .bl b' ∧ if b' = true then (isTy "list" M1 (.ref o) ∧ aPick [.ref p, .tup (gs.map D.str)] M1 fun x M1 => 2 ≤ 1000000 ∧ aAppend (.ref o) [.tup [.str (Str.ofString "release"), x]] M1 fun _ M1 =>
        BodyInv p l o n many d cs gs M (i + 1) [some (.ref p), some (.lst (cs.map cD)), some (.tup (gs.map D.str)), some (.int many), some (.int d), some (.ref o), a, b, c, e] M1) else (isTy "list" M1 (.ref o) ∧ aPutS [.ref p, .lst (cs.map cD), .tup (gs.map D.str)] M1 fun x M1 => aAppend (.ref o) [x] M1 fun _ M1 =>
        BodyInv p l o n many d cs gs M (i + 1) [some (.ref p), some (.lst (cs.map cD)), some (.tup (gs.map D.str)), some (.int many), some (.int d), some (.ref o), a, b, c, e] M1)) else (isTy "list" M1 (.ref o) ∧ aPutS [.ref p, .lst (cs.map cD), .tup (gs.map D.str)] M1 fun x M1 => aAppend (.ref o) [x] M1 fun _ M1 =>
        BodyInv p l o n many d cs gs M (i + 1) [some (.ref p), some (.lst (cs.map cD)), some (.tup (gs.map D.str)), some (.int many), some (.int d), some (.ref o), a, b, c, e] M1)) := by
      intro a b c e
      rw [aEq_f fine_int fine_int, eqD_ii]
      refine ⟨_, rfl, ?_⟩
      by_cases h1 : way = 1
      · rw [if_pos (by simp [h1])]
        refine ⟨by decide, ?_⟩
        have nil : Fine (.tup []) := grips_fine (gs := []) (fun g h => by cases h) (by decide)
        rw [aNe_f (grips_fine gl g3) nil]
        refine ⟨_, rfl, ?_⟩
        by_cases hg : gs = []
        · have : (!eqD (.tup (gs.map D.str)) (.tup [])) = false := by rw [hg]; rfl
          rw [this, if_neg (by decide)]
          exact put a b c e
        · have : (!eqD (.tup (gs.map D.str)) (.tup [])) = true := by
            cases gs with
            | nil => exact absurd rfl hg
            | cons _ _ => rfl
          rw [this, if_pos rfl]
          refine ⟨ty_m (K2.at go op ol), p, l, _, _, _, rfl, D2, by omega, .inr (.inl rfl), by simpa using hg, by rw [List.length_map]; omega, fun z G3 hz D3 K3 => ⟨by decide, ?_⟩⟩
          obtain ⟨g, hg', rfl⟩ := List.mem_map.mp hz
          have hst : St cs gs d (.tuple [T "release", .str g]) := .rel d hg'
          refine add (.tuple [T "release", .str g]) G3 _ hst (by omega) D3 (K2.trans K3) _ fun G4 g4 D4 K4 => ?_
          exact ⟨_, _, _, _, es ++ [.tuple [T "release", .str g]], _, rfl, g4, by simp [le], mem _ hst, by omega, D4, K4⟩
      · rw [if_neg (by simp [h1])]
        exact put a b c e
    by_cases h0 : way = 0
    · rw [if_pos (by simp [h0])]
      refine ⟨_, rfl, ?_⟩
      by_cases hd0 : d = 0
      · rw [if_neg (by simp [hd0])]
        exact after _ _ _ _
      · rw [if_pos (by simp; omega)]
        obtain ⟨m, rfl⟩ : ∃ m, d = m + 1 := ⟨d - 1, by omega⟩
        have e1 : ((m + 1 : Nat) : Int) - 1 = (m : Int) := by omega
        have p3 : 4000 * 3 ^ (m + 1) = 12000 * 3 ^ m := by rw [Nat.pow_succ]; omega
        have p1 : 1 ≤ 3 ^ m := Nat.one_le_pow _ _ (by decide)
        refine ⟨by decide, by decide, lc_state (fun i' acc M' => ∃ (bs : List (List PyData)) (n2 : Nat), acc = bs.map (fun b => .tup (b.map ofPy)) ∧ bs.length = i' ∧ (∀ b ∈ bs, b.length ≤ 1 ∧ ∀ s ∈ b, St cs gs m s) ∧ n2 ≤ n' + 1 + (4000 * 3 ^ m + 1) * i' ∧ ADeck M' p l n2 ∧ KeepM p l G M')
          (fun _ => trivial) (by decide) ⟨[], n' + 1, rfl, rfl, (fun b h => by cases h), by omega, D2, K2⟩ ?_ ?_⟩
        · rintro i' d0 acc M' hd' hacc ⟨bs, n2, rfl, lb, hbs', hn2, D3, K3⟩ P' R hP hR
          have i2 : i' < 2 := by
            have := (List.getElem?_eq_some_iff.mp hd').1
            simpa [intsD] using this
          have hb2 : (4000 * 3 ^ m + 1) * i' ≤ (4000 * 3 ^ m + 1) * 1 := Nat.mul_le_mul_left _ (by omega)
          have hb3 : (4000 * 3 ^ m + 1) * (i' + 1) = (4000 * 3 ^ m + 1) * i' + (4000 * 3 ^ m + 1) := Nat.mul_succ _ _
          simp only [aSeq, aAsg, aGName, aGTup, aGCons, aGNil, unTup, aVar, aC, aOp, aUn, aTest, aChain, aAnd, aOr, aNot, aIf, aAndT, aOrT, aNotT, aNil, aCons, aTup, aLst, aLstM, aDictM, aCB, aLc, aLc2, aDc, aFld, aFldSet, aMeth, aMethK, aMake, aMakeM, aPairs, aDisp, aRev, aRevM, aPutAt, aAugI, aFor, aWhile, aSeqW, aRng1, aRng2, aEnum, aNext, aNever, aBreak, aCont, aDrop, aRet, aRetN, aIfS, aPar, aCall, aYes, startA, endsA, aI, aU, aBM, aBM0, aTx, aSl, aNoPart, aPart, List.map_cons, List.map_nil, List.length_cons, List.length_nil, List.replicate_succ, List.replicate_zero, List.cons_append, List.nil_append, List.append_nil, List.set_cons_zero, List.set_cons_succ, List.getElem?_cons_zero, List.getElem?_cons_succ, Option.some.injEq, exists_eq_left', D.int.injEq, D.str.injEq, D.bl.injEq, D.ref.injEq, D.tup.injEq, D.lst.injEq, List.cons.injEq, and_true, true_and, exists_and_left, exists_eq_left, exists_eq, and_assoc, Nat.reduceAdd, Nat.reduceSub, Nat.zero_add, exists_and_right, exists_const, if_true, if_false, Bool.not_true, Bool.not_false, Bool.false_eq_true, wipeA]
          refine ⟨p, l, n2, 2, rfl, D3, by omega, by decide, by decide, fun r M4 r0 r1 D4 K4 => ?_⟩
          dsimp only
          rw [e1]
          obtain ⟨j, rfl⟩ : ∃ j : Nat, r = j := ⟨r.toNat, by omega⟩
          have hj : 4000 * 3 ^ m * j ≤ 4000 * 3 ^ m * 1 := Nat.mul_le_mul_left _ (by omega)
          refine ⟨p, l, _, j, cs, gs, rfl, by omega, D4, by omega, hne, c3, up, g3, gl, fun b M5 n5 lb5 hb5 hn5 D5 K5 => hP _ _ ⟨bs ++ [b], n5, ?_, by simp [lb], fun z hz => ?_, by omega, D5, K3.trans (K4.trans K5)⟩⟩
          · rw [List.map_append]
            rfl
          · rcases List.mem_append.mp hz with h | h
            · exact hbs' z h
            · rw [List.mem_singleton.mp h]
              exact ⟨by omega, hb5⟩
        · rintro acc M' hl ⟨bs, n2, rfl, lb, hbs', hn2, D3, K3⟩
          have lb2 : bs.length = 2 := lb
          obtain ⟨b1, b2, rfl⟩ : ∃ a b, bs = [a, b] := by
            match bs, lb2 with
            | [a, b], _ => exact ⟨a, b, rfl⟩
          have hn2' : n2 ≤ n' + 1 + (4000 * 3 ^ m + 1) * 2 := hn2
          have hb1 := hbs' b1 (by simp)
          have hb2 := hbs' b2 (by simp)
          refine ⟨ty_m (K3.at go op ol), p, l, n2, cs, true, rfl, D3, by omega, hne, by omega, fun t M4 n4 ht hb4 D4 K4 => ?_⟩
          have i0 : ∀ {M : Mem} {Q : D → Mem → Prop}, aIx (.lst ([b1, b2].map fun b => D.tup (b.map ofPy))) (.int 0) M Q = Q (.tup (b1.map ofPy)) M := ix_l0
          have i1 : ∀ {M : Mem} {Q : D → Mem → Prop}, aIx (.lst ([b1, b2].map fun b => D.tup (b.map ofPy))) (.int 1) M Q = Q (.tup (b2.map ofPy)) M := ix_l1
          dsimp only
          rw [i0, i1]
          have hst : St cs gs (m + 1) (.tuple [T "if", t, .tuple b1, .tuple b2]) := .ifs ht hb1.1 hb2.1 hb1.2 hb2.2
          have epy : ofPy (.tuple [T "if", t, .tuple b1, .tuple b2]) = .tup [.str (Str.ofString "if"), ofPy t, .tup (b1.map ofPy), .tup (b2.map ofPy)] := by
            simp only [ofPy, ofPyL, T, ofPyL_map]
          refine ⟨by decide, ?_⟩
          rw [← epy]
          refine add _ M4 n4 hst (by omega) D4 (K3.trans K4) _ fun G4 g4 D5 K5 => ?_
          exact ⟨_, _, _, _, es ++ [_], n4, rfl, g4, by simp [le], mem _ hst, by omega, D5, K5⟩
    · rw [if_neg (by simp [h0])]
      exact after _ _ _ _
  · rintro Γ G ⟨o6, o7, o8, o9, es, n', rfl, go, le, hes, hn', D1, K1⟩
    simp only [aSeq, aAsg, aGName, aGTup, aGCons, aGNil, unTup, aVar, aC, aOp, aUn, aTest, aChain, aAnd, aOr, aNot, aIf, aAndT, aOrT, aNotT, aNil, aCons, aTup, aLst, aLstM, aDictM, aCB, aLc, aLc2, aDc, aFld, aFldSet, aMeth, aMethK, aMake, aMakeM, aPairs, aDisp, aRev, aRevM, aPutAt, aAugI, aFor, aWhile, aSeqW, aRng1, aRng2, aEnum, aNext, aNever, aBreak, aCont, aDrop, aRet, aRetN, aIfS, aPar, aCall, aYes, startA, endsA, aI, aU, aBM, aBM0, aTx, aSl, aNoPart, aPart, List.map_cons, List.map_nil, List.length_cons, List.length_nil, List.replicate_succ, List.replicate_zero, List.cons_append, List.nil_append, List.append_nil, List.set_cons_zero, List.set_cons_succ, List.getElem?_cons_zero, List.getElem?_cons_succ, Option.some.injEq, exists_eq_left', D.int.injEq, D.str.injEq, D.bl.injEq, D.ref.injEq, D.tup.injEq, D.lst.injEq, List.cons.injEq, and_true, true_and, exists_and_left, exists_eq_left, exists_eq, and_assoc, Nat.reduceAdd, Nat.reduceSub, Nat.zero_add, exists_and_right, exists_const, if_true, if_false, Bool.not_true, Bool.not_false, Bool.false_eq_true, wipeA]
    have le' : es.length = many := by rw [le, intsD_len]; omega
    refine ⟨_, es.map ofPy, rfl, by rw [view_m go]; rfl, k es G n' le' hes ?_ D1 K1⟩
    rw [intsD_len] at hn'
    simpa using hn'
end
end E60
namespace E60
open PySem PySem.Spec PyProof.Rows L2 Lay LA
open M60 (Ex Te St T)
section
variable {P : Program} {w : World} {K : PySem.W.Frag} {mg : Str → Option Value} {base : Heap}
/-- an operation: its name, how many inputs, its body -/
abbrev Deed := Str × Int × List PyData
def deedD (x : Deed) : D := .tup [.str x.1, .int x.2.1, .tup (x.2.2.map ofPy)]
structure PartsS (rs : List Row) (gs : List Str) (ds : List Deed) (t : PyData) (es : List PyData) : Prop where
  rows : Rows rs
  g3 : gs.length ≤ 3
  gl : ∀ g ∈ gs, M20.letters g
  ga : ascD (gs.map D.str) = true
  d3 : ds.length ≤ 3
  dl : ∀ d ∈ ds, M20.letters d.1
  da : ascD (ds.map fun d => D.str d.1) = true
  db : ∀ d ∈ ds, 1 ≤ d.2.1 ∧ d.2.1 ≤ 3 ∧ d.2.2.length ≤ 3 ∧ ∀ s ∈ d.2.2, St (rs.map (·.1)) gs 2 s
  t : Te (rs.map (·.1)) false 3 t
  e2 : es.length ≤ 2
  e : ∀ x ∈ es, Ex (rs.map (·.1)) false 2 x
def aParts : ASp := fun ds M Q => ∃ (p l : Addr) (n : Nat), ds = [.ref p] ∧ ADeck M p l n ∧ n + 400000 < 10 ^ 9 ∧
  ∀ rs gs os t es M' n', PartsS rs gs os t es → n' ≤ n + 350000 → ADeck M' p l n' → KeepM p l M M' → Q (.tup [.tup (rs.map rowD), .tup (gs.map D.str), .tup (os.map deedD), .tup [ofPy t, .tup (es.map ofPy)]]) M'
def aBody12 : ASp := fun ds M Q => aBodyS 1 ds M Q ∨ aBodyS 2 ds M Q
theorem ok_law_parts {f : Addr} {fd : FuncData} (F : Fun K "_law_parts" "_law_parts" s_law_parts f fd) (z_tuple : mg "tuple" = none) (z_range : mg "range" = none) (z_len : mg "len" = none) (z_int : mg "int" = none)
    (D_law_draw : Has P w K mg base 1 "_law_draw" ["_law_deck_here", "_law_below"] (spA K aDraw))
    (D_law_words : Has P w K mg base 3 "_law_words" ["_law_deck_here", "_law_many"] (spA K aWords))
    (D_law_cells : Has P w K mg base 3 "_law_cells" ["_law_deck_here"] (spA K aCells))
    (D_law_expression : Has P w K mg base 5 "_law_expression" ["_law_deck_here", "_law_here", "_law_deep", "_law_has_input"] (spA K (aExpr 1)))
    (D_law_test : Has P w K mg base 8 "_law_test" ["_law_deck_here", "_law_here", "_law_deep", "_law_has_input"] (spA K (aTestS 2)))
    (D_law_body : Has P w K mg base 11 "_law_body" ["_law_deck_here", "_law_here", "_law_grips", "_law_many", "_law_deep"] (spA K aBody12)) :
    FnG P w K mg base CX0 12 f fd ["_law_deck_here"] (spA K aParts) := by
  have nd := sc_law_parts.nd
  refine okA F sc_law_parts (fun ds M Q h => by obtain ⟨_, _, _, rfl, _⟩ := h; rfl) (fun cv A' out t G Z hr hq => (ass_cons (as_par (i := 4) (j := 5) (by rfl) nd rfl rfl (by decide) rfl rfl (aa_cons (ae_c D_law_cells (hr.mono (by decide)) hq (aa_cons (av 0) aa_nil)) (aa_cons (ae_c D_law_words (hr.mono (by decide)) hq (aa_cons (av 0) (aa_cons (ae_c D_law_draw (hr.mono (by decide)) hq (aa_cons (av 0) (aa_cons ae_int aa_nil))) aa_nil))) aa_nil)) (by rfl))
      (ass_cons (as_asg (ae_tup (aa_cons (ae_lc (own := [("_law_one", 9)]) rfl nd (ai_seq (av 4)) (blkOk_by (own := [("_law_one", 9)]) (N := N_law_parts) (sc := defScope s_law_parts) (by decide +kernel)) (fun _ _ _ _ _ => (pg_name (i := 9) nd rfl (by first | exact Or.inl rfl | exact Or.inr rfl))) (go_name 9) (by decide) (fun _ _ _ _ _ => ats_nil) (fun _ _ _ _ _ => (ae_ix hr.u1 (av 9) ae_int (fun _ _ => rfl)))) (aa_cons (ae_lstM aa_nil) aa_nil))) (gTupK K (pg_tup (n := 2) (by rfl) (pgs_cons (pg_name (i := 6) nd rfl (Or.inr rfl)) (pgs_cons (pg_name (i := 7) nd rfl (Or.inl rfl)) pgs_nil)))) (go_tup (gos_cons (go_name 6) (gos_cons (go_name 7) gos_nil))))
      (ass_cons (as_set (i := 1) nd rfl (Or.inl rfl) (ae_c D_law_words (hr.mono (by decide)) hq (aa_cons (av 0) (aa_cons (ae_op (op_addA K) s_add ae_int (ae_c D_law_draw (hr.mono (by decide)) hq (aa_cons (av 0) (aa_cons ae_int aa_nil)))) aa_nil))))
      (ass_cons (as_for PassesOwn.never rfl (ai_seq (av 1)) (pg_name (i := 2) nd rfl (Or.inl rfl)) (go_name 2)
        (ass_cons (as_set (i := 8) nd rfl (Or.inl rfl) (ae_c D_law_body (hr.mono (by decide)) hq (aa_cons (av 0) (aa_cons (av 6) (aa_cons (av 5) (aa_cons (ae_c D_law_draw (hr.mono (by decide)) hq (aa_cons (av 0) (aa_cons ae_int aa_nil))) (aa_cons (ae_op (op_addA K) s_add ae_int (ae_callTy call_int1 s_int1 z_int (by decide +kernel) (aa_cons (ae_cmp (eqDK K hr.units) s_eq (ae_callB (c_len K) s_len z_len (by decide +kernel) (aa_cons (av 1) aa_nil)) ae_int (nomark _)) aa_nil))) aa_nil)))))))
        (ass_one (as_expr (ae_bm K s_append (pe_bm PySem.F.plainAttrs_list PySem.F.slot_list_append PySem.F.type_list_append mt_append (av 7) (aa_cons (ae_tup (aa_cons (av 2) (aa_cons (ae_op (op_addA K) s_add ae_int (ae_c D_law_draw (hr.mono (by decide)) hq (aa_cons (av 0) (aa_cons ae_int aa_nil)))) (aa_cons (av 8) aa_nil)))) aa_nil)))))))
      (ass_cons (as_set (i := 3) nd rfl (Or.inl rfl) (ae_callTy (c_tupleF K) s_tuple z_tuple (by decide +kernel) (aa_cons (ae_lc (own := [("_law_k", 10)]) rfl nd (ai_rng1 z_range (aa_cons (ae_c D_law_draw (hr.mono (by decide)) hq (aa_cons (av 0) (aa_cons ae_int aa_nil))) aa_nil)) (blkOk_by (own := [("_law_k", 10)]) (N := N_law_parts) (sc := defScope s_law_parts) (by decide +kernel)) (fun _ _ _ _ _ => (pg_name (i := 10) nd rfl (by first | exact Or.inl rfl | exact Or.inr rfl))) (go_name 10) (by decide) (fun _ _ _ _ _ => ats_nil) (fun _ _ _ _ _ => (ae_c D_law_expression (hr.mono (by decide)) hq (aa_cons (av 0) (aa_cons (av 6) (aa_cons ae_int (aa_cons ae_bl aa_nil))))))) aa_nil)))
      (ass_one (as_ret (ae_tup (aa_cons (av 4) (aa_cons (av 5) (aa_cons (ae_callTy (c_tupleF K) s_tuple z_tuple (by decide +kernel) (aa_cons (av 7) aa_nil)) (aa_cons (ae_tup (aa_cons (ae_c D_law_test (hr.mono (by decide)) hq (aa_cons (av 0) (aa_cons (av 6) (aa_cons ae_int (aa_cons ae_bl aa_nil))))) (aa_cons (av 3) aa_nil))) aa_nil))))))))))))) (fun ds M Q h => ?_)
  obtain ⟨p, l, n, rfl, hD, hn, k⟩ := h
  simp only [aSeq, aAsg, aGName, aGTup, aGCons, aGNil, unTup, aVar, aC, aOp, aUn, aTest, aChain, aAnd, aOr, aNot, aIf, aAndT, aOrT, aNotT, aNil, aCons, aTup, aLst, aLstM, aDictM, aCB, aLc, aLc2, aDc, aFld, aFldSet, aMeth, aMethK, aMake, aMakeM, aPairs, aDisp, aRev, aRevM, aPutAt, aAugI, aFor, aWhile, aSeqW, aRng1, aRng2, aEnum, aNext, aNever, aBreak, aCont, aDrop, aRet, aRetN, aIfS, aPar, aCall, aYes, startA, endsA, aI, aU, aBM, aBM0, aTx, aSl, aNoPart, aPart, List.map_cons, List.map_nil, List.length_cons, List.length_nil, List.replicate_succ, List.replicate_zero, List.cons_append, List.nil_append, List.append_nil, List.set_cons_zero, List.set_cons_succ, List.getElem?_cons_zero, List.getElem?_cons_succ, Option.some.injEq, exists_eq_left', D.int.injEq, D.str.injEq, D.bl.injEq, D.ref.injEq, D.tup.injEq, D.lst.injEq, List.cons.injEq, and_true, true_and, exists_and_left, exists_eq_left, exists_eq, and_assoc, Nat.reduceAdd, Nat.reduceSub, Nat.zero_add, exists_and_right, exists_const, if_true, if_false, Bool.not_true, Bool.not_false, Bool.false_eq_true, wipeA, N_law_parts]
  refine ⟨p, l, n, rfl, hD, by omega, fun rs M1 n1 hrs hn1 D1 K1 => ?_⟩
  refine ⟨p, l, n1, 4, rfl, D1, by omega, by decide, by decide, fun r M2 r0 r1 D2 K2 => ?_⟩
  obtain ⟨j, rfl⟩ : ∃ j : Nat, r = j := ⟨r.toNat, by omega⟩
  refine ⟨p, l, _, j, rfl, by omega, D2, by omega, fun gs M3 n3 lg ndg ag gl hn3 D3 K3 => ?_⟩
  have hj3 : j ≤ 3 := by omega
  have hn3' : n3 ≤ n1 + 100 := by
    have := lg
    omega
  have hr2 := hrs.n2
  have hr3 := hrs.n3
  refine ⟨_, rfl, lc_map headD trivial (by show (rs.map rowD).length ≤ _; rw [List.length_map]; omega) (fun d hd P' R hP => ?_) ?_⟩
  · obtain ⟨r, hr, rfl⟩ := List.mem_map.mp hd
    simp only [aSeq, aAsg, aGName, aGTup, aGCons, aGNil, unTup, aVar, aC, aOp, aUn, aTest, aChain, aAnd, aOr, aNot, aIf, aAndT, aOrT, aNotT, aNil, aCons, aTup, aLst, aLstM, aDictM, aCB, aLc, aLc2, aDc, aFld, aFldSet, aMeth, aMethK, aMake, aMakeM, aPairs, aDisp, aRev, aRevM, aPutAt, aAugI, aFor, aWhile, aSeqW, aRng1, aRng2, aEnum, aNext, aNever, aBreak, aCont, aDrop, aRet, aRetN, aIfS, aPar, aCall, aYes, startA, endsA, aI, aU, aBM, aBM0, aTx, aSl, aNoPart, aPart, List.map_cons, List.map_nil, List.length_cons, List.length_nil, List.replicate_succ, List.replicate_zero, List.cons_append, List.nil_append, List.append_nil, List.set_cons_zero, List.set_cons_succ, List.getElem?_cons_zero, List.getElem?_cons_succ, Option.some.injEq, exists_eq_left', D.int.injEq, D.str.injEq, D.bl.injEq, D.ref.injEq, D.tup.injEq, D.lst.injEq, List.cons.injEq, and_true, true_and, exists_and_left, exists_eq_left, exists_eq, and_assoc, Nat.reduceAdd, Nat.reduceSub, Nat.zero_add, exists_and_right, exists_const, if_true, if_false, Bool.not_true, Bool.not_false, Bool.false_eq_true, wipeA]
    rw [show rowD r = .tup [cD r.1, .int r.2.1, .int r.2.2] from rfl, ix_t0]
    exact hP
  have ecs : (rs.map rowD).map headD = (rs.map (·.1)).map cD := by
    rw [List.map_map, List.map_map]
    rfl
  have ecs' : List.map headD ({ items := List.map rowD rs, stay := fun x => True } : Walk).items = (rs.map (·.1)).map cD := ecs
  rw [ecs']
  have K03 := (K1.trans K2).trans K3
  have up := hrs.up
  have csl : (rs.map (·.1)).length ≤ 3 := by rw [List.length_map]; exact hr3
  have csne : rs.map (·.1) ≠ [] := fun e => by have := congrArg List.length e; rw [List.length_map, List.length_nil] at this; omega
  generalize hcs : rs.map (·.1) = cs at up csl csne
  refine ⟨by decide, fun o ho => ⟨by decide, ?_⟩⟩
  obtain ⟨D4, op, ol⟩ := D3.new (o := .lst []) ho
  have hoM := K03.back ho op ol
  refine ⟨p, l, n3, 3, rfl, D4, by omega, by decide, by decide, fun r M5 r0' r1' D5 K5 => ?_⟩
  obtain ⟨m, rfl⟩ : ∃ m : Nat, r = m := ⟨r.toNat, by omega⟩
  rw [aAdd_ii, show (1 : Int) + (m : Int) = ((m + 1 : Nat) : Int) by omega]
  have go5 := K5.at (put_same (M := M3) (a := o) (o := .lst [])) op ol
  have hm3 : m ≤ 2 := by omega
  refine ⟨p, l, _, m + 1, rfl, by omega, D5, by omega, fun ys M6 n6 ly ndy ay yl hn6 D6 K6 => ?_⟩
  have go6 := K6.at go5 op ol
  have K06 := ((K03.new (z := o) (o := .lst []) hoM).trans K5).trans K6
  refine ⟨_, rfl, fun i Γ G => ∃ (o2 o8 : Option D) (os : List Deed) (n' : Nat), Γ = [some (.ref p), some (.tup (ys.map D.str)), o2, none, some (.tup (rs.map rowD)), some (.tup (gs.map D.str)), some (.lst (cs.map cD)), some (.ref o), o8, none, none] ∧
    G o = some (.lst (os.map deedD)) ∧ os.map (·.1) = ys.take i ∧ (∀ d ∈ os, 1 ≤ d.2.1 ∧ d.2.1 ≤ 3 ∧ d.2.2.length ≤ 3 ∧ ∀ s ∈ d.2.2, St cs gs 2 s) ∧ n' ≤ n6 + 110000 * i ∧ ADeck G p l n' ∧ KeepM p l M G,
    ⟨none, none, [], n6, rfl, go6, rfl, (fun d h => by cases h), by omega, D6, K06⟩, fun _ _ _ _ _ => trivial, ?_, ?_⟩
  · rintro i d Γ G hd' ⟨o2, o8, os, n', rfl, go, e1, hos, hn', D7, K7⟩
    have hd2 : (ys.map D.str)[i]? = some d := hd'
    rw [List.getElem?_map, Option.map_eq_some_iff] at hd2
    obtain ⟨y, hy, rfl⟩ := hd2
    have iy : i < ys.length := (List.getElem?_eq_some_iff.mp hy).1
    simp only [aSeq, aAsg, aGName, aGTup, aGCons, aGNil, unTup, aVar, aC, aOp, aUn, aTest, aChain, aAnd, aOr, aNot, aIf, aAndT, aOrT, aNotT, aNil, aCons, aTup, aLst, aLstM, aDictM, aCB, aLc, aLc2, aDc, aFld, aFldSet, aMeth, aMethK, aMake, aMakeM, aPairs, aDisp, aRev, aRevM, aPutAt, aAugI, aFor, aWhile, aSeqW, aRng1, aRng2, aEnum, aNext, aNever, aBreak, aCont, aDrop, aRet, aRetN, aIfS, aPar, aCall, aYes, startA, endsA, aI, aU, aBM, aBM0, aTx, aSl, aNoPart, aPart, List.map_cons, List.map_nil, List.length_cons, List.length_nil, List.replicate_succ, List.replicate_zero, List.cons_append, List.nil_append, List.append_nil, List.set_cons_zero, List.set_cons_succ, List.getElem?_cons_zero, List.getElem?_cons_succ, Option.some.injEq, exists_eq_left', D.int.injEq, D.str.injEq, D.bl.injEq, D.ref.injEq, D.tup.injEq, D.lst.injEq, List.cons.injEq, and_true, true_and, exists_and_left, exists_eq_left, exists_eq, and_assoc, Nat.reduceAdd, Nat.reduceSub, Nat.zero_add, exists_and_right, exists_const, if_true, if_false, Bool.not_true, Bool.not_false, Bool.false_eq_true, wipeA]
    refine ⟨p, l, n', 4, rfl, D7, by omega, by decide, by decide, fun r G2 w0 w4 D8 K8 => ?_⟩
    obtain ⟨q, rfl⟩ : ∃ q : Nat, r = q := ⟨r.toNat, by omega⟩
    have hq : q ≤ 3 := by omega
    rw [len_tup, aEq_f fine_int fine_int, eqD_ii, int1_bl, aAdd_ii]
    have body : ∀ (N : D → Mem → Prop), (∀ (b : List PyData) (G3 : Mem) (n5 : Nat), b.length = q → (∀ s ∈ b, St cs gs 2 s) → n5 ≤ n' + 108001 → ADeck G3 p l n5 → KeepM p l G2 G3 → N (.tup (b.map ofPy)) G3) →
        aBody12 [.ref p, .lst (cs.map cD), .tup (gs.map D.str), .int q, .int (1 + if decide (((ys.map D.str).length : Int) = 1) = true then 1 else 0)] G2 N := by
      intro N hN
      by_cases h1 : ((ys.map D.str).length : Int) = 1
      · rw [if_pos (by simpa using h1)]
        exact .inr ⟨p, l, _, q, cs, gs, rfl, hq, D8, by omega, csne, csl, up, by omega, gl, fun b G3 n5 lb hb hn5 D9 K9 => hN b G3 n5 lb hb (by omega) D9 K9⟩
      · rw [if_neg (by simpa using h1)]
        exact .inl ⟨p, l, _, q, cs, gs, rfl, hq, D8, by omega, csne, csl, up, by omega, gl, fun b G3 n5 lb hb hn5 D9 K9 => hN b G3 n5 lb (fun s hs => (hb s hs).mono (by decide)) (by omega) D9 K9⟩
    refine body _ fun b G3 n5 lb hb hn5 D9 K9 => ?_
    have go3 := (K8.trans K9).at go op ol
    refine ⟨ty_m go3, p, l, n5, 3, rfl, D9, by omega, by decide, by decide, fun r2 G4 v0 v3 D10 K10 => ?_⟩
    dsimp only
    rw [aAdd_ii]
    have go4 := K10.at go3 op ol
    have los : os.length = i := by
      have := congrArg List.length e1
      rw [List.length_map, List.length_take] at this
      omega
    refine ⟨by decide, append_m go4 (by rw [List.length_map]; omega) ?_⟩
    refine ⟨os ++ [(y, 1 + r2, b)], ?_, ?_, fun d hd => ?_, _, ?_, D10.upd op ol, (((K7.trans K8).trans K9).trans K10).new ?_⟩
    · rw [put_same, List.map_append]
      rfl
    · rw [List.map_append, e1, List.take_succ, hy]
      rfl
    · rcases List.mem_append.mp hd with h | h
      · exact hos d h
      · rw [List.mem_singleton.mp h]
        exact ⟨by show (1 : Int) ≤ 1 + r2; omega, by show (1 : Int) + r2 ≤ 3; omega, by show b.length ≤ 3; omega, hb⟩
    · omega
    · exact hoM
  · rintro Γ G ⟨o2, o8, os, n', rfl, go, e1, hos, hn', D7, K7⟩
    simp only [aSeq, aAsg, aGName, aGTup, aGCons, aGNil, unTup, aVar, aC, aOp, aUn, aTest, aChain, aAnd, aOr, aNot, aIf, aAndT, aOrT, aNotT, aNil, aCons, aTup, aLst, aLstM, aDictM, aCB, aLc, aLc2, aDc, aFld, aFldSet, aMeth, aMethK, aMake, aMakeM, aPairs, aDisp, aRev, aRevM, aPutAt, aAugI, aFor, aWhile, aSeqW, aRng1, aRng2, aEnum, aNext, aNever, aBreak, aCont, aDrop, aRet, aRetN, aIfS, aPar, aCall, aYes, startA, endsA, aI, aU, aBM, aBM0, aTx, aSl, aNoPart, aPart, List.map_cons, List.map_nil, List.length_cons, List.length_nil, List.replicate_succ, List.replicate_zero, List.cons_append, List.nil_append, List.append_nil, List.set_cons_zero, List.set_cons_succ, List.getElem?_cons_zero, List.getElem?_cons_succ, Option.some.injEq, exists_eq_left', D.int.injEq, D.str.injEq, D.bl.injEq, D.ref.injEq, D.tup.injEq, D.lst.injEq, List.cons.injEq, and_true, true_and, exists_and_left, exists_eq_left, exists_eq, and_assoc, Nat.reduceAdd, Nat.reduceSub, Nat.zero_add, exists_and_right, exists_const, if_true, if_false, Bool.not_true, Bool.not_false, Bool.false_eq_true, wipeA]
    have li : ({ items := List.map D.str ys, stay := fun x => True } : Walk).items.length = ys.length := List.length_map _
    rw [li] at e1 hn'
    rw [List.take_length] at e1
    refine ⟨p, l, n', 3, rfl, D7, by omega, by decide, by decide, fun r G2 w0 w3 D8 K8 => ?_⟩
    obtain ⟨q, rfl⟩ : ∃ q : Nat, r = q := ⟨r.toNat, by omega⟩
    refine ⟨_, rfl, by omega, by omega, lc_state (fun i acc M' => ∃ (es : List PyData) (n2 : Nat), acc = es.map ofPy ∧ es.length = i ∧ (∀ e ∈ es, Ex cs false 2 e) ∧ n2 ≤ n' + 1 + 100 * i ∧ ADeck M' p l n2 ∧ KeepM p l G M')
      (fun _ => trivial) (by rw [intsD_len]; omega) ⟨[], n' + 1, rfl, rfl, (fun b h => by cases h), by omega, D8, K8⟩ ?_ ?_⟩
    · rintro i d0 acc M' hd' hacc ⟨es, n2, rfl, le, hes, hn2, D9, K9⟩ P' R hP hR
      have i2 : i < (intsD 0 (q : Int).toNat).length := (List.getElem?_eq_some_iff.mp hd').1
      rw [intsD_len] at i2
      simp only [aSeq, aAsg, aGName, aGTup, aGCons, aGNil, unTup, aVar, aC, aOp, aUn, aTest, aChain, aAnd, aOr, aNot, aIf, aAndT, aOrT, aNotT, aNil, aCons, aTup, aLst, aLstM, aDictM, aCB, aLc, aLc2, aDc, aFld, aFldSet, aMeth, aMethK, aMake, aMakeM, aPairs, aDisp, aRev, aRevM, aPutAt, aAugI, aFor, aWhile, aSeqW, aRng1, aRng2, aEnum, aNext, aNever, aBreak, aCont, aDrop, aRet, aRetN, aIfS, aPar, aCall, aYes, startA, endsA, aI, aU, aBM, aBM0, aTx, aSl, aNoPart, aPart, List.map_cons, List.map_nil, List.length_cons, List.length_nil, List.replicate_succ, List.replicate_zero, List.cons_append, List.nil_append, List.append_nil, List.set_cons_zero, List.set_cons_succ, List.getElem?_cons_zero, List.getElem?_cons_succ, Option.some.injEq, exists_eq_left', D.int.injEq, D.str.injEq, D.bl.injEq, D.ref.injEq, D.tup.injEq, D.lst.injEq, List.cons.injEq, and_true, true_and, exists_and_left, exists_eq_left, exists_eq, and_assoc, Nat.reduceAdd, Nat.reduceSub, Nat.zero_add, exists_and_right, exists_const, if_true, if_false, Bool.not_true, Bool.not_false, Bool.false_eq_true, wipeA]
      refine ⟨p, l, n2, cs, false, rfl, D9, by omega, csne, by omega, fun e M8 n8 he hn8 D10 K10 => hP _ _ ⟨es ++ [e], n8, ?_, by simp [le], fun z hz => ?_, by omega, D10, K9.trans K10⟩⟩
      · rw [List.map_append]
        rfl
      · rcases List.mem_append.mp hz with h | h
        · exact hes z h
        · rw [List.mem_singleton.mp h]
          exact he
    · rintro acc M' hl ⟨es, n2, rfl, le, hes, hn2, D9, K9⟩
      dsimp only at le hn2
      rw [intsD_len] at le hn2
      rw [tuple_lst]
      refine ⟨_, os.map deedD, rfl, by rw [view_m (K9.at go op ol)]; rfl, p, l, n2, cs, false, rfl, D9, by omega, csne, by omega, fun t M8 n8 ht hn8 D10 K10 => ⟨by decide, by decide, ?_⟩⟩
      refine k rs gs os t es M8 n8 ⟨hrs, by omega, gl, ag, ?_, fun d hd => ?_, ?_, ?_, ?_, by omega, ?_⟩ (by omega) D10 ((K7.trans K9).trans K10)
      · have := congrArg List.length e1
        rw [List.length_map] at this
        omega
      · exact yl _ (e1 ▸ List.mem_map_of_mem hd)
      · rw [show (os.map fun d => D.str d.1) = (os.map (·.1)).map D.str by rw [List.map_map]; rfl, e1]
        exact ay
      · rw [hcs]
        exact hos
      · rw [hcs]
        exact ht
      · rw [hcs]
        exact hes
end
end E60
namespace E60
open PySem PySem.Spec PyProof.Rows L2 Lay LA
open M60 (Ex Te ev)
section
variable {P : Program} {w : World} {K : PySem.W.Frag} {mg : Str → Option Value} {base : Heap} {C : Addr} {dv : V}
abbrev gd_Module_evaluate : List D → List D := List.reverse
abbrev gd_Module_holds : List D → List D := fun ds => ds.drop 2 ++ ds.take 2
theorem dd3_Module_evaluate : ∀ F, RepA K F [] [] := fun _ => .nil
theorem dd3_Module_holds : ∀ F, RepA K F [] [] := fun _ => .nil
theorem dd_Module_evaluate_k {n : Nat} : ∀ F vs ds, vs.length = n → RepA K F vs ds → RepA K F (List.reverse vs) (gd_Module_evaluate ds) := fun _ _ _ _ h => h.rev
theorem dd_Module_holds_k {n : Nat} : ∀ F vs ds, vs.length = n → RepA K F vs ds → RepA K F (vs.drop 2 ++ vs.take 2) (gd_Module_holds ds) := fun _ _ _ _ h => (h.drop 2).app (h.take 2)
/-- what is told: the value, twice or three times, in a new list -/
def aToldS (C : Addr) (n : Nat) : ASp := fun ds M Q => ∃ fs e its g cs inp env, ds = [.ins C fs, ofPy e, .tup (its.map itD), .int g] ∧ fldD "evaluate" fs = none ∧ its.length ≤ 1000 ∧ Ex cs inp n e ∧ Vals' (valsD its) cs env g ∧
  ∀ (a : Addr) (many : Nat) (M' : Mem), many ≤ 3 → M a = none → M' a = some (.lst (List.replicate many (.int (ev env g n e).1))) → (∀ b, b ≠ a → M' b = M b) → Q (.ref a) M'
def aSaidS (C : Addr) (n : Nat) : ASp := fun ds M Q => ∃ fs e its g cs inp env, ds = [.ins C fs, ofPy e, .tup (its.map itD), .int g] ∧ fldD "holds" fs = none ∧ its.length ≤ 1000 ∧ Te cs inp n e ∧ Vals' (valsD its) cs env g ∧
  ∀ (a : Addr) (many : Nat) (M' : Mem), many ≤ 3 → M a = none → M' a = some (.lst (List.replicate many (.bl (ev env g n e).2))) → (∀ b, b ≠ a → M' b = M b) → Q (.ref a) M'
theorem ok_law_told {n : Nat} {f : Addr} {fd : FuncData} (F : Fun K "_law_told" "_law_told" s_law_told f fd)
    (dd2_Module_evaluate : ∀ F, RepA K F [dv] [.int 0])
    (D3_Module_evaluate : HasM P w K mg base (n + 2) C "evaluate" ["self", "expression", "content", "number"] [] (spA K (aEvaluate n)))
    (D2_Module_evaluate : HasM P w K mg base (n + 2) C "evaluate" ["self", "expression", "content", "number"] [dv] (spA K (aEvaluate n)))
    (DK_Module_evaluate : HasMK P w K mg base (n + 2) C "evaluate" ["self", "expression", "content", "number"] ["number", "content", "expression"] List.reverse (spA K (aEvaluate n))) :
    FnG P w K mg base CX0 (n + 3) f fd ["_law_it", "_law_one", "_law_left", "_law_given"] (spA K (aToldS C n)) := by
  have nd := sc_law_told.nd
  refine okA (k := n + 2) F sc_law_told (fun ds M Q h => by obtain ⟨_, _, _, _, _, _, _, rfl, _⟩ := h; rfl) (fun cv A' out t G Z hr hq => (ass_cons (as_set (i := 4) nd rfl (Or.inl rfl) (ae_lstM (aa_cons (ae_m D3_Module_evaluate dd3_Module_evaluate (hr.mono (by omega)) hq (av 0) (aa_cons (av 1) (aa_cons (av 2) (aa_cons (av 3) aa_nil)))) (aa_cons (ae_mk DK_Module_evaluate (gd := gd_Module_evaluate) dd_Module_evaluate_k (hr.mono (by omega)) hq (av 0) (ak_cons (av 3) (ak_cons (av 2) (ak_cons (av 1) ak_nil)))) aa_nil))))
      (ass_cons (as_if (at_cmp (eqDK K hr.units) s_eq (av 3) ae_int (nomark _)) (ass_one (as_expr (ae_bm K s_append (pe_bm PySem.F.plainAttrs_list PySem.F.slot_list_append PySem.F.type_list_append mt_append (av 4) (aa_cons (ae_m D2_Module_evaluate dd2_Module_evaluate (hr.mono (by omega)) hq (av 0) (aa_cons (av 1) (aa_cons (av 2) aa_nil))) aa_nil))))) ass_nil)
      (ass_one (as_ret (av 4)))))) (fun ds M Q h => ?_)
  obtain ⟨fs, e, its, g, cs, inp, env, rfl, hf, hl, hx, hV, k⟩ := h
  simp only [aSeq, aAsg, aGName, aGTup, aGCons, aGNil, unTup, aVar, aC, aOp, aUn, aTest, aChain, aAnd, aOr, aNot, aIf, aAndT, aOrT, aNotT, aNil, aCons, aTup, aLst, aLstM, aDictM, aCB, aLc, aLc2, aDc, aFld, aFldSet, aMeth, aMethK, aMake, aMakeM, aPairs, aDisp, aRev, aRevM, aPutAt, aAugI, aFor, aWhile, aSeqW, aRng1, aRng2, aEnum, aNext, aNever, aBreak, aCont, aDrop, aRet, aRetN, aIfS, aPar, aCall, aYes, startA, endsA, aI, aU, aBM, aBM0, aTx, aSl, aNoPart, aPart, List.map_cons, List.map_nil, List.length_cons, List.length_nil, List.replicate_succ, List.replicate_zero, List.cons_append, List.nil_append, List.append_nil, List.set_cons_zero, List.set_cons_succ, List.getElem?_cons_zero, List.getElem?_cons_succ, Option.some.injEq, exists_eq_left', D.int.injEq, D.str.injEq, D.bl.injEq, D.ref.injEq, D.tup.injEq, D.lst.injEq, List.cons.injEq, and_true, true_and, exists_and_left, exists_eq_left, exists_eq, and_assoc, Nat.reduceAdd, Nat.reduceSub, Nat.zero_add, exists_and_right, exists_const, if_true, if_false, Bool.not_true, Bool.not_false, Bool.false_eq_true, wipeA, N_law_told]
  refine ⟨fs, rfl, hf, _, e, its, g, cs, inp, env, rfl, hl, hx, hV, fs, rfl, hf, _, e, its, g, cs, inp, env, rfl, hl, hx, hV, by decide, fun a ha => ?_⟩
  rw [aEq_f fine_int fine_int, eqD_ii]
  refine ⟨_, rfl, ?_⟩
  by_cases h0 : g = 0
  · rw [if_pos (by simp [h0])]
    subst h0
    refine ⟨ty_m (put_same (M := M) (a := a)), fs, rfl, hf, _, e, its, 0, cs, inp, env, rfl, hl, hx, hV, append_m put_same (by simp) ?_⟩
    exact k a 3 _ (by decide) ha put_same fun b hb => by rw [put_ne hb, put_ne hb]
  · rw [if_neg (by simp [h0])]
    exact k a 2 _ (by decide) ha put_same fun b hb => put_ne hb
theorem ok_law_said {n : Nat} {f : Addr} {fd : FuncData} (F : Fun K "_law_said" "_law_said" s_law_said f fd)
    (dd2_Module_holds : ∀ F, RepA K F [dv] [.int 0])
    (D3_Module_holds : HasM P w K mg base (n + 2) C "holds" ["self", "test", "content", "number"] [] (spA K (aHolds n)))
    (D2_Module_holds : HasM P w K mg base (n + 2) C "holds" ["self", "test", "content", "number"] [dv] (spA K (aHolds n)))
    (DK_Module_holds : HasMK P w K mg base (n + 2) C "holds" ["self", "test", "content", "number"] ["content", "number", "test"] (fun vs => vs.drop 2 ++ vs.take 2) (spA K (aHolds n))) :
    FnG P w K mg base CX0 (n + 3) f fd ["_law_it", "_law_one", "_law_left", "_law_given"] (spA K (aSaidS C n)) := by
  have nd := sc_law_said.nd
  refine okA (k := n + 2) F sc_law_said (fun ds M Q h => by obtain ⟨_, _, _, _, _, _, _, rfl, _⟩ := h; rfl) (fun cv A' out t G Z hr hq => (ass_cons (as_set (i := 4) nd rfl (Or.inl rfl) (ae_lstM (aa_cons (ae_m D3_Module_holds dd3_Module_holds (hr.mono (by omega)) hq (av 0) (aa_cons (av 1) (aa_cons (av 2) (aa_cons (av 3) aa_nil)))) (aa_cons (ae_mk DK_Module_holds (gd := gd_Module_holds) dd_Module_holds_k (hr.mono (by omega)) hq (av 0) (ak_cons (av 2) (ak_cons (av 3) (ak_cons (av 1) ak_nil)))) aa_nil))))
      (ass_cons (as_if (at_cmp (eqDK K hr.units) s_eq (av 3) ae_int (nomark _)) (ass_one (as_expr (ae_bm K s_append (pe_bm PySem.F.plainAttrs_list PySem.F.slot_list_append PySem.F.type_list_append mt_append (av 4) (aa_cons (ae_m D2_Module_holds dd2_Module_holds (hr.mono (by omega)) hq (av 0) (aa_cons (av 1) (aa_cons (av 2) aa_nil))) aa_nil))))) ass_nil)
      (ass_one (as_ret (av 4)))))) (fun ds M Q h => ?_)
  obtain ⟨fs, e, its, g, cs, inp, env, rfl, hf, hl, hx, hV, k⟩ := h
  simp only [aSeq, aAsg, aGName, aGTup, aGCons, aGNil, unTup, aVar, aC, aOp, aUn, aTest, aChain, aAnd, aOr, aNot, aIf, aAndT, aOrT, aNotT, aNil, aCons, aTup, aLst, aLstM, aDictM, aCB, aLc, aLc2, aDc, aFld, aFldSet, aMeth, aMethK, aMake, aMakeM, aPairs, aDisp, aRev, aRevM, aPutAt, aAugI, aFor, aWhile, aSeqW, aRng1, aRng2, aEnum, aNext, aNever, aBreak, aCont, aDrop, aRet, aRetN, aIfS, aPar, aCall, aYes, startA, endsA, aI, aU, aBM, aBM0, aTx, aSl, aNoPart, aPart, List.map_cons, List.map_nil, List.length_cons, List.length_nil, List.replicate_succ, List.replicate_zero, List.cons_append, List.nil_append, List.append_nil, List.set_cons_zero, List.set_cons_succ, List.getElem?_cons_zero, List.getElem?_cons_succ, Option.some.injEq, exists_eq_left', D.int.injEq, D.str.injEq, D.bl.injEq, D.ref.injEq, D.tup.injEq, D.lst.injEq, List.cons.injEq, and_true, true_and, exists_and_left, exists_eq_left, exists_eq, and_assoc, Nat.reduceAdd, Nat.reduceSub, Nat.zero_add, exists_and_right, exists_const, if_true, if_false, Bool.not_true, Bool.not_false, Bool.false_eq_true, wipeA, N_law_said]
  refine ⟨fs, rfl, hf, _, e, its, g, cs, inp, env, rfl, hl, hx, hV, fs, rfl, hf, _, e, its, g, cs, inp, env, rfl, hl, hx, hV, by decide, fun a ha => ?_⟩
  rw [aEq_f fine_int fine_int, eqD_ii]
  refine ⟨_, rfl, ?_⟩
  by_cases h0 : g = 0
  · rw [if_pos (by simp [h0])]
    subst h0
    refine ⟨ty_m (put_same (M := M) (a := a)), fs, rfl, hf, _, e, its, 0, cs, inp, env, rfl, hl, hx, hV, append_m put_same (by simp) ?_⟩
    exact k a 3 _ (by decide) ha put_same fun b hb => by rw [put_ne hb, put_ne hb]
  · rw [if_neg (by simp [h0])]
    exact k a 2 _ (by decide) ha put_same fun b hb => put_ne hb
end
end E60
namespace E60
open PySem PySem.Spec PyProof.Rows L2 Lay LA
open M60 (Ex Te St T)
section
variable {cs : List (Int × Int)} {C : Cells} {inp : Bool}
theorem both_ok (hc : ∀ c ∈ cs, isCellIn C (.tup [.int c.1, .int c.2]) = true) : ∀ n : Nat, (∀ e, Ex cs inp n e → exprD C inp (n + 1) (ofPy e) = true) ∧ ∀ e, Te cs inp n e → testD C inp (n + 1) (ofPy e) = true := by
  intro n
  induction n with
  | zero =>
    refine ⟨fun e h => ?_, fun e h => ?_⟩
    · cases h with
      | num _ h0 h1 => simp only [ofPy, exprD_int, h0, h1, decide_true, Bool.and_self]
      | cell _ h => simpa only [ofPy, ofPyL, M60.cellD, exprD_tup, if_pos, one] using hc _ h
      | input _ h =>
        subst h
        rfl
    · cases h
  | succ n ih =>
    refine ⟨fun e h => ?_, fun e h => ?_⟩
    · cases h with
      | num _ h0 h1 => simp only [ofPy, exprD_int, h0, h1, decide_true, Bool.and_self]
      | cell _ h => simpa only [ofPy, ofPyL, M60.cellD, exprD_tup, if_pos, one] using hc _ h
      | input _ h =>
        subst h
        rfl
      | op h a b =>
        have ha := ih.1 _ a
        have hb := ih.1 _ b
        simp only [ofPy, ofPyL, exprD_tup]
        simp only [M60.ops, List.mem_cons, List.not_mem_nil, or_false] at h
        rcases h with rfl | rfl | rfl <;> (rw [if_neg (by decide), if_neg (by decide), if_neg (by decide)]; simp [two, ha, hb])
      | pick t a b =>
        simp only [ofPy, ofPyL, exprD_tup]
        rw [if_neg (by decide), if_neg (by decide), if_pos trivial]
        simp [three, ih.2 _ t, ih.1 _ a, ih.1 _ b]
    · cases h with
      | cmp h a b =>
        have ha := ih.1 _ a
        have hb := ih.1 _ b
        simp only [ofPy, ofPyL, testD_tup]
        simp only [M60.cmps, List.mem_cons, List.not_mem_nil, or_false] at h
        rcases h with rfl | rfl <;> simp [two, ha, hb]
      | neg t =>
        simp only [ofPy, ofPyL, testD_tup]
        rw [if_neg (by decide), if_pos trivial]
        simp [one, ih.2 _ t]
      | both t u =>
        simp only [ofPy, ofPyL, testD_tup]
        rw [if_neg (by decide), if_neg (by decide)]
        simp [two, ih.2 _ t, ih.2 _ u]
end
end E60
namespace E60
open PySem PySem.Spec PyProof.Rows L2 Lay LA
open M60 (Ex Te St T)
theorem asc_map {α : Type} (f : α → D) : ∀ {us : List α}, us.Pairwise (fun a b => ltD (f a) (f b) = true) → ascD (us.map f) = true
  | [], _ => rfl
  | [_], _ => rfl
  | a :: b :: r, h => by
    rw [List.pairwise_cons] at h
    show (ltD (f a) (f b) && ascD ((b :: r).map f)) = true
    rw [h.1 b (List.mem_cons_self ..), asc_map f h.2]
    rfl
theorem ltD_cells (a b : Int × Int) : ltD (cD a) (cD b) = decide (a.1 < b.1 ∨ (a.1 = b.1 ∧ a.2 < b.2)) := PySem.W.dataLt_ii ..
theorem asc_cells {cs : List (Int × Int)} (h : upC cs) : ascD (cs.map cD) = true := asc_map _ (h.imp fun h => by rw [ltD_cells]; exact decide_eq_true h)
theorem pairs_of_asc : ∀ {us : List Str}, ascD (us.map D.str) = true → us.Pairwise (fun a b => ltD (.str a) (.str b) = true)
  | [], _ => .nil
  | [_], _ => .cons (fun _ h => by cases h) .nil
  | a :: b :: r, h => by
    have h' : (ltD (.str a) (.str b) && ascD ((b :: r).map D.str)) = true := h
    rw [Bool.and_eq_true] at h'
    have ih := pairs_of_asc h'.2
    refine .cons (fun c hc => ?_) ih
    rcases List.mem_cons.mp hc with rfl | hc
    · exact h'.1
    · have h1 := h'.1
      have h2 := (List.pairwise_cons.mp ih).1 c hc
      rw [ltD_str, decide_eq_true_eq] at *
      exact List.lt_trans h1 h2
theorem in_strs {gs : List Str} {g : Str} (h : g ∈ gs) : inD (gs.map D.str) (.str g) = true := by
  unfold inD
  rw [List.any_eq_true]
  exact ⟨_, List.mem_map_of_mem h, by rw [eqD_ss, decide_eq_true rfl]⟩
section
variable {cs : List (Int × Int)} {C : Cells} {gs : List Str}
theorem put_ok (hc : ∀ c ∈ cs, isCellIn C (cD c) = true) (ga : ascD (gs.map D.str) = true) {ws : List ((Int × Int) × PyData)} {as : List Str} {h : PyData} (p : M60.Put cs gs ws as h) (k : Nat) :
    putD' C (gs.map D.str) (k + 4) [.tup (ws.map fun w => .tup [cD w.1, ofPy w.2]), .tup (as.map D.str), ofPy h] = true := by
  have e1 : writesD C (k + 4) (.tup (ws.map fun w => .tup [cD w.1, ofPy w.2])) = true := by
    have all : (ws.map fun w => D.tup [cD w.1, ofPy w.2]).all (isWrite C (k + 4)) = true := by
      rw [List.all_eq_true]
      intro d hd
      obtain ⟨w, hw, rfl⟩ := List.mem_map.mp hd
      have ⟨h1, h2⟩ := p.ok w hw
      show (isCellIn C (cD w.1) && exprD C true (k + 4) (ofPy w.2)) = true
      rw [hc _ h1, (both_ok hc (k + 3)).1 _ (h2.mono (by omega))]
      rfl
    have fi : firsts (ws.map fun w => D.tup [cD w.1, ofPy w.2]) = (ws.map (·.1)).map cD := by
      clear p all
      induction ws with
      | nil => rfl
      | cons w r ih =>
        show cD w.1 :: firsts (r.map fun w => D.tup [cD w.1, ofPy w.2]) = _
        rw [ih]
        rfl
    obtain ⟨a, ha⟩ := p.one
    have bl : ∀ d ∈ ws.map fun w => D.tup [cD w.1, ofPy w.2], blockD d = a := by
      intro d hd
      obtain ⟨w, hw, rfl⟩ := List.mem_map.mp hd
      exact ha w hw
    have asc : ascD (firsts (ws.map fun w => D.tup [cD w.1, ofPy w.2])) = true := by
      rw [fi]
      exact asc_cells p.up
    have ne : ws.map (fun w => D.tup [cD w.1, ofPy w.2]) ≠ [] := by simpa using p.ne
    generalize ws.map (fun w => D.tup [cD w.1, ofPy w.2]) = ds at *
    cases ds with
    | nil => exact absurd rfl ne
    | cons d r =>
      show ((d :: r).all (isWrite C (k + 4)) && (ascD (firsts (d :: r)) && decide (blockD d = blockD ((d :: r).getLast (by simp))))) = true
      rw [all, asc, bl d (by simp), bl _ (List.getLast_mem _), decide_eq_true rfl]
      rfl
  have e2 : handlesOfD (gs.map D.str) (.tup (as.map D.str)) = true := by
    show ((as.map D.str).all (inD (gs.map D.str)) && ascD (as.map D.str)) = true
    rw [asc_of_pairs ((pairs_of_asc ga).sublist p.sub), Bool.and_true, List.all_eq_true]
    intro d hd
    obtain ⟨g, hg, rfl⟩ := List.mem_map.mp hd
    exact in_strs (p.sub.subset hg)
  have e3 : gripD (gs.map D.str) (ofPy h) = true := by
    rcases p.handle with rfl | ⟨g, hg, rfl⟩
    · rfl
    · show (LA.isNon (.str g) || inD (gs.map D.str) (.str g)) = true
      rw [in_strs hg, Bool.or_true]
  show (writesD C (k + 4) _ && (handlesOfD (gs.map D.str) _ && gripD (gs.map D.str) _)) = true
  rw [e1, e2, e3]
  rfl
theorem stmt_ok (hc : ∀ c ∈ cs, isCellIn C (cD c) = true) (ga : ascD (gs.map D.str) = true) : ∀ {n : Nat} {s : PyData}, St cs gs n s → ∀ m, 2 * n + 5 ≤ m → stmtD C (gs.map D.str) m (ofPy s) = true := by
  intro n
  induction n with
  | zero =>
    intro s h m hm
    obtain ⟨k, rfl⟩ : ∃ k, m = k + 5 := ⟨m - 5, by omega⟩
    cases h with
    | put _ p =>
      rw [put_py, stmtD_tup, if_pos rfl]
      exact put_ok hc ga p k
    | rel _ hg =>
      simp only [ofPy, ofPyL, stmtD_tup]
      rw [if_neg (by decide), if_neg (by decide)]
      simp [one, in_strs hg]
  | succ n ih =>
    intro s h m hm
    obtain ⟨k, rfl⟩ : ∃ k, m = k + 5 := ⟨m - 5, by omega⟩
    cases h with
    | put _ p =>
      rw [put_py, stmtD_tup, if_pos rfl]
      exact put_ok hc ga p k
    | rel _ hg =>
      simp only [ofPy, ofPyL, stmtD_tup]
      rw [if_neg (by decide), if_neg (by decide)]
      simp [one, in_strs hg]
    | ifs ht _ _ ha hb =>
      have body : ∀ b : List PyData, (∀ s ∈ b, St cs gs n s) → bodyD C (gs.map D.str) (k + 4) (.tup (b.map ofPy)) = true := by
        intro b hb
        rw [bodyD_tup, List.all_eq_true]
        intro d hd
        obtain ⟨s, hs, rfl⟩ := List.mem_map.mp hd
        exact ih (hb s hs) _ (by omega)
      simp only [ofPy, ofPyL, ofPyL_map, stmtD_tup]
      rw [if_neg (by decide), if_pos trivial]
      simp [three, (both_ok hc (k + 3)).2 _ (ht.mono (by omega)), body _ ha, body _ hb]
theorem body_ok (hc : ∀ c ∈ cs, isCellIn C (cD c) = true) (ga : ascD (gs.map D.str) = true) {n : Nat} {b : List PyData} (h : ∀ s ∈ b, St cs gs n s) {m : Nat} (hm : 2 * n + 6 ≤ m) : bodyD C (gs.map D.str) m (.tup (b.map ofPy)) = true := by
  obtain ⟨k, rfl⟩ : ∃ k, m = k + 1 := ⟨m - 1, by omega⟩
  rw [bodyD_tup, List.all_eq_true]
  intro d hd
  obtain ⟨s, hs, rfl⟩ := List.mem_map.mp hd
  exact stmt_ok hc ga (h s hs) _ (by omega)
theorem promise_ok (hc : ∀ c ∈ cs, isCellIn C (cD c) = true) {t : PyData} {es : List PyData} {a b : Nat} (ht : Te cs false a t) (he : ∀ x ∈ es, Ex cs false b x) {m : Nat} (h1 : a + 1 ≤ m) (h2 : b + 1 ≤ m) : promiseD C m (.tup [ofPy t, .tup (es.map ofPy)]) = true := by
  obtain ⟨k, rfl⟩ : ∃ k, m = k + 1 := ⟨m - 1, by omega⟩
  show (testD C false (k + 1) (ofPy t) && (es.map ofPy).all (exprD C false (k + 1))) = true
  rw [(both_ok hc k).2 _ (ht.mono (by omega)), Bool.true_and, List.all_eq_true]
  intro d hd
  obtain ⟨x, hx, rfl⟩ := List.mem_map.mp hd
  exact (both_ok hc k).1 _ ((he x hx).mono (by omega))
end
end E60
namespace E60
open PySem PySem.Spec PyProof.Rows L2 Lay LA
open M60 (Ex Te St T)
section
variable {κ : Type} [DecidableEq κ]
theorem valD_some {k : κ} : ∀ {kvs : List (κ × D)}, k ∈ kvs.map (·.1) → (valD kvs k).isSome = true
  | [], h => by cases h
  | p :: r, h => by
    unfold valD
    by_cases e : p.1 = k
    · rw [if_pos e]; rfl
    · rw [if_neg e]
      refine valD_some (kvs := r) ?_
      rcases List.mem_cons.mp h with h | h
      · exact absurd h.symm e
      · exact h
theorem keys_put {kvs : List (κ × D)} {k x : κ} {d : D} (h : x ∈ kvs.map (·.1) ∨ x = k) : x ∈ (LA.putD kvs k d).map (·.1) := by
  unfold LA.putD
  split
  · rename_i ha
    have e : (kvs.map fun kv => if kv.1 = k then (kv.1, d) else kv).map (·.1) = kvs.map (·.1) := by
      rw [List.map_map]
      refine List.map_congr_left fun p _ => ?_
      show (if p.1 = k then (p.1, d) else p).1 = p.1
      split <;> rfl
    rw [e]
    rcases h with h | rfl
    · exact h
    · obtain ⟨p, hp, hk⟩ := List.any_eq_true.mp ha
      exact List.mem_map.mpr ⟨p, hp, of_decide_eq_true hk⟩
  · rw [List.map_append, List.mem_append]
    rcases h with h | rfl
    · exact .inl h
    · exact .inr (List.mem_singleton.mpr rfl)
theorem keys_puts {x : κ} : ∀ {more kvs : List (κ × D)}, x ∈ kvs.map (·.1) ∨ x ∈ more.map (·.1) → x ∈ (putsD kvs more).map (·.1)
  | [], kvs, h => by
    rcases h with h | h
    · exact h
    · cases h
  | p :: r, kvs, h => by
    show x ∈ (putsD (LA.putD kvs p.1 p.2) r).map (·.1)
    refine keys_puts ?_
    rcases h with h | h
    · exact .inl (keys_put (.inl h))
    · rcases List.mem_cons.mp h with h | h
      · exact .inl (keys_put (.inr h))
      · exact .inr h
end
section
variable {rs : List Row} (R : Rows rs)
include R
theorem known_ok : ∀ c ∈ rs.map (·.1), isCellIn (knownD (rs.map rowD)) (cD c) = true := by
  intro c hc
  obtain ⟨r, hr, rfl⟩ := List.mem_map.mp hc
  have b := R.c r hr
  have : (valD (knownD (rs.map rowD)) [.inl r.1.1, .inl r.1.2]).isSome = true := by
    refine valD_some (keys_puts (.inr ?_))
    rw [List.map_map, List.map_map]
    exact List.mem_map.mpr ⟨r, hr, rfl⟩
  show (decide (0 ≤ r.1.1) && decide (0 ≤ r.1.2) && (valD (knownD (rs.map rowD)) [.inl r.1.1, .inl r.1.2]).isSome) = true
  rw [this, decide_eq_true b.1, decide_eq_true b.2.2.1]
  rfl
theorem sized_ok : sizedD (.tup (rs.map rowD)) = true := by
  have all : (rs.map rowD).all isSized = true := by
    rw [List.all_eq_true]
    intro d hd
    obtain ⟨r, hr, rfl⟩ := List.mem_map.mp hd
    have b := R.c r hr
    have s := R.s r hr
    show ((decide (0 ≤ r.1.1) && decide (0 ≤ r.1.2)) && (decide (1 ≤ r.2.1) && decide (r.2.1 ≤ 9) && decide (0 ≤ r.2.2) && decide (r.2.2 < r.2.1))) = true
    rw [decide_eq_true b.1, decide_eq_true b.2.2.1, decide_eq_true s.1, decide_eq_true (show r.2.1 ≤ 9 by omega), decide_eq_true s.2.2.1, decide_eq_true s.2.2.2]
    rfl
  have fi : firsts (rs.map rowD) = (rs.map (·.1)).map cD := by
    clear R all
    induction rs with
    | nil => rfl
    | cons w r ih =>
      show cD w.1 :: firsts (r.map rowD) = _
      rw [ih]
      rfl
  have asc := asc_cells R.up
  rw [← fi] at asc
  have ne : rs.map rowD ≠ [] := fun e => by
    have := congrArg List.length e
    have h2 := R.n2
    rw [List.length_map, List.length_nil] at this
    omega
  generalize rs.map rowD = ds at *
  cases ds with
  | nil => exact absurd rfl ne
  | cons d r =>
    show ((d :: r).all isSized && ascD (firsts (d :: r))) = true
    rw [all, asc]
    rfl
end
theorem name_ok {x : Str} (h : M20.letters x) : isName (.str x) = true := by
  obtain ⟨cs, rfl, h1, h8, hc⟩ := h
  have l : (M20.mk cs).length = cs.length := M20.mk_len ..
  show (decide (1 ≤ (M20.mk cs).length ∧ (M20.mk cs).length ≤ 8) && Txt.isascii (M20.mk cs) && Txt.isalpha (M20.mk cs) && Txt.islower (M20.mk cs)) = true
  rw [Bool.and_assoc, Bool.and_assoc, M02.name_signs _ (by rw [l]; exact h1), l, decide_eq_true ⟨h1, h8⟩, Bool.true_and, List.all_eq_true]
  intro c hm
  have := hc c (by simpa [M20.mk] using hm)
  simp [this.1, this.2]
section
variable {gs : List Str} (hn : ∀ g ∈ gs, isName (.str g) = true)
include hn in
theorem handles_ok (h3 : gs.length ≤ 3) (ga : ascD (gs.map D.str) = true) : handlesD (.tup (gs.map D.str)) = true := by
  show (decide ((gs.map D.str).length ≤ 3) && ((gs.map D.str).all isName && ascD (gs.map D.str))) = true
  rw [List.length_map, decide_eq_true h3, ga, Bool.and_true, Bool.true_and, List.all_eq_true]
  intro d hd
  obtain ⟨g, hg, rfl⟩ := List.mem_map.mp hd
  exact hn g hg
end
theorem ops_ok {ds : List Deed} (hn : ∀ d ∈ ds, isName (.str d.1) = true) (da : ascD (ds.map fun d => D.str d.1) = true) (db : ∀ d ∈ ds, 1 ≤ d.2.1 ∧ d.2.1 ≤ 3) : opsD (.tup (ds.map deedD)) = true := by
  have fi : firsts (ds.map deedD) = ds.map fun d => D.str d.1 := by
    clear hn da db
    induction ds with
    | nil => rfl
    | cons w r ih =>
      show D.str w.1 :: firsts (r.map deedD) = _
      rw [ih]
      rfl
  show ((ds.map deedD).all isOp && ascD (firsts (ds.map deedD))) = true
  rw [fi, da, Bool.and_true, List.all_eq_true]
  intro d hd
  obtain ⟨x, hx, rfl⟩ := List.mem_map.mp hd
  have := db x hx
  show (isName (.str x.1) && (decide (1 ≤ x.2.1) && decide (x.2.1 ≤ 4))) = true
  rw [hn x hx, decide_eq_true this.1, decide_eq_true (show x.2.1 ≤ 4 by omega)]
  rfl
end E60
namespace E60
open PySem PySem.Spec PyProof.Rows L2 Lay LA
open M60 (Ex Te St T)
/-- data that may be told, at most so deep -/
structure Fd (k : Nat) (d : D) : Prop where
  plain : LA.plain d = true
  short : shortD d = true
  lay : (py d).canLay0 = true
  dep : (py d).depth ≤ k
theorem Fd.fine {k : Nat} {d : D} (h : Fd k d) (hk : k ≤ 60) : Fine d := ⟨h.plain, h.short, h.lay, Nat.le_trans h.dep hk⟩
theorem Fd.mono {k l : Nat} {d : D} (h : Fd k d) (hk : k ≤ l) : Fd l d := ⟨h.plain, h.short, h.lay, Nat.le_trans h.dep hk⟩
theorem fd_int {k : Nat} {i : Int} : Fd (k + 1) (.int i) := ⟨rfl, rfl, rfl, by simp [py, PyData.depth]⟩
theorem fd_non {k : Nat} : Fd (k + 1) .non := ⟨rfl, rfl, rfl, by simp [py, PyData.depth]⟩
theorem fd_str {k : Nat} {x : Str} (h : Fine (.str x)) : Fd (k + 1) (.str x) := ⟨rfl, h.short, h.lay, by simp [py, PyData.depth]⟩
theorem fd_list : ∀ {ds : List D} {k : Nat}, (∀ d ∈ ds, Fd k d) → plainL ds = true ∧ shortL ds = true ∧ PyData.canLayAll0 (pyL ds) = true ∧ PyData.depthAll (pyL ds) ≤ k
  | [], k, _ => ⟨rfl, rfl, rfl, by simp [pyL, PyData.depthAll]⟩
  | d :: r, k, h => by
    have hd := h d (List.mem_cons_self ..)
    obtain ⟨h1, h2, h3, h4⟩ := fd_list (ds := r) fun x hx => h x (List.mem_cons_of_mem _ hx)
    refine ⟨?_, ?_, ?_, ?_⟩
    · rw [plainL, hd.plain, h1]; rfl
    · rw [shortL, hd.short, h2]; rfl
    · rw [pyL, PyData.canLayAll0, hd.lay, h3]; rfl
    · rw [pyL]
      simp only [PyData.depthAll]
      have := hd.dep
      omega
theorem fd_tup {ds : List D} {k : Nat} (h : ∀ d ∈ ds, Fd k d) (hl : ds.length ≤ 1000000) : Fd (k + 1) (.tup ds) := by
  obtain ⟨h1, h2, h3, h4⟩ := fd_list h
  refine ⟨?_, ?_, ?_, ?_⟩
  · simpa [LA.plain] using h1
  · show (decide (ds.length ≤ 1000000) && shortL ds) = true
    rw [decide_eq_true hl, h2]; rfl
  · simpa [py, PyData.canLay0] using h3
  · simp only [py, PyData.depth]
    omega
theorem fw {x : String} {k : Nat} (h : PyData.strOk (Str.ofString x) = true := by decide +kernel) (l : (Str.ofString x).length ≤ 1000000 := by decide +kernel) : Fd (k + 1) (.str (Str.ofString x)) := fd_str (fine_str h l)
theorem fd2 {k : Nat} {a b : D} (ha : Fd k a) (hb : Fd k b) : Fd (k + 1) (.tup [a, b]) := fd_tup (fun d h => by rcases List.mem_cons.mp h with rfl | h; exact ha; rw [List.mem_singleton.mp h]; exact hb) (by simp)
theorem fd3 {k : Nat} {a b c : D} (ha : Fd k a) (hb : Fd k b) (hc : Fd k c) : Fd (k + 1) (.tup [a, b, c]) := fd_tup (fun d h => by rcases List.mem_cons.mp h with rfl | h; exact ha; rcases List.mem_cons.mp h with rfl | h; exact hb; rw [List.mem_singleton.mp h]; exact hc) (by simp)
theorem fd4 {k : Nat} {a b c e : D} (ha : Fd k a) (hb : Fd k b) (hc : Fd k c) (he : Fd k e) : Fd (k + 1) (.tup [a, b, c, e]) := fd_tup (fun d h => by rcases List.mem_cons.mp h with rfl | h; exact ha; rcases List.mem_cons.mp h with rfl | h; exact hb; rcases List.mem_cons.mp h with rfl | h; exact hc; rw [List.mem_singleton.mp h]; exact he) (by simp)
theorem fd_cell {k : Nat} {c : Int × Int} : Fd (k + 2) (cD c) := fd2 fd_int fd_int
section
variable {cs : List (Int × Int)} {inp : Bool} {gs : List Str}
theorem fd_both : ∀ n : Nat, (∀ e, Ex cs inp n e → Fd (n + 3) (ofPy e)) ∧ ∀ e, Te cs inp n e → Fd (n + 3) (ofPy e) := by
  intro n
  induction n with
  | zero =>
    refine ⟨fun e h => ?_, fun e h => ?_⟩
    · cases h with
      | num _ h0 h1 => exact fd_int
      | cell _ h => exact fd2 fw fd_cell
      | input _ h => exact fd_tup (fun d h => by rw [List.mem_singleton.mp h]; exact fw) (by show 1 ≤ 1000000; decide)
    · cases h
  | succ n ih =>
    refine ⟨fun e h => ?_, fun e h => ?_⟩
    · cases h with
      | num _ h0 h1 => exact fd_int
      | cell _ h => exact fd2 fw fd_cell
      | input _ h => exact fd_tup (fun d h => by rw [List.mem_singleton.mp h]; exact fw) (by show 1 ≤ 1000000; decide)
      | op h a b =>
        simp only [M60.ops, List.mem_cons, List.not_mem_nil, or_false] at h
        rcases h with rfl | rfl | rfl <;> exact fd3 fw (ih.1 _ a) (ih.1 _ b)
      | pick t a b => exact fd4 fw (ih.2 _ t) (ih.1 _ a) (ih.1 _ b)
    · cases h with
      | cmp h a b =>
        simp only [M60.cmps, List.mem_cons, List.not_mem_nil, or_false] at h
        rcases h with rfl | rfl <;> exact fd3 fw (ih.1 _ a) (ih.1 _ b)
      | neg t => exact fd2 fw (ih.2 _ t)
      | both t u => exact fd3 fw (ih.2 _ t) (ih.2 _ u)
theorem fd_names (gl : ∀ g ∈ gs, M20.letters g) (h3 : gs.length ≤ 1000) {k : Nat} : Fd (k + 2) (.tup (gs.map D.str)) :=
  fd_tup (fun d h => by obtain ⟨g, hg, rfl⟩ := List.mem_map.mp h; exact fd_str (letters_fine (gl g hg))) (by rw [List.length_map]; omega)
theorem fd_put (gl : ∀ g ∈ gs, M20.letters g) (h3 : gs.length ≤ 1000) {ws : List ((Int × Int) × PyData)} {as : List Str} {h : PyData} (p : M60.Put cs gs ws as h) {k : Nat} : Fd (k + 9) (ofPy (M60.putD ws as h)) := by
  rw [put_py]
  refine fd4 fw ?_ ?_ ?_
  · refine fd_tup (fun d hd => ?_) (by have := p.few; rw [List.length_map]; omega)
    obtain ⟨w, hw, rfl⟩ := List.mem_map.mp hd
    exact fd2 fd_cell (((fd_both 3).1 _ (p.ok w hw).2).mono (by omega))
  · exact fd_names (fun g hg => gl g (p.sub.subset hg)) (Nat.le_trans p.sub.length_le h3)
  · rcases p.handle with rfl | ⟨g, hg, rfl⟩
    · exact fd_non
    · exact fd_str (letters_fine (gl g hg))
theorem fd_stmt (gl : ∀ g ∈ gs, M20.letters g) (h3 : gs.length ≤ 1000) : ∀ {n : Nat} {s : PyData}, St cs gs n s → Fd (2 * n + 9) (ofPy s) := by
  intro n
  induction n with
  | zero =>
    intro s h
    cases h with
    | put _ p => exact fd_put gl h3 p
    | rel _ hg => exact fd2 fw (fd_str (letters_fine (gl _ hg)))
  | succ n ih =>
    intro s h
    cases h with
    | put _ p => exact (fd_put (k := 0) gl h3 p).mono (by omega)
    | rel _ hg => exact Fd.mono (k := 9) (fd2 fw (fd_str (letters_fine (gl _ hg)))) (by omega)
    | ifs ht la lb ha hb =>
      have body : ∀ b : List PyData, b.length ≤ 1 → (∀ s ∈ b, St cs gs n s) → Fd (2 * n + 10) (.tup (b.map ofPy)) := fun b lb hb =>
        fd_tup (fun d hd => by obtain ⟨s, hs, rfl⟩ := List.mem_map.mp hd; exact ih (hb s hs)) (by rw [List.length_map]; omega)
      simp only [ofPy, ofPyL, ofPyL_map]
      exact fd4 fw (((fd_both 3).2 _ ht).mono (by omega)) (body _ la ha) (body _ lb hb)
end
theorem fd_rows {rs : List Row} (R : Rows rs) : Fd 4 (.tup (rs.map rowD)) :=
  fd_tup (fun d hd => by obtain ⟨r, _, rfl⟩ := List.mem_map.mp hd; exact fd3 fd_cell fd_int fd_int) (by have := R.n3; rw [List.length_map]; omega)
/-- what is drawn is a module -/
theorem parts_ok {rs : List Row} {gs : List Str} {ds : List Deed} {t : PyData} {es : List PyData} (p : PartsS rs gs ds t es) {n : Nat} (hn : 20 ≤ n) :
    Parts n (rs.map rowD) (gs.map D.str) (ds.map deedD) (.tup [ofPy t, .tup (es.map ofPy)]) := by
  have hc := known_ok p.rows
  have g3 := p.g3
  have d3 := p.d3
  have e2 := p.e2
  have fo : Fd 17 (.tup (ds.map deedD)) := by
    refine fd_tup (fun d hd => ?_) (by rw [List.length_map]; omega)
    obtain ⟨x, hx, rfl⟩ := List.mem_map.mp hd
    obtain ⟨_, _, lb, hb⟩ := p.db x hx
    exact fd3 (fd_str (letters_fine (p.dl x hx))) fd_int ((fd_tup (k := 13) (fun d hd => by
      obtain ⟨s, hs, rfl⟩ := List.mem_map.mp hd
      exact fd_stmt p.gl (by omega) (hb s hs)) (by rw [List.length_map]; omega)).mono (by omega))
  have fp : Fd 8 (.tup [ofPy t, .tup (es.map ofPy)]) := by
    refine fd2 (((fd_both 3).2 _ p.t).mono (by omega)) ((fd_tup (k := 5) (fun d hd => ?_) (by rw [List.length_map]; omega)).mono (by omega))
    obtain ⟨x, hx, rfl⟩ := List.mem_map.mp hd
    exact (fd_both 2).1 _ (p.e x hx)
  refine ⟨(fd_rows p.rows).fine (by omega), (fd_names (k := 0) p.gl (by omega)).fine (by omega), fo.fine (by omega), by rw [List.length_map]; omega, fp.fine (by omega), Nat.le_trans fp.dep (by omega), Nat.le_trans fo.dep (by omega),
    sized_ok p.rows, handles_ok (fun g hg => name_ok (p.gl g hg)) g3 p.ga, ops_ok (fun d hd => name_ok (p.dl d hd)) p.da (fun d hd => ⟨(p.db d hd).1, (p.db d hd).2.1⟩), fun d hd => ?_, promise_ok hc p.t p.e (by omega) (by omega)⟩
  obtain ⟨x, hx, rfl⟩ := List.mem_map.mp hd
  exact ⟨_, _, _, rfl, body_ok hc p.ga (p.db x hx).2.2.2 (by omega)⟩
end E60
namespace E60
open PySem PySem.Spec PyProof.Rows L2 Lay LA
open M60 (Ex Te St T)
theorem kvC_inj {a b : Int × Int} (h : kvC a = kvC b) : a = b := by
  obtain ⟨a1, a2⟩ := a
  obtain ⟨b1, b2⟩ := b
  simp only [kvC, List.cons.injEq, Sum.inl.injEq, and_true] at h
  rw [h.1, h.2]
theorem val_its (c : Int × Int) : ∀ its : Its, valD (its.map fun p => (kvC p.1, D.int p.2)) (kvC c) = (its.find? fun q => decide (q.1 = c)).map fun q => D.int q.2
  | [] => rfl
  | q :: r => by
    rw [List.map_cons, valD, List.find?_cons]
    by_cases h : q.1 = c
    · rw [if_pos (by rw [h]), decide_eq_true h]
      rfl
    · rw [if_neg (fun e => h (kvC_inj e)), decide_eq_false h]
      exact val_its c r
/-- the value of a cell in a content -/
def envOf (its : Its) (c : Int × Int) : Int := match its.find? fun q => decide (q.1 = c) with
  | some q => q.2
  | none => 0
theorem vals_ok {cs : List (Int × Int)} {its : Its} (h : Cont cs its) {g : Int} (hg : g.natAbs ≤ 30) : Vals' (valsD its) cs (envOf its) g := by
  have e : valsD its = its.map fun p => (kvC p.1, D.int p.2) := by
    unfold valsD
    refine puts_nodup ?_
    have : (its.map fun p => (kvC p.1, D.int p.2)).map (·.1) = (its.map (·.1)).map kvC := by
      rw [List.map_map, List.map_map]
      rfl
    rw [this]
    exact List.Pairwise.map kvC (fun a b hab e => hab (kvC_inj e)) h.nd
  refine ⟨fun c hc => ?_, fun c => ?_, hg⟩
  · rw [e, val_its]
    unfold envOf
    cases hf : its.find? fun q => decide (q.1 = c) with
    | some q => rfl
    | none =>
      obtain ⟨q, hq, rfl⟩ := List.mem_map.mp (h.sub c hc)
      have := List.find?_eq_none.mp hf q hq
      exact absurd (decide_eq_true rfl) this
  · unfold envOf
    cases hf : its.find? fun q => decide (q.1 = c) with
    | none => exact Nat.zero_le _
    | some q =>
      have := h.val q (List.mem_of_find?_eq_some hf)
      show q.2.natAbs ≤ 30
      omega
theorem fd_its {cs : List (Int × Int)} {its : Its} (h : Cont cs its) {k : Nat} : Fd (k + 4) (.tup (its.map itD)) :=
  fd_tup (fun d hd => by obtain ⟨q, _, rfl⟩ := List.mem_map.mp hd; exact fd2 (fd_cell (c := q.1)) fd_int) (by have := h.few; rw [List.length_map]; omega)
/-- what the law keeps: an expression, a test, a content -/
theorem fd_kept {cs : List (Int × Int)} {inp : Bool} {its : Its} (h : Cont cs its) {e t : PyData} {n m : Nat} (he : Ex cs inp n e) (ht : Te cs inp m t) (h1 : n ≤ 20) (h2 : m ≤ 20) : Fine (.tup [ofPy e, ofPy t, .tup (its.map itD)]) :=
  (fd3 (k := 23) (((fd_both n).1 _ he).mono (by omega)) (((fd_both m).2 _ ht).mono (by omega)) ((fd_its (k := 0) h).mono (by omega))).fine (by omega)
end E60
namespace E60
open PySem PySem.Spec PyProof.Rows L2 Lay LA
open M60 (Ex Te St T)
section
variable {cs : List (Int × Int)} {inp : Bool}
theorem py_both : ∀ n : Nat, (∀ e, Ex cs inp n e → py (ofPy e) = e) ∧ ∀ e, Te cs inp n e → py (ofPy e) = e := by
  intro n
  induction n with
  | zero =>
    refine ⟨fun e h => ?_, fun e h => ?_⟩
    · cases h <;> rfl
    · cases h
  | succ n ih =>
    refine ⟨fun e h => ?_, fun e h => ?_⟩
    · cases h with
      | num => rfl
      | cell => rfl
      | input => rfl
      | op h a b => simp only [ofPy, ofPyL, py, pyL, ih.1 _ a, ih.1 _ b]
      | pick t a b => simp only [ofPy, ofPyL, py, pyL, ih.2 _ t, ih.1 _ a, ih.1 _ b]
    · cases h with
      | cmp h a b => simp only [ofPy, ofPyL, py, pyL, ih.1 _ a, ih.1 _ b]
      | neg t => simp only [ofPy, ofPyL, py, pyL, ih.2 _ t]
      | both t u => simp only [ofPy, ofPyL, py, pyL, ih.2 _ t, ih.2 _ u]
def itP (p : (Int × Int) × Int) : PyData := .tuple [.tuple [.int p.1.1, .int p.1.2], .int p.2]
theorem py_its (its : Its) : py (.tup (its.map itD)) = .tuple (its.map itP) := by
  simp only [py, pyL_map, List.map_map]
  rfl
theorem its_gd {cs : List (Int × Int)} {its : Its} (h : Cont cs its) : LD.Gd 1000 3000 3 (.tuple (its.map itP)) := by
  have one : ∀ d ∈ its.map itP, M02.fine 1000 d = true ∧ d.depth ≤ 2 ∧ M02.wt d ≤ 230 := fun d hd => by
    obtain ⟨q, hq, rfl⟩ := List.mem_map.mp hd
    have h1 := h.val q hq
    have h2 := h.c q hq
    refine ⟨?_, ?_, ?_⟩
    · simp only [itP, M02.fine, M02.fineAll, Bool.and_true, Bool.and_eq_true, decide_eq_true_eq]
      omega
    · simp [itP, PyData.depth, PyData.depthAll]
    · simp only [itP, M02.wt, M02.wtAll]
      omega
  have all : ∀ ds : List PyData, (∀ d ∈ ds, M02.wt d ≤ 230) → M02.wtAll ds ≤ 232 * ds.length := by
    intro ds
    induction ds with
    | nil => intro _; simp [M02.wtAll]
    | cons d r ih =>
      intro hd
      have h1 := hd d (List.mem_cons_self ..)
      have h2 := ih fun x hx => hd x (List.mem_cons_of_mem _ hx)
      simp only [M02.wtAll, List.length_cons]
      omega
  refine M60.tup_gd (fun d hd => ⟨(one d hd).1, (one d hd).2.1⟩) ?_
  have := all _ fun d hd => (one d hd).2.2
  have hf := h.few
  rw [List.length_map] at this
  omega
/-- repr of what the law keeps -/
theorem repr_kept {M : Mem} {its : Its} (hc : ∀ c ∈ cs, 0 ≤ c.1 ∧ c.1 ≤ 20 ∧ 0 ≤ c.2 ∧ c.2 ≤ 20) (h : Cont cs its) {e t : PyData} (he : Ex cs inp 5 e) (ht : Te cs inp 5 t) {Q : D → Mem → Prop}
    (q : Q (.str (PyData.tuple [e, t, .tuple (its.map itP)]).shown) M) : aRepr [.tup [ofPy e, ofPy t, .tup (its.map itD)]] M Q := by
  have f := fd_kept h he ht (by decide) (by decide)
  have g := M60.gd_all (inp := inp) (cs := cs) (fun c k => by have := hc c k; omega) 5
  have ge := g.1 _ he
  have gt := g.2 _ ht
  have gi := its_gd h
  have e1 : py (.tup [ofPy e, ofPy t, .tup (its.map itD)]) = .tuple [e, t, .tuple (its.map itP)] := by
    have := py_its its
    simp only [py, pyL] at this ⊢
    rw [this, (py_both 5).1 _ he, (py_both 5).2 _ ht]
  have big : LD.Gd 1000 700000 8 (.tuple [e, t, .tuple (its.map itP)]) := by
    refine M60.tup_gd (m := 7) (fun d hd => ?_) ?_
    · simp only [List.mem_cons, List.not_mem_nil, or_false] at hd
      rcases hd with rfl | rfl | rfl
      · exact ⟨ge.fi, ge.dp⟩
      · exact ⟨gt.fi, gt.dp⟩
      · exact ⟨gi.fi, Nat.le_trans gi.dp (by omega)⟩
    · have h1 := ge.wt
      have h2 := gt.wt
      have h3 := gi.wt
      simp only [M02.wtAll] at *
      omega
  have told := big.told (by decide) (by omega) (by omega)
  refine ⟨_, rfl, by rw [f.view]; exact f.plain, ?_, ?_, ?_, ?_⟩
  · rw [f.view, e1]; exact told.1
  · rw [f.view, e1]; exact told.2.1
  · rw [f.view, e1]; exact Nat.le_trans (M02.shown_le (B := 1000) (by decide) _ big.fi).2 (Nat.le_trans big.wt (by omega))
  · rw [f.view, e1]; exact q
theorem rows_its {cs : List (Int × Int)} {its : Its} (h : Cont cs its) : rowsD (its.map itD) = some (valsD its) ∧ ((valsD its).map (·.1)).Nodup := by
  have nd : ((its.map fun p => (kvC p.1, D.int p.2)).map (·.1)).Nodup := by
    have e : (its.map fun p => (kvC p.1, D.int p.2)).map (·.1) = (its.map (·.1)).map kvC := by
      rw [List.map_map, List.map_map]
      rfl
    rw [e]
    exact List.Pairwise.map kvC (fun a b hab e => hab (kvC_inj e)) h.nd
  have e : valsD its = its.map fun p => (kvC p.1, D.int p.2) := puts_nodup nd
  rw [e]
  refine ⟨?_, nd⟩
  clear nd e h
  induction its with
  | nil => rfl
  | cons q r ih =>
    rw [List.map_cons, List.map_cons]
    show rowsD (.tup [.tup [.int q.1.1, .int q.1.2], .int q.2] :: r.map itD) = _
    simp only [rowsD, ih]
    rfl
end
theorem ADeck.other {M M' : Mem} {p l a : Addr} {n : Nat} (h : ADeck M p l n) (ha : M a = none) (ho : ∀ b, b ≠ a → M' b = M b) : ADeck M' p l n := by
  obtain ⟨us, m, h1, h2, rest⟩ := h
  exact ⟨us, m, by rw [ho p (fun e => by rw [e] at h1; rw [ha] at h1; cases h1)]; exact h1, by rw [ho l (fun e => by rw [e] at h2; rw [ha] at h2; cases h2)]; exact h2, rest⟩
theorem fine_nil : Fine (.lst []) := ⟨rfl, rfl, rfl, by simp [py, pyL, PyData.depth, PyData.depthAll]⟩
theorem eqD_nil : eqD (.lst []) (.lst []) = true := rfl
/-- a walk over what is told: nothing differs -/
theorem none_differs {v : D} {vs : List Nat} {Γ : Sl} {M : Mem} {a : Addr} {many : Nat} {at' : AT} {ag : AG} {ae : AE} {Q : D → Mem → Prop} (hm : many ≤ 3) (h : M a = some (.lst (List.replicate many v)))
    (ht : ∀ R : Mem → Prop, R M → ∀ P : D → Mem → Prop, ag v (wipeA Γ vs) M fun Γ2 M2 => at' Γ2 M2 fun b M3 => if b = true then ae Γ2 M3 P else R M3) (q : Q (.lst []) M) : ∃ w, walkOf M (.ref a) = some w ∧ LcB w ag at' ae vs Γ M Q := by
  refine ⟨⟨List.replicate many v, fun M' => M' a = some (.lst (List.replicate many v))⟩, by simp only [walkOf, h], lc_go (fun _ => false) id h (by rw [List.length_replicate]; omega) (fun d hd P R _ hR => ?_) ?_⟩
  · rw [List.eq_of_mem_replicate hd]
    exact ht R (hR rfl) P
  · have : ((List.replicate many v).filter fun _ => false) = [] := by simp
    rw [this]
    exact q
/-- repr of a value -/
theorem repr_int {M : Mem} {i : Int} (hi : i.natAbs ≤ 30 ^ 32) {Q : D → Mem → Prop} (q : Q (.str (PyData.int i).shown) M) : aRepr [.int i] M Q := by
  have h := M02.shown_le (B := 30 ^ 32) (by decide) (.int i) (by simp only [M02.fine]; exact decide_eq_true hi)
  exact ⟨_, rfl, rfl, h.1, by simp [LA.view, py, PyData.depth], Nat.le_trans h.2 (by simp only [M02.wt]; omega), q⟩
theorem repr_bl {M : Mem} {b : Bool} {Q : D → Mem → Prop} (q : Q (.str (PyData.bool b).shown) M) : aRepr [.bl b] M Q := by
  have h := M02.shown_le (B := 1) (by decide) (.bool b) (by simp only [M02.fine])
  exact ⟨_, rfl, rfl, h.1, by simp [LA.view, py, PyData.depth], Nat.le_trans h.2 (by simp only [M02.wt]; omega), q⟩
end E60
namespace E60
open PySem PySem.Spec PyProof.Rows L2 Lay LA
open M60 (Ex Te St T)
def threeCs : List D := [D.tup [D.tup [D.int 0, D.int 0], D.int 2, D.int 1]]
def threePr : D := D.tup [D.tup [D.str (Str.ofString "same"), D.int 0, D.int 0], D.tup []]
def exps : List PyData := [.tuple [T "minus", .int 3, .tuple [T "cell", M60.cellD (0, 0)]], .tuple [T "minus", .int 0, .int 20], .tuple [T "pick", .tuple [T "less", .int 1, .int 1], .int 4, .int 5], .tuple [T "times", .int 20, .int 20]]
def endT : PyData := .tuple [T "and", .tuple [T "same", .int 1, .int 1], .tuple [T "not", .tuple [T "less", .int 2, .int 1]]]
def threeIts : Its := [((0, 0), 1)]
theorem three_cont : Cont [(0, 0)] threeIts := ⟨by decide, by decide, by decide, by decide, by decide⟩
theorem exps_ex : ∀ e ∈ exps, Ex [(0, 0)] true 5 e := by
  have h0 : ∀ {n : Nat} {i : Int}, 0 ≤ i → i ≤ 20 → Ex [(0, 0)] true n (.int i) := fun a b => .num _ a b
  intro e he
  simp only [exps, List.mem_cons, List.not_mem_nil, or_false] at he
  rcases he with rfl | rfl | rfl | rfl
  · exact .op (by decide +kernel) (h0 (by decide) (by decide)) (.cell _ (by simp))
  · exact .op (by decide +kernel) (h0 (by decide) (by decide)) (h0 (by decide) (by decide))
  · exact .pick (.cmp (by decide +kernel) (h0 (by decide) (by decide)) (h0 (by decide) (by decide))) (h0 (by decide) (by decide)) (h0 (by decide) (by decide))
  · exact .op (by decide +kernel) (h0 (by decide) (by decide)) (h0 (by decide) (by decide))
theorem endT_te : Te [(0, 0)] true 5 endT := by
  have h0 : ∀ {n : Nat} {i : Int}, 0 ≤ i → i ≤ 20 → Ex [(0, 0)] true n (.int i) := fun a b => .num _ a b
  exact .both (.cmp (by decide +kernel) (h0 (by decide) (by decide)) (h0 (by decide) (by decide))) (.neg (.cmp (by decide +kernel) (h0 (by decide) (by decide)) (h0 (by decide) (by decide))))
theorem exps_ev : (exps.map fun e => (M60.ev (envOf threeIts) 0 5 e).1) = [2, -20, 5, 400] := by decide +kernel
theorem endT_ev : (M60.ev (envOf threeIts) 0 5 endT).2 = true := by decide +kernel
theorem three_ok : Parts 20 threeCs [] [] threePr := by
  have fs : Fd 4 (.str (Str.ofString "same")) := fw
  have fc : Fd 5 (.tup threeCs) := fd_tup (fun d hd => by rw [List.mem_singleton.mp hd]; exact fd3 (fd2 fd_int fd_int) fd_int fd_int) (by decide)
  have fn : Fd 5 (.tup []) := fd_tup (ds := []) (fun d hd => (by cases hd)) (by decide)
  have fp : Fd 6 threePr := fd2 (fd3 (k := 4) fs fd_int fd_int) fn
  exact ⟨fc.fine (by omega), fn.fine (by omega), fn.fine (by omega), by decide, fp.fine (by omega), Nat.le_trans fp.dep (by omega), Nat.le_trans fn.dep (by omega), by decide +kernel, by decide +kernel, by decide +kernel, fun d hd => (by cases hd), by decide +kernel⟩
section
variable {P : Program} {w : World} {K : PySem.W.Frag} {mg : Str → Option Value} {base : Heap} {C : Addr} {dv : V}
def aLaw : ASp := fun ds M Q => ∃ ns : List Int, ds = [.scr (ns.map D.int)] ∧ ns.length ≤ 63 ∧ ∀ M', Q (.bl true) M'
theorem ok_law {f : Addr} {fd : FuncData} (F : Fun K "law" "law" s_law f fd) (z_range : mg "range" = none) (z_repr : mg "repr" = none) (z_dict : mg "dict" = none)
    (D_law_deck : Has P w K mg base 2 "_law_deck" ["_law_script"] (spA K aDeck))
    (D_law_parts : Has P w K mg base 12 "_law_parts" ["_law_deck_here"] (spA K aParts))
    (D_law_content : Has P w K mg base 2 "_law_content" ["_law_deck_here", "_law_here"] (spA K aContent))
    (D_law_pick : Has P w K mg base 2 "_law_pick" ["_law_deck_here", "_law_items"] (spA K aPick))
    (D_law_expression : Has P w K mg base 11 "_law_expression" ["_law_deck_here", "_law_here", "_law_deep", "_law_has_input"] (spA K (aExpr 4)))
    (D_law_test : Has P w K mg base 12 "_law_test" ["_law_deck_here", "_law_here", "_law_deep", "_law_has_input"] (spA K (aTestS 4)))
    (D_law_value : Has P w K mg base 6 "_law_value" ["_law_one", "_law_values", "_law_given"] (spA K (aValue 5)))
    (D_law_so : Has P w K mg base 6 "_law_so" ["_law_one", "_law_values", "_law_given"] (spA K (aTruth 5)))
    (D_law_told : Has P w K mg base 8 "_law_told" ["_law_it", "_law_one", "_law_left", "_law_given"] (spA K (aToldS C 5)))
    (D_law_said : Has P w K mg base 8 "_law_said" ["_law_it", "_law_one", "_law_left", "_law_given"] (spA K (aSaidS C 5)))
    (fk : ∀ f ∈ modNames, FldOk K C f)
    (D_Module : HasC P w K mg base 29 "Module" C ["self", "cells", "handles", "operations", "promise"] (spA K (aInit K C 20)))
    (dd2_Module_evaluate : ∀ F, RepA K F [dv] [.int 0]) (dd2_Module_holds : ∀ F, RepA K F [dv] [.int 0])
    (D2_Module_evaluate : HasM P w K mg base 7 C "evaluate" ["self", "expression", "content", "number"] [dv] (spA K (aEvaluate 5)))
    (D2_Module_holds : HasM P w K mg base 7 C "holds" ["self", "test", "content", "number"] [dv] (spA K (aHolds 5))) :
    FnG P w K mg base CX0 31 f fd ["_law_script"] (spA K aLaw) := by
  have nd := sc_law.nd
  refine okA F sc_law (fun ds M Q h => by obtain ⟨_, rfl, _⟩ := h; rfl) (fun cv A' out t G Z hr hq => (ass_cons (as_set (i := 1) nd rfl (Or.inl rfl) (ae_c D_law_deck (hr.mono (by decide)) hq (aa_cons (av 0) aa_nil)))
      (ass_cons (as_for PassesOwn.never rfl (ai_rng1 z_range (aa_cons ae_int aa_nil)) (pg_name (i := 2) nd rfl (Or.inl rfl)) (go_name 2)
        (ass_cons (as_set (i := 5) nd rfl (Or.inl rfl) (ae_c D_law_parts (hr.mono (by decide)) hq (aa_cons (av 1) aa_nil)))
        (ass_cons (as_set (i := 6) nd rfl (Or.inl rfl) (ae_make D_Module (hr.mono (by decide)) hq (aa_cons (ae_ix hr.u1 (av 5) ae_int (fun _ _ => rfl)) (aa_cons (ae_ix hr.u1 (av 5) ae_int (fun _ _ => rfl)) (aa_cons (ae_ix hr.u1 (av 5) ae_int (fun _ _ => rfl)) (aa_cons (ae_ix hr.u1 (av 5) ae_int (fun _ _ => rfl)) aa_nil))))))
        (ass_cons (as_setLc (i := 7) (own := [("_law_row", 10)]) rfl nd rfl rfl (sw_true rfl rfl rfl (by decide +kernel)) (ai_seq (ae_ix hr.u1 (av 5) ae_int (fun _ _ => rfl))) (blkOk_by (own := [("_law_row", 10)]) (N := N_law) (sc := defScope s_law) (by decide +kernel)) (fun _ _ _ _ _ => (pg_name (i := 10) nd rfl (by first | exact Or.inl rfl | exact Or.inr rfl))) (go_name 10) (by decide) (fun _ _ _ _ _ => ats_nil) (fun _ _ _ _ _ => (ae_ix hr.u1 (av 10) ae_int (fun _ _ => rfl))))
        (ass_one (as_for PassesOwn.never rfl (ai_rng1 z_range (aa_cons ae_int aa_nil)) (pg_name (i := 8) nd rfl (Or.inl rfl)) (go_name 8)
          (ass_cons (as_par (i := 11) (j := 12) (by rfl) nd rfl rfl (by decide) rfl rfl (aa_cons (ae_c D_law_content (hr.mono (by decide)) hq (aa_cons (av 1) (aa_cons (av 7) aa_nil))) (aa_cons (ae_c D_law_pick (hr.mono (by decide)) hq (aa_cons (av 1) (aa_cons (ae_lst (aa_cons ae_int (aa_cons ae_int (aa_cons ae_int (aa_cons ae_int (aa_cons ae_int aa_nil)))))) aa_nil))) aa_nil)) (by rfl))
          (ass_cons (as_par (i := 13) (j := 14) (by rfl) nd rfl rfl (by decide) rfl rfl (aa_cons (ae_c D_law_expression (hr.mono (by decide)) hq (aa_cons (av 1) (aa_cons (av 7) (aa_cons ae_int (aa_cons ae_bl aa_nil))))) (aa_cons (ae_c D_law_test (hr.mono (by decide)) hq (aa_cons (av 1) (aa_cons (av 7) (aa_cons ae_int (aa_cons ae_bl aa_nil))))) aa_nil)) (by rfl))
          (ass_cons (as_asg (ae_tup (aa_cons (ae_callB (reprK K hr.units hq) s_repr z_repr (by decide +kernel) (aa_cons (ae_tup (aa_cons (av 13) (aa_cons (av 14) (aa_cons (av 11) aa_nil)))) aa_nil)) (aa_cons (ae_c D_law_value (hr.mono (by decide)) hq (aa_cons (av 13) (aa_cons (ae_callTy (c_dictT K rfl hr.units3) s_dictT z_dict (by decide +kernel) (aa_cons (av 11) aa_nil)) (aa_cons (av 12) aa_nil)))) aa_nil))) (gTupK K (pg_tup (n := 2) (by rfl) (pgs_cons (pg_name (i := 15) nd rfl (Or.inl rfl)) (pgs_cons (pg_name (i := 9) nd rfl (Or.inr rfl)) pgs_nil)))) (go_tup (gos_cons (go_name 15) (gos_cons (go_name 9) gos_nil))))
          (ass_cons (as_if (at_cmp (neDK K hr.units) s_ne (ae_lc (own := [("_law_part", 16)]) rfl nd (ai_seq (ae_c D_law_told (hr.mono (by decide)) hq (aa_cons (av 6) (aa_cons (av 13) (aa_cons (av 11) (aa_cons (av 12) aa_nil)))))) (blkOk_by (own := [("_law_part", 16)]) (N := N_law) (sc := defScope s_law) (by decide +kernel)) (fun _ _ _ _ _ => (pg_name (i := 16) nd rfl (by first | exact Or.inl rfl | exact Or.inr rfl))) (go_name 16) (by decide) (fun _ _ _ _ _ => (ats_one (at_cmp op_ne s_neS (ae_callB (reprK K hr.units hq) s_repr z_repr (by decide +kernel) (aa_cons (av 16) aa_nil)) (ae_callB (reprK K hr.units hq) s_repr z_repr (by decide +kernel) (aa_cons (av 9) aa_nil)) (nomark _)))) (fun _ _ _ _ _ => (av 16))) (ae_lst aa_nil) (nomark _)) (ass_one (as_ret ae_bl)) ass_nil)
          (ass_cons (as_set (i := 9) nd rfl (Or.inr rfl) (ae_c D_law_so (hr.mono (by decide)) hq (aa_cons (av 14) (aa_cons (ae_callTy (c_dictT K rfl hr.units3) s_dictT z_dict (by decide +kernel) (aa_cons (av 11) aa_nil)) (aa_cons (av 12) aa_nil)))))
          (ass_cons (as_if (at_cmp (neDK K hr.units) s_ne (ae_lc (own := [("_law_part", 16)]) rfl nd (ai_seq (ae_c D_law_said (hr.mono (by decide)) hq (aa_cons (av 6) (aa_cons (av 14) (aa_cons (av 11) (aa_cons (av 12) aa_nil)))))) (blkOk_by (own := [("_law_part", 16)]) (N := N_law) (sc := defScope s_law) (by decide +kernel)) (fun _ _ _ _ _ => (pg_name (i := 16) nd rfl (by first | exact Or.inl rfl | exact Or.inr rfl))) (go_name 16) (by decide) (fun _ _ _ _ _ => (ats_one (at_cmp op_ne s_neS (ae_callB (reprK K hr.units hq) s_repr z_repr (by decide +kernel) (aa_cons (av 16) aa_nil)) (ae_callB (reprK K hr.units hq) s_repr z_repr (by decide +kernel) (aa_cons (av 9) aa_nil)) (nomark _)))) (fun _ _ _ _ _ => (av 16))) (ae_lst aa_nil) (nomark _)) (ass_one (as_ret ae_bl)) ass_nil)
          (ass_one (as_if (at_cmp op_ne s_neS (ae_callB (reprK K hr.units hq) s_repr z_repr (by decide +kernel) (aa_cons (ae_tup (aa_cons (av 13) (aa_cons (av 14) (aa_cons (av 11) aa_nil)))) aa_nil)) (av 15) (nomark _)) (ass_one (as_ret ae_bl)) ass_nil))))))))))))))
      (ass_cons (as_set (i := 3) nd rfl (Or.inr rfl) (ae_make D_Module (hr.mono (by decide)) hq (aa_cons (ae_tup (aa_cons (ae_tup (aa_cons (ae_tup (aa_cons ae_int (aa_cons ae_int aa_nil))) (aa_cons ae_int (aa_cons ae_int aa_nil)))) aa_nil)) (aa_cons (ae_tup aa_nil) (aa_cons (ae_tup aa_nil) (aa_cons (ae_tup (aa_cons (ae_tup (aa_cons ae_str (aa_cons ae_int (aa_cons ae_int aa_nil)))) (aa_cons (ae_tup aa_nil) aa_nil))) aa_nil))))))
      (ass_cons (as_set (i := 4) nd rfl (Or.inl rfl) (ae_lst (aa_cons (ae_tup (aa_cons ae_str (aa_cons ae_int (aa_cons (ae_tup (aa_cons ae_str (aa_cons (ae_tup (aa_cons ae_int (aa_cons ae_int aa_nil))) aa_nil))) aa_nil)))) (aa_cons (ae_tup (aa_cons ae_str (aa_cons ae_int (aa_cons ae_int aa_nil)))) (aa_cons (ae_tup (aa_cons ae_str (aa_cons (ae_tup (aa_cons ae_str (aa_cons ae_int (aa_cons ae_int aa_nil)))) (aa_cons ae_int (aa_cons ae_int aa_nil))))) (aa_cons (ae_tup (aa_cons ae_str (aa_cons ae_int (aa_cons ae_int aa_nil)))) aa_nil))))))
      (ass_cons (as_if (at_cmp (neDK K hr.units) s_ne (ae_lc (own := [("_law_one", 13)]) rfl nd (ai_seq (av 4)) (blkOk_by (own := [("_law_one", 13)]) (N := N_law) (sc := defScope s_law) (by decide +kernel)) (fun _ _ _ _ _ => (pg_name (i := 13) nd rfl (by first | exact Or.inl rfl | exact Or.inr rfl))) (go_name 13) (by decide) (fun _ _ _ _ _ => ats_nil) (fun _ _ _ _ _ => (ae_m D2_Module_evaluate dd2_Module_evaluate (hr.mono (by decide)) hq (av 3) (aa_cons (av 13) (aa_cons (ae_fld (K := K) (av 3)) aa_nil))))) (ae_lst (aa_cons ae_int (aa_cons (ae_un un_neg s_U ae_int) (aa_cons ae_int (aa_cons ae_int aa_nil))))) (nomark _)) (ass_one (as_ret ae_bl)) ass_nil)
      (ass_one (as_ret (ae_cmp op_isX s_isX (ae_m D2_Module_holds dd2_Module_holds (hr.mono (by decide)) hq (av 3) (aa_cons (ae_tup (aa_cons ae_str (aa_cons (ae_tup (aa_cons ae_str (aa_cons ae_int (aa_cons ae_int aa_nil)))) (aa_cons (ae_tup (aa_cons ae_str (aa_cons (ae_tup (aa_cons ae_str (aa_cons ae_int (aa_cons ae_int aa_nil)))) aa_nil))) aa_nil)))) (aa_cons (ae_fld (K := K) (av 3)) aa_nil))) ae_bl (nomark _)))))))))) (fun ds M Q h => ?_)
  obtain ⟨ns, rfl, hl, k⟩ := h
  simp only [aSeq, aAsg, aGName, aGTup, aGCons, aGNil, unTup, aVar, aC, aOp, aUn, aTest, aChain, aAnd, aOr, aNot, aIf, aAndT, aOrT, aNotT, aNil, aCons, aTup, aLst, aLstM, aDictM, aCB, aLc, aLc2, aDc, aFld, aFldSet, aMeth, aMethK, aMake, aMakeM, aPairs, aDisp, aRev, aRevM, aPutAt, aAugI, aFor, aWhile, aSeqW, aRng1, aRng2, aEnum, aNext, aNever, aBreak, aCont, aDrop, aRet, aRetN, aIfS, aPar, aCall, aYes, startA, endsA, aI, aU, aBM, aBM0, aTx, aSl, aNoPart, aPart, List.map_cons, List.map_nil, List.length_cons, List.length_nil, List.replicate_succ, List.replicate_zero, List.cons_append, List.nil_append, List.append_nil, List.set_cons_zero, List.set_cons_succ, List.getElem?_cons_zero, List.getElem?_cons_succ, Option.some.injEq, exists_eq_left', D.int.injEq, D.str.injEq, D.bl.injEq, D.ref.injEq, D.tup.injEq, D.lst.injEq, List.cons.injEq, and_true, true_and, exists_and_left, exists_eq_left, exists_eq, and_assoc, Nat.reduceAdd, Nat.reduceSub, Nat.zero_add, exists_and_right, exists_const, if_true, if_false, Bool.not_true, Bool.not_false, Bool.false_eq_true, wipeA, N_law]
  refine ⟨ns, rfl, hl, fun p l M1 hp0 hl0 D1 _ => ⟨by decide, by decide, ?_⟩⟩
  refine ⟨fun i Γ G => ∃ (o2 o5 o6 o7 o8 o9 o11 o12 o13 o14 o15 : Option D) (n : Nat), Γ = [some (.scr (ns.map D.int)), some (.ref p), o2, none, none, o5, o6, o7, o8, o9, none, o11, o12, o13, o14, o15, none] ∧ n ≤ 1000000 * i ∧ ADeck G p l n,
    ⟨none, none, none, none, none, none, none, none, none, none, none, 0, rfl, by omega, D1⟩, fun _ _ _ _ _ => trivial, ?_, ?_⟩
  · rintro i d Γ G hd ⟨o2, o5, o6, o7, o8, o9, o11, o12, o13, o14, o15, n, rfl, hn, D2⟩
    have i4 : i < 4 := by
      have := (List.getElem?_eq_some_iff.mp hd).1
      simpa [intsD] using this
    simp only [aSeq, aAsg, aGName, aGTup, aGCons, aGNil, unTup, aVar, aC, aOp, aUn, aTest, aChain, aAnd, aOr, aNot, aIf, aAndT, aOrT, aNotT, aNil, aCons, aTup, aLst, aLstM, aDictM, aCB, aLc, aLc2, aDc, aFld, aFldSet, aMeth, aMethK, aMake, aMakeM, aPairs, aDisp, aRev, aRevM, aPutAt, aAugI, aFor, aWhile, aSeqW, aRng1, aRng2, aEnum, aNext, aNever, aBreak, aCont, aDrop, aRet, aRetN, aIfS, aPar, aCall, aYes, startA, endsA, aI, aU, aBM, aBM0, aTx, aSl, aNoPart, aPart, List.map_cons, List.map_nil, List.length_cons, List.length_nil, List.replicate_succ, List.replicate_zero, List.cons_append, List.nil_append, List.append_nil, List.set_cons_zero, List.set_cons_succ, List.getElem?_cons_zero, List.getElem?_cons_succ, Option.some.injEq, exists_eq_left', D.int.injEq, D.str.injEq, D.bl.injEq, D.ref.injEq, D.tup.injEq, D.lst.injEq, List.cons.injEq, and_true, true_and, exists_and_left, exists_eq_left, exists_eq, and_assoc, Nat.reduceAdd, Nat.reduceSub, Nat.zero_add, exists_and_right, exists_const, if_true, if_false, Bool.not_true, Bool.not_false, Bool.false_eq_true, wipeA]
    refine ⟨p, l, n, rfl, D2, by omega, fun rs gs os t es M2 n2 hP hn2 D3 K3 => ?_⟩
    simp only [ix_t0, ix_t1, ix_t2, ix_t3]
    intro a ha
    refine ⟨a, _, _, _, _, rfl, put_same, parts_ok hP (Nat.le_refl 20), rfl, _, put_same, ?_⟩
    rw [put_put, drop_put ha]
    generalize hfs : modF (rs.map rowD) (gs.map D.str) (os.map deedD) (.tup [ofPy t, .tup (es.map ofPy)]) = fs
    have fe : fldD "evaluate" fs = none := by rw [← hfs]; rfl
    have fh : fldD "holds" fs = none := by rw [← hfs]; rfl
    have hR := hP.rows
    have r3 := hR.n3
    have r2 := hR.n2
    refine ⟨_, rfl, lc_map headD trivial (by rw [List.length_map]; omega) (fun d hd P R hR => ?_) ?_⟩
    · obtain ⟨r, _, rfl⟩ := List.mem_map.mp hd
      simp only [aSeq, aAsg, aGName, aGTup, aGCons, aGNil, unTup, aVar, aC, aOp, aUn, aTest, aChain, aAnd, aOr, aNot, aIf, aAndT, aOrT, aNotT, aNil, aCons, aTup, aLst, aLstM, aDictM, aCB, aLc, aLc2, aDc, aFld, aFldSet, aMeth, aMethK, aMake, aMakeM, aPairs, aDisp, aRev, aRevM, aPutAt, aAugI, aFor, aWhile, aSeqW, aRng1, aRng2, aEnum, aNext, aNever, aBreak, aCont, aDrop, aRet, aRetN, aIfS, aPar, aCall, aYes, startA, endsA, aI, aU, aBM, aBM0, aTx, aSl, aNoPart, aPart, List.map_cons, List.map_nil, List.length_cons, List.length_nil, List.replicate_succ, List.replicate_zero, List.cons_append, List.nil_append, List.append_nil, List.set_cons_zero, List.set_cons_succ, List.getElem?_cons_zero, List.getElem?_cons_succ, Option.some.injEq, exists_eq_left', D.int.injEq, D.str.injEq, D.bl.injEq, D.ref.injEq, D.tup.injEq, D.lst.injEq, List.cons.injEq, and_true, true_and, exists_and_left, exists_eq_left, exists_eq, and_assoc, Nat.reduceAdd, Nat.reduceSub, Nat.zero_add, exists_and_right, exists_const, if_true, if_false, Bool.not_true, Bool.not_false, Bool.false_eq_true, wipeA]
      simp only [rowD, ix_t0]
      exact hR
    have hcs : (rs.map rowD).map headD = (rs.map (·.1)).map cD := by rw [List.map_map, List.map_map]; rfl
    have up := hR.up
    have cb : ∀ c ∈ rs.map (·.1), 0 ≤ c.1 ∧ c.1 ≤ 20 ∧ 0 ≤ c.2 ∧ c.2 ≤ 20 := fun c hc => by
      obtain ⟨r, hr, rfl⟩ := List.mem_map.mp hc
      exact hR.c r hr
    have cl : (rs.map (·.1)).length = rs.length := List.length_map ..
    rw [hcs]
    generalize rs.map (·.1) = cs at up cb cl
    have cnd : cs.Nodup := up.imp fun {a b} h e => by subst e; omega
    have cne : cs ≠ [] := fun e => by rw [e] at cl; simp at cl; omega
    generalize D.tup [.tup (rs.map rowD), .tup (gs.map D.str), .tup (os.map deedD), .tup [ofPy t, .tup (es.map ofPy)]] = parts
    refine ⟨by decide, by decide, ?_⟩
    refine ⟨fun j Γ G => ∃ (o8 o9 o11 o12 o13 o14 o15 : Option D) (n' : Nat), Γ = [some (.scr (ns.map D.int)), some (.ref p), some d, none, none, some parts, some (.ins C fs), some (.lst (cs.map cD)), o8, o9, none, o11, o12, o13, o14, o15, none] ∧ n' ≤ n2 + 44000 * j ∧ ADeck G p l n',
      ⟨_, _, _, _, _, _, _, n2, rfl, by omega, D3⟩, fun _ _ _ _ _ => trivial, ?_, ?_⟩
    · rintro j d' Γ G' hd' ⟨q8, q9, q11, q12, q13, q14, q15, n', rfl, hn', D4⟩
      have j8 : j < 8 := by
        have := (List.getElem?_eq_some_iff.mp hd').1
        simpa [intsD] using this
      simp only [aSeq, aAsg, aGName, aGTup, aGCons, aGNil, unTup, aVar, aC, aOp, aUn, aTest, aChain, aAnd, aOr, aNot, aIf, aAndT, aOrT, aNotT, aNil, aCons, aTup, aLst, aLstM, aDictM, aCB, aLc, aLc2, aDc, aFld, aFldSet, aMeth, aMethK, aMake, aMakeM, aPairs, aDisp, aRev, aRevM, aPutAt, aAugI, aFor, aWhile, aSeqW, aRng1, aRng2, aEnum, aNext, aNever, aBreak, aCont, aDrop, aRet, aRetN, aIfS, aPar, aCall, aYes, startA, endsA, aI, aU, aBM, aBM0, aTx, aSl, aNoPart, aPart, List.map_cons, List.map_nil, List.length_cons, List.length_nil, List.replicate_succ, List.replicate_zero, List.cons_append, List.nil_append, List.append_nil, List.set_cons_zero, List.set_cons_succ, List.getElem?_cons_zero, List.getElem?_cons_succ, Option.some.injEq, exists_eq_left', D.int.injEq, D.str.injEq, D.bl.injEq, D.ref.injEq, D.tup.injEq, D.lst.injEq, List.cons.injEq, and_true, true_and, exists_and_left, exists_eq_left, exists_eq, and_assoc, Nat.reduceAdd, Nat.reduceSub, Nat.zero_add, exists_and_right, exists_const, if_true, if_false, Bool.not_true, Bool.not_false, Bool.false_eq_true, wipeA]
      refine ⟨p, l, n', cs, rfl, D4, by omega, cnd, by omega, cb, fun its M5 n5 hC hn5 D5 K5 => ?_⟩
      refine ⟨by decide, p, l, n5, _, _, rfl, D5, by omega, .inl rfl, by simp, by simp, fun gd M6 hg D6 K6 => ?_⟩
      obtain ⟨g, rfl, g0, g3⟩ : ∃ g : Int, gd = .int g ∧ 0 ≤ g ∧ g ≤ 3 := by
        simp only [List.mem_cons, List.not_mem_nil, or_false] at hg
        rcases hg with rfl | rfl | rfl | rfl | rfl <;> exact ⟨_, rfl, by decide, by decide⟩
      refine ⟨p, l, _, cs, true, rfl, D6, by omega, cne, by omega, fun e M7 n7 hE hn7 D7 K7 => ?_⟩
      refine ⟨p, l, _, cs, true, rfl, D7, by omega, cne, by omega, fun t M8 n8 hT hn8 D8 K8 => ?_⟩
      dsimp only
      have V := vals_ok hC (g := g) (by omega)
      obtain ⟨rw1, rw2⟩ := rows_its hC
      have lits : its.length ≤ 1000 := by have := hC.few; omega
      refine ⟨by decide, repr_kept cb hC hE hT ?_⟩
      generalize hk : (PyData.tuple [e, t, .tuple (its.map itP)]).shown = kept
      refine ⟨_, _, rfl, rw1, rw2, .inr trivial, ?_⟩
      refine ⟨e, _, g, cs, true, _, rfl, hE, V, ?_⟩
      have bd : (M60.ev (envOf its) g 5 e).1.natAbs ≤ 30 ^ 32 := M60.ev_bound V.few V.giv 5 e hE
      generalize hv : (M60.ev (envOf its) g 5 e).1 = v at bd
      refine ⟨by decide, fs, e, its, g, cs, true, _, rfl, fe, lits, hE, V, fun a9 many M9 hm ha9 hat hoth => ?_⟩
      rw [hv] at hat
      have D9 := D8.other ha9 hoth
      refine none_differs hm hat (fun R hR P => ?_) ?_
      · simp only [aSeq, aAsg, aGName, aGTup, aGCons, aGNil, unTup, aVar, aC, aOp, aUn, aTest, aChain, aAnd, aOr, aNot, aIf, aAndT, aOrT, aNotT, aNil, aCons, aTup, aLst, aLstM, aDictM, aCB, aLc, aLc2, aDc, aFld, aFldSet, aMeth, aMethK, aMake, aMakeM, aPairs, aDisp, aRev, aRevM, aPutAt, aAugI, aFor, aWhile, aSeqW, aRng1, aRng2, aEnum, aNext, aNever, aBreak, aCont, aDrop, aRet, aRetN, aIfS, aPar, aCall, aYes, startA, endsA, aI, aU, aBM, aBM0, aTx, aSl, aNoPart, aPart, List.map_cons, List.map_nil, List.length_cons, List.length_nil, List.replicate_succ, List.replicate_zero, List.cons_append, List.nil_append, List.append_nil, List.set_cons_zero, List.set_cons_succ, List.getElem?_cons_zero, List.getElem?_cons_succ, Option.some.injEq, exists_eq_left', D.int.injEq, D.str.injEq, D.bl.injEq, D.ref.injEq, D.tup.injEq, D.lst.injEq, List.cons.injEq, and_true, true_and, exists_and_left, exists_eq_left, exists_eq, and_assoc, Nat.reduceAdd, Nat.reduceSub, Nat.zero_add, exists_and_right, exists_const, if_true, if_false, Bool.not_true, Bool.not_false, Bool.false_eq_true, wipeA]
        refine repr_int bd (repr_int bd (neS ?_))
        exact ⟨_, rfl, hR⟩
      refine ⟨by decide, ?_⟩
      rw [aNe_f fine_nil fine_nil, eqD_nil]
      refine ⟨_, rfl, ?_⟩
      rw [if_neg (by decide)]
      refine ⟨_, _, rfl, rw1, rw2, .inr trivial, ?_⟩
      refine ⟨t, _, g, cs, true, _, rfl, hT, V, ?_⟩
      generalize hv2 : (M60.ev (envOf its) g 5 t).2 = v2
      refine ⟨fs, t, its, g, cs, true, _, rfl, fh, lits, hT, V, fun a10 many2 M10 hm2 ha10 hat2 hoth2 => ?_⟩
      rw [hv2] at hat2
      have D10 := D9.other ha10 hoth2
      refine none_differs hm2 hat2 (fun R hR P => ?_) ?_
      · simp only [aSeq, aAsg, aGName, aGTup, aGCons, aGNil, unTup, aVar, aC, aOp, aUn, aTest, aChain, aAnd, aOr, aNot, aIf, aAndT, aOrT, aNotT, aNil, aCons, aTup, aLst, aLstM, aDictM, aCB, aLc, aLc2, aDc, aFld, aFldSet, aMeth, aMethK, aMake, aMakeM, aPairs, aDisp, aRev, aRevM, aPutAt, aAugI, aFor, aWhile, aSeqW, aRng1, aRng2, aEnum, aNext, aNever, aBreak, aCont, aDrop, aRet, aRetN, aIfS, aPar, aCall, aYes, startA, endsA, aI, aU, aBM, aBM0, aTx, aSl, aNoPart, aPart, List.map_cons, List.map_nil, List.length_cons, List.length_nil, List.replicate_succ, List.replicate_zero, List.cons_append, List.nil_append, List.append_nil, List.set_cons_zero, List.set_cons_succ, List.getElem?_cons_zero, List.getElem?_cons_succ, Option.some.injEq, exists_eq_left', D.int.injEq, D.str.injEq, D.bl.injEq, D.ref.injEq, D.tup.injEq, D.lst.injEq, List.cons.injEq, and_true, true_and, exists_and_left, exists_eq_left, exists_eq, and_assoc, Nat.reduceAdd, Nat.reduceSub, Nat.zero_add, exists_and_right, exists_const, if_true, if_false, Bool.not_true, Bool.not_false, Bool.false_eq_true, wipeA]
        refine repr_bl (repr_bl (neS ?_))
        exact ⟨_, rfl, hR⟩
      refine ⟨by decide, ?_⟩
      rw [aNe_f fine_nil fine_nil, eqD_nil]
      refine ⟨_, rfl, ?_⟩
      rw [if_neg (by decide)]
      refine ⟨by decide, repr_kept cb hC hE hT ?_⟩
      rw [hk]
      refine neS ⟨_, rfl, ?_⟩
      rw [if_neg (by decide)]
      exact ⟨n8, by omega, D10⟩
    · rintro Γ G' ⟨q8, q9, q11, q12, q13, q14, q15, n', rfl, hn', D4⟩
      rw [intsD_len] at hn'
      dsimp only
      exact ⟨⟨_, _, _, _, _, _, _, _, _, _, _, rfl⟩, n', by simp at hn'; omega, D4⟩
  · rintro Γ G ⟨o2, o5, o6, o7, o8, o9, o11, o12, o13, o14, o15, n, rfl, hn, D2⟩
    simp only [aSeq, aAsg, aGName, aGTup, aGCons, aGNil, unTup, aVar, aC, aOp, aUn, aTest, aChain, aAnd, aOr, aNot, aIf, aAndT, aOrT, aNotT, aNil, aCons, aTup, aLst, aLstM, aDictM, aCB, aLc, aLc2, aDc, aFld, aFldSet, aMeth, aMethK, aMake, aMakeM, aPairs, aDisp, aRev, aRevM, aPutAt, aAugI, aFor, aWhile, aSeqW, aRng1, aRng2, aEnum, aNext, aNever, aBreak, aCont, aDrop, aRet, aRetN, aIfS, aPar, aCall, aYes, startA, endsA, aI, aU, aBM, aBM0, aTx, aSl, aNoPart, aPart, List.map_cons, List.map_nil, List.length_cons, List.length_nil, List.replicate_succ, List.replicate_zero, List.cons_append, List.nil_append, List.append_nil, List.set_cons_zero, List.set_cons_succ, List.getElem?_cons_zero, List.getElem?_cons_succ, Option.some.injEq, exists_eq_left', D.int.injEq, D.str.injEq, D.bl.injEq, D.ref.injEq, D.tup.injEq, D.lst.injEq, List.cons.injEq, and_true, true_and, exists_and_left, exists_eq_left, exists_eq, and_assoc, Nat.reduceAdd, Nat.reduceSub, Nat.zero_add, exists_and_right, exists_const, if_true, if_false, Bool.not_true, Bool.not_false, Bool.false_eq_true, wipeA]
    refine ⟨by decide, by decide, by decide, by decide, by decide, by decide, by decide, by decide, fun a ha => ?_⟩
    refine ⟨a, _, _, _, _, rfl, put_same, three_ok, rfl, _, put_same, ?_⟩
    rw [put_put, drop_put ha]
    generalize hfs : modF [D.tup [D.tup [D.int 0, D.int 0], D.int 2, D.int 1]] [] [] (D.tup [D.tup [D.str (Str.ofString "same"), D.int 0, D.int 0], D.tup []]) = fs
    have fe : fldD "evaluate" fs = none := by rw [← hfs]; rfl
    have fh : fldD "holds" fs = none := by rw [← hfs]; rfl
    have fst : fldD "start" fs = some (.tup (threeIts.map itD)) := by rw [← hfs]; rfl
    have V : Vals' (valsD threeIts) [(0, 0)] (envOf threeIts) 0 := vals_ok three_cont (by decide)
    have fkS := fk "start" (by decide)
    refine ⟨by decide, by decide, by decide, by decide, by decide, by decide, by decide, by decide, ?_⟩
    refine ⟨⟨exps.map ofPy, fun _ => True⟩, rfl, lc_map (fun d => .int (M60.ev (envOf threeIts) 0 5 (py d)).1) trivial (by decide) (fun d hd P R hR => ?_) ?_⟩
    · obtain ⟨e, he, rfl⟩ := List.mem_map.mp hd
      have hx := exps_ex e he
      rw [(py_both 5).1 e hx] at hR
      simp only [aSeq, aAsg, aGName, aGTup, aGCons, aGNil, unTup, aVar, aC, aOp, aUn, aTest, aChain, aAnd, aOr, aNot, aIf, aAndT, aOrT, aNotT, aNil, aCons, aTup, aLst, aLstM, aDictM, aCB, aLc, aLc2, aDc, aFld, aFldSet, aMeth, aMethK, aMake, aMakeM, aPairs, aDisp, aRev, aRevM, aPutAt, aAugI, aFor, aWhile, aSeqW, aRng1, aRng2, aEnum, aNext, aNever, aBreak, aCont, aDrop, aRet, aRetN, aIfS, aPar, aCall, aYes, startA, endsA, aI, aU, aBM, aBM0, aTx, aSl, aNoPart, aPart, List.map_cons, List.map_nil, List.length_cons, List.length_nil, List.replicate_succ, List.replicate_zero, List.cons_append, List.nil_append, List.append_nil, List.set_cons_zero, List.set_cons_succ, List.getElem?_cons_zero, List.getElem?_cons_succ, Option.some.injEq, exists_eq_left', D.int.injEq, D.str.injEq, D.bl.injEq, D.ref.injEq, D.tup.injEq, D.lst.injEq, List.cons.injEq, and_true, true_and, exists_and_left, exists_eq_left, exists_eq, and_assoc, Nat.reduceAdd, Nat.reduceSub, Nat.zero_add, exists_and_right, exists_const, if_true, if_false, Bool.not_true, Bool.not_false, Bool.false_eq_true, wipeA]
      exact ⟨fs, rfl, fe, C, fs, rfl, fkS, _, fst, _, e, threeIts, 0, [(0, 0)], true, _, rfl, by decide, hx, V, hR⟩
    have e4 : (exps.map ofPy).map (fun d => D.int (M60.ev (envOf threeIts) 0 5 (py d)).1) = [.int 2, .int (-20), .int 5, .int 400] := by
      have h : (exps.map ofPy).map (fun d => D.int (M60.ev (envOf threeIts) 0 5 (py d)).1) = (exps.map fun e => (M60.ev (envOf threeIts) 0 5 e).1).map D.int := by
        rw [List.map_map, List.map_map]
        refine List.map_congr_left fun e he => ?_
        show D.int (M60.ev (envOf threeIts) 0 5 (py (ofPy e))).1 = D.int (M60.ev (envOf threeIts) 0 5 e).1
        rw [(py_both 5).1 e (exps_ex e he)]
      rw [h, exps_ev]
      rfl
    have f4 : Fine (.lst [.int 2, .int (-20), .int 5, .int 400]) := ⟨rfl, rfl, rfl, by simp [py, pyL, PyData.depth, PyData.depthAll]⟩
    refine ⟨by decide, ?_⟩
    show aEq true (.lst ((exps.map ofPy).map _)) _ _ _
    rw [e4, aNe_f f4 f4, show eqD (.lst [.int 2, .int (-20), .int 5, .int 400]) (.lst [.int 2, .int (-20), .int 5, .int 400]) = true by decide +kernel]
    refine ⟨_, rfl, ?_⟩
    rw [if_neg (by decide)]
    refine ⟨fs, rfl, fh, by decide, by decide, by decide, by decide, C, fs, rfl, fkS, _, fst, ?_⟩
    refine ⟨_, endT, threeIts, 0, [(0, 0)], true, envOf threeIts, rfl, by decide, endT_te, V, ?_⟩
    rw [endT_ev]
    exact ⟨true, rfl, rfl, k _⟩
end
end E60
namespace E60
open PySem PySem.Spec PyProof.Rows L2 Lay LA
open M60 (Ex Te ev)
def sp_law (K : PySem.W.Frag) : Sp := spA K aLaw
theorem imm_all {H : Hp} : imm (fun _ => False) noM H = H := by
  funext b
  unfold imm noM
  rw [if_neg (by simp)]
theorem law_in (K : PySem.W.Frag) (H : Hp) (a : Addr) (ns : List Int) (hl : ns.length ≤ 63) (_ : Only H) (hS : SqL K H a (ns.map V.int)) : sp_law K [.ref a] H (fun v _ => v = .bl true) fun _ _ _ => False := by
  refine ⟨fun _ => False, noM, [.scr (ns.map D.int)], fun d _ => d = .bl true, ⟨fun _ _ h => (nomatch h), fun _ h => h.elim, fun _ _ => rfl⟩, ?_, ⟨ns, rfl, hl, fun _ => rfl⟩, ?_⟩
  · rw [imm_all]
    refine .cons (.scr hS ?_) .nil
    clear hS hl
    induction ns with
    | nil => exact .nil
    | cons n r ih => exact .cons (.int n) ih
  · intro v d H' M' _ m r q
    subst q
    cases r
    rfl

theorem all_mk {l : PySem.W.OpenLaw} {w : World} {K : PySem.W.Frag} {h : Heap} {mg : Str → Option Value} {fa : Addr} (X : K.In h) (G : h.Ns mainGlobals mg)
    (hfa : mg "law" = some (.ref fa))
    {f_is_int : Addr} {od_is_int an_is_int : Option Addr} {sl_is_int : Array (Option Value)} {oc_is_int kV_is_int dc_is_int pm_is_int cd_is_int ct_is_int : Value}
    (a_is_int : PySem.W.nsIn K mainGlobals "is_int" = some (some (.ref f_is_int))) (l_is_int : K.lookup f_is_int = some ⟨oc_is_int, od_is_int, .func (PySem.W.fnOf "is_int" "is_int" (defArgs s_is_int) (defBody s_is_int) (defScope s_is_int) .none kV_is_int dc_is_int pm_is_int an_is_int cd_is_int ct_is_int), sl_is_int⟩) (c_is_int : PySem.W.codeIn K cd_is_int "is_int" = true) (k_is_int : PySem.W.keepIn K (.ref f_is_int) = true)
    {f_is_pair : Addr} {od_is_pair an_is_pair : Option Addr} {sl_is_pair : Array (Option Value)} {oc_is_pair kV_is_pair dc_is_pair pm_is_pair cd_is_pair ct_is_pair : Value}
    (a_is_pair : PySem.W.nsIn K mainGlobals "is_pair" = some (some (.ref f_is_pair))) (l_is_pair : K.lookup f_is_pair = some ⟨oc_is_pair, od_is_pair, .func (PySem.W.fnOf "is_pair" "is_pair" (defArgs s_is_pair) (defBody s_is_pair) (defScope s_is_pair) .none kV_is_pair dc_is_pair pm_is_pair an_is_pair cd_is_pair ct_is_pair), sl_is_pair⟩) (c_is_pair : PySem.W.codeIn K cd_is_pair "is_pair" = true) (k_is_pair : PySem.W.keepIn K (.ref f_is_pair) = true)
    {f_is_cell : Addr} {od_is_cell an_is_cell : Option Addr} {sl_is_cell : Array (Option Value)} {oc_is_cell kV_is_cell dc_is_cell pm_is_cell cd_is_cell ct_is_cell : Value}
    (a_is_cell : PySem.W.nsIn K mainGlobals "is_cell" = some (some (.ref f_is_cell))) (l_is_cell : K.lookup f_is_cell = some ⟨oc_is_cell, od_is_cell, .func (PySem.W.fnOf "is_cell" "is_cell" (defArgs s_is_cell) (defBody s_is_cell) (defScope s_is_cell) .none kV_is_cell dc_is_cell pm_is_cell an_is_cell cd_is_cell ct_is_cell), sl_is_cell⟩) (c_is_cell : PySem.W.codeIn K cd_is_cell "is_cell" = true) (k_is_cell : PySem.W.keepIn K (.ref f_is_cell) = true)
    {f_is_name : Addr} {od_is_name an_is_name : Option Addr} {sl_is_name : Array (Option Value)} {oc_is_name kV_is_name dc_is_name pm_is_name cd_is_name ct_is_name : Value}
    (a_is_name : PySem.W.nsIn K mainGlobals "is_name" = some (some (.ref f_is_name))) (l_is_name : K.lookup f_is_name = some ⟨oc_is_name, od_is_name, .func (PySem.W.fnOf "is_name" "is_name" (defArgs s_is_name) (defBody s_is_name) (defScope s_is_name) .none kV_is_name dc_is_name pm_is_name an_is_name cd_is_name ct_is_name), sl_is_name⟩) (c_is_name : PySem.W.codeIn K cd_is_name "is_name" = true) (k_is_name : PySem.W.keepIn K (.ref f_is_name) = true)
    {f_ascends : Addr} {od_ascends an_ascends : Option Addr} {sl_ascends : Array (Option Value)} {oc_ascends kV_ascends dc_ascends pm_ascends cd_ascends ct_ascends : Value}
    (a_ascends : PySem.W.nsIn K mainGlobals "ascends" = some (some (.ref f_ascends))) (l_ascends : K.lookup f_ascends = some ⟨oc_ascends, od_ascends, .func (PySem.W.fnOf "ascends" "ascends" (defArgs s_ascends) (defBody s_ascends) (defScope s_ascends) .none kV_ascends dc_ascends pm_ascends an_ascends cd_ascends ct_ascends), sl_ascends⟩) (c_ascends : PySem.W.codeIn K cd_ascends "ascends" = true) (k_ascends : PySem.W.keepIn K (.ref f_ascends) = true)
    {f_begins_with_word : Addr} {od_begins_with_word an_begins_with_word : Option Addr} {sl_begins_with_word : Array (Option Value)} {oc_begins_with_word kV_begins_with_word dc_begins_with_word pm_begins_with_word cd_begins_with_word ct_begins_with_word : Value}
    (a_begins_with_word : PySem.W.nsIn K mainGlobals "begins_with_word" = some (some (.ref f_begins_with_word))) (l_begins_with_word : K.lookup f_begins_with_word = some ⟨oc_begins_with_word, od_begins_with_word, .func (PySem.W.fnOf "begins_with_word" "begins_with_word" (defArgs s_begins_with_word) (defBody s_begins_with_word) (defScope s_begins_with_word) .none kV_begins_with_word dc_begins_with_word pm_begins_with_word an_begins_with_word cd_begins_with_word ct_begins_with_word), sl_begins_with_word⟩) (c_begins_with_word : PySem.W.codeIn K cd_begins_with_word "begins_with_word" = true) (k_begins_with_word : PySem.W.keepIn K (.ref f_begins_with_word) = true)
    {f_is_cell_in : Addr} {od_is_cell_in an_is_cell_in : Option Addr} {sl_is_cell_in : Array (Option Value)} {oc_is_cell_in kV_is_cell_in dc_is_cell_in pm_is_cell_in cd_is_cell_in ct_is_cell_in : Value}
    (a_is_cell_in : PySem.W.nsIn K mainGlobals "is_cell_in" = some (some (.ref f_is_cell_in))) (l_is_cell_in : K.lookup f_is_cell_in = some ⟨oc_is_cell_in, od_is_cell_in, .func (PySem.W.fnOf "is_cell_in" "is_cell_in" (defArgs s_is_cell_in) (defBody s_is_cell_in) (defScope s_is_cell_in) .none kV_is_cell_in dc_is_cell_in pm_is_cell_in an_is_cell_in cd_is_cell_in ct_is_cell_in), sl_is_cell_in⟩) (c_is_cell_in : PySem.W.codeIn K cd_is_cell_in "is_cell_in" = true) (k_is_cell_in : PySem.W.keepIn K (.ref f_is_cell_in) = true)
    {f_is_expression : Addr} {od_is_expression an_is_expression : Option Addr} {sl_is_expression : Array (Option Value)} {oc_is_expression kV_is_expression dc_is_expression pm_is_expression cd_is_expression ct_is_expression : Value}
    (a_is_expression : PySem.W.nsIn K mainGlobals "is_expression" = some (some (.ref f_is_expression))) (l_is_expression : K.lookup f_is_expression = some ⟨oc_is_expression, od_is_expression, .func (PySem.W.fnOf "is_expression" "is_expression" (defArgs s_is_expression) (defBody s_is_expression) (defScope s_is_expression) .none kV_is_expression dc_is_expression pm_is_expression an_is_expression cd_is_expression ct_is_expression), sl_is_expression⟩) (c_is_expression : PySem.W.codeIn K cd_is_expression "is_expression" = true) (k_is_expression : PySem.W.keepIn K (.ref f_is_expression) = true)
    {f_is_test : Addr} {od_is_test an_is_test : Option Addr} {sl_is_test : Array (Option Value)} {oc_is_test kV_is_test dc_is_test pm_is_test cd_is_test ct_is_test : Value}
    (a_is_test : PySem.W.nsIn K mainGlobals "is_test" = some (some (.ref f_is_test))) (l_is_test : K.lookup f_is_test = some ⟨oc_is_test, od_is_test, .func (PySem.W.fnOf "is_test" "is_test" (defArgs s_is_test) (defBody s_is_test) (defScope s_is_test) .none kV_is_test dc_is_test pm_is_test an_is_test cd_is_test ct_is_test), sl_is_test⟩) (c_is_test : PySem.W.codeIn K cd_is_test "is_test" = true) (k_is_test : PySem.W.keepIn K (.ref f_is_test) = true)
    {f_are_sized_cells : Addr} {od_are_sized_cells an_are_sized_cells : Option Addr} {sl_are_sized_cells : Array (Option Value)} {oc_are_sized_cells kV_are_sized_cells dc_are_sized_cells pm_are_sized_cells cd_are_sized_cells ct_are_sized_cells : Value}
    (a_are_sized_cells : PySem.W.nsIn K mainGlobals "are_sized_cells" = some (some (.ref f_are_sized_cells))) (l_are_sized_cells : K.lookup f_are_sized_cells = some ⟨oc_are_sized_cells, od_are_sized_cells, .func (PySem.W.fnOf "are_sized_cells" "are_sized_cells" (defArgs s_are_sized_cells) (defBody s_are_sized_cells) (defScope s_are_sized_cells) .none kV_are_sized_cells dc_are_sized_cells pm_are_sized_cells an_are_sized_cells cd_are_sized_cells ct_are_sized_cells), sl_are_sized_cells⟩) (c_are_sized_cells : PySem.W.codeIn K cd_are_sized_cells "are_sized_cells" = true) (k_are_sized_cells : PySem.W.keepIn K (.ref f_are_sized_cells) = true)
    {f_are_handles : Addr} {od_are_handles an_are_handles : Option Addr} {sl_are_handles : Array (Option Value)} {oc_are_handles kV_are_handles dc_are_handles pm_are_handles cd_are_handles ct_are_handles : Value}
    (a_are_handles : PySem.W.nsIn K mainGlobals "are_handles" = some (some (.ref f_are_handles))) (l_are_handles : K.lookup f_are_handles = some ⟨oc_are_handles, od_are_handles, .func (PySem.W.fnOf "are_handles" "are_handles" (defArgs s_are_handles) (defBody s_are_handles) (defScope s_are_handles) .none kV_are_handles dc_are_handles pm_are_handles an_are_handles cd_are_handles ct_are_handles), sl_are_handles⟩) (c_are_handles : PySem.W.codeIn K cd_are_handles "are_handles" = true) (k_are_handles : PySem.W.keepIn K (.ref f_are_handles) = true)
    {f_are_operations : Addr} {od_are_operations an_are_operations : Option Addr} {sl_are_operations : Array (Option Value)} {oc_are_operations kV_are_operations dc_are_operations pm_are_operations cd_are_operations ct_are_operations : Value}
    (a_are_operations : PySem.W.nsIn K mainGlobals "are_operations" = some (some (.ref f_are_operations))) (l_are_operations : K.lookup f_are_operations = some ⟨oc_are_operations, od_are_operations, .func (PySem.W.fnOf "are_operations" "are_operations" (defArgs s_are_operations) (defBody s_are_operations) (defScope s_are_operations) .none kV_are_operations dc_are_operations pm_are_operations an_are_operations cd_are_operations ct_are_operations), sl_are_operations⟩) (c_are_operations : PySem.W.codeIn K cd_are_operations "are_operations" = true) (k_are_operations : PySem.W.keepIn K (.ref f_are_operations) = true)
    {f_are_handles_of : Addr} {od_are_handles_of an_are_handles_of : Option Addr} {sl_are_handles_of : Array (Option Value)} {oc_are_handles_of kV_are_handles_of dc_are_handles_of pm_are_handles_of cd_are_handles_of ct_are_handles_of : Value}
    (a_are_handles_of : PySem.W.nsIn K mainGlobals "are_handles_of" = some (some (.ref f_are_handles_of))) (l_are_handles_of : K.lookup f_are_handles_of = some ⟨oc_are_handles_of, od_are_handles_of, .func (PySem.W.fnOf "are_handles_of" "are_handles_of" (defArgs s_are_handles_of) (defBody s_are_handles_of) (defScope s_are_handles_of) .none kV_are_handles_of dc_are_handles_of pm_are_handles_of an_are_handles_of cd_are_handles_of ct_are_handles_of), sl_are_handles_of⟩) (c_are_handles_of : PySem.W.codeIn K cd_are_handles_of "are_handles_of" = true) (k_are_handles_of : PySem.W.keepIn K (.ref f_are_handles_of) = true)
    {f_are_put_writes : Addr} {od_are_put_writes an_are_put_writes : Option Addr} {sl_are_put_writes : Array (Option Value)} {oc_are_put_writes kV_are_put_writes dc_are_put_writes pm_are_put_writes cd_are_put_writes ct_are_put_writes : Value}
    (a_are_put_writes : PySem.W.nsIn K mainGlobals "are_put_writes" = some (some (.ref f_are_put_writes))) (l_are_put_writes : K.lookup f_are_put_writes = some ⟨oc_are_put_writes, od_are_put_writes, .func (PySem.W.fnOf "are_put_writes" "are_put_writes" (defArgs s_are_put_writes) (defBody s_are_put_writes) (defScope s_are_put_writes) .none kV_are_put_writes dc_are_put_writes pm_are_put_writes an_are_put_writes cd_are_put_writes ct_are_put_writes), sl_are_put_writes⟩) (c_are_put_writes : PySem.W.codeIn K cd_are_put_writes "are_put_writes" = true) (k_are_put_writes : PySem.W.keepIn K (.ref f_are_put_writes) = true)
    {f_is_put : Addr} {od_is_put an_is_put : Option Addr} {sl_is_put : Array (Option Value)} {oc_is_put kV_is_put dc_is_put pm_is_put cd_is_put ct_is_put : Value}
    (a_is_put : PySem.W.nsIn K mainGlobals "is_put" = some (some (.ref f_is_put))) (l_is_put : K.lookup f_is_put = some ⟨oc_is_put, od_is_put, .func (PySem.W.fnOf "is_put" "is_put" (defArgs s_is_put) (defBody s_is_put) (defScope s_is_put) .none kV_is_put dc_is_put pm_is_put an_is_put cd_is_put ct_is_put), sl_is_put⟩) (c_is_put : PySem.W.codeIn K cd_is_put "is_put" = true) (k_is_put : PySem.W.keepIn K (.ref f_is_put) = true)
    {f_is_statement : Addr} {od_is_statement an_is_statement : Option Addr} {sl_is_statement : Array (Option Value)} {oc_is_statement kV_is_statement dc_is_statement pm_is_statement cd_is_statement ct_is_statement : Value}
    (a_is_statement : PySem.W.nsIn K mainGlobals "is_statement" = some (some (.ref f_is_statement))) (l_is_statement : K.lookup f_is_statement = some ⟨oc_is_statement, od_is_statement, .func (PySem.W.fnOf "is_statement" "is_statement" (defArgs s_is_statement) (defBody s_is_statement) (defScope s_is_statement) .none kV_is_statement dc_is_statement pm_is_statement an_is_statement cd_is_statement ct_is_statement), sl_is_statement⟩) (c_is_statement : PySem.W.codeIn K cd_is_statement "is_statement" = true) (k_is_statement : PySem.W.keepIn K (.ref f_is_statement) = true)
    {f_is_body : Addr} {od_is_body an_is_body : Option Addr} {sl_is_body : Array (Option Value)} {oc_is_body kV_is_body dc_is_body pm_is_body cd_is_body ct_is_body : Value}
    (a_is_body : PySem.W.nsIn K mainGlobals "is_body" = some (some (.ref f_is_body))) (l_is_body : K.lookup f_is_body = some ⟨oc_is_body, od_is_body, .func (PySem.W.fnOf "is_body" "is_body" (defArgs s_is_body) (defBody s_is_body) (defScope s_is_body) .none kV_is_body dc_is_body pm_is_body an_is_body cd_is_body ct_is_body), sl_is_body⟩) (c_is_body : PySem.W.codeIn K cd_is_body "is_body" = true) (k_is_body : PySem.W.keepIn K (.ref f_is_body) = true)
    {f_is_promise : Addr} {od_is_promise an_is_promise : Option Addr} {sl_is_promise : Array (Option Value)} {oc_is_promise kV_is_promise dc_is_promise pm_is_promise cd_is_promise ct_is_promise : Value}
    (a_is_promise : PySem.W.nsIn K mainGlobals "is_promise" = some (some (.ref f_is_promise))) (l_is_promise : K.lookup f_is_promise = some ⟨oc_is_promise, od_is_promise, .func (PySem.W.fnOf "is_promise" "is_promise" (defArgs s_is_promise) (defBody s_is_promise) (defScope s_is_promise) .none kV_is_promise dc_is_promise pm_is_promise an_is_promise cd_is_promise ct_is_promise), sl_is_promise⟩) (c_is_promise : PySem.W.codeIn K cd_is_promise "is_promise" = true) (k_is_promise : PySem.W.keepIn K (.ref f_is_promise) = true)
    {f_check_module : Addr} {od_check_module an_check_module : Option Addr} {sl_check_module : Array (Option Value)} {oc_check_module kV_check_module dc_check_module pm_check_module cd_check_module ct_check_module : Value}
    (a_check_module : PySem.W.nsIn K mainGlobals "check_module" = some (some (.ref f_check_module))) (l_check_module : K.lookup f_check_module = some ⟨oc_check_module, od_check_module, .func (PySem.W.fnOf "check_module" "check_module" (defArgs s_check_module) (defBody s_check_module) (defScope s_check_module) .none kV_check_module dc_check_module pm_check_module an_check_module cd_check_module ct_check_module), sl_check_module⟩) (c_check_module : PySem.W.codeIn K cd_check_module "check_module" = true) (k_check_module : PySem.W.keepIn K (.ref f_check_module) = true)
    {f_value_of : Addr} {od_value_of an_value_of : Option Addr} {sl_value_of : Array (Option Value)} {oc_value_of kV_value_of dc_value_of pm_value_of cd_value_of ct_value_of : Value}
    (a_value_of : PySem.W.nsIn K mainGlobals "value_of" = some (some (.ref f_value_of))) (l_value_of : K.lookup f_value_of = some ⟨oc_value_of, od_value_of, .func (PySem.W.fnOf "value_of" "value_of" (defArgs s_value_of) (defBody s_value_of) (defScope s_value_of) .none kV_value_of dc_value_of pm_value_of an_value_of cd_value_of ct_value_of), sl_value_of⟩) (c_value_of : PySem.W.codeIn K cd_value_of "value_of" = true) (k_value_of : PySem.W.keepIn K (.ref f_value_of) = true)
    {f_truth_of : Addr} {od_truth_of an_truth_of : Option Addr} {sl_truth_of : Array (Option Value)} {oc_truth_of kV_truth_of dc_truth_of pm_truth_of cd_truth_of ct_truth_of : Value}
    (a_truth_of : PySem.W.nsIn K mainGlobals "truth_of" = some (some (.ref f_truth_of))) (l_truth_of : K.lookup f_truth_of = some ⟨oc_truth_of, od_truth_of, .func (PySem.W.fnOf "truth_of" "truth_of" (defArgs s_truth_of) (defBody s_truth_of) (defScope s_truth_of) .none kV_truth_of dc_truth_of pm_truth_of an_truth_of cd_truth_of ct_truth_of), sl_truth_of⟩) (c_truth_of : PySem.W.codeIn K cd_truth_of "truth_of" = true) (k_truth_of : PySem.W.keepIn K (.ref f_truth_of) = true)
    {f_law_deck : Addr} {od_law_deck an_law_deck : Option Addr} {sl_law_deck : Array (Option Value)} {oc_law_deck kV_law_deck dc_law_deck pm_law_deck cd_law_deck ct_law_deck : Value}
    (a_law_deck : PySem.W.nsIn K mainGlobals "_law_deck" = some (some (.ref f_law_deck))) (l_law_deck : K.lookup f_law_deck = some ⟨oc_law_deck, od_law_deck, .func (PySem.W.fnOf "_law_deck" "_law_deck" (defArgs s_law_deck) (defBody s_law_deck) (defScope s_law_deck) .none kV_law_deck dc_law_deck pm_law_deck an_law_deck cd_law_deck ct_law_deck), sl_law_deck⟩) (c_law_deck : PySem.W.codeIn K cd_law_deck "_law_deck" = true) (k_law_deck : PySem.W.keepIn K (.ref f_law_deck) = true)
    {f_law_draw : Addr} {od_law_draw an_law_draw : Option Addr} {sl_law_draw : Array (Option Value)} {oc_law_draw kV_law_draw dc_law_draw pm_law_draw cd_law_draw ct_law_draw : Value}
    (a_law_draw : PySem.W.nsIn K mainGlobals "_law_draw" = some (some (.ref f_law_draw))) (l_law_draw : K.lookup f_law_draw = some ⟨oc_law_draw, od_law_draw, .func (PySem.W.fnOf "_law_draw" "_law_draw" (defArgs s_law_draw) (defBody s_law_draw) (defScope s_law_draw) .none kV_law_draw dc_law_draw pm_law_draw an_law_draw cd_law_draw ct_law_draw), sl_law_draw⟩) (c_law_draw : PySem.W.codeIn K cd_law_draw "_law_draw" = true) (k_law_draw : PySem.W.keepIn K (.ref f_law_draw) = true)
    {f_law_pick : Addr} {od_law_pick an_law_pick : Option Addr} {sl_law_pick : Array (Option Value)} {oc_law_pick kV_law_pick dc_law_pick pm_law_pick cd_law_pick ct_law_pick : Value}
    (a_law_pick : PySem.W.nsIn K mainGlobals "_law_pick" = some (some (.ref f_law_pick))) (l_law_pick : K.lookup f_law_pick = some ⟨oc_law_pick, od_law_pick, .func (PySem.W.fnOf "_law_pick" "_law_pick" (defArgs s_law_pick) (defBody s_law_pick) (defScope s_law_pick) .none kV_law_pick dc_law_pick pm_law_pick an_law_pick cd_law_pick ct_law_pick), sl_law_pick⟩) (c_law_pick : PySem.W.codeIn K cd_law_pick "_law_pick" = true) (k_law_pick : PySem.W.keepIn K (.ref f_law_pick) = true)
    {f_law_words : Addr} {od_law_words an_law_words : Option Addr} {sl_law_words : Array (Option Value)} {oc_law_words kV_law_words dc_law_words pm_law_words cd_law_words ct_law_words : Value}
    (a_law_words : PySem.W.nsIn K mainGlobals "_law_words" = some (some (.ref f_law_words))) (l_law_words : K.lookup f_law_words = some ⟨oc_law_words, od_law_words, .func (PySem.W.fnOf "_law_words" "_law_words" (defArgs s_law_words) (defBody s_law_words) (defScope s_law_words) .none kV_law_words dc_law_words pm_law_words an_law_words cd_law_words ct_law_words), sl_law_words⟩) (c_law_words : PySem.W.codeIn K cd_law_words "_law_words" = true) (k_law_words : PySem.W.keepIn K (.ref f_law_words) = true)
    {f_law_cells : Addr} {od_law_cells an_law_cells : Option Addr} {sl_law_cells : Array (Option Value)} {oc_law_cells kV_law_cells dc_law_cells pm_law_cells cd_law_cells ct_law_cells : Value}
    (a_law_cells : PySem.W.nsIn K mainGlobals "_law_cells" = some (some (.ref f_law_cells))) (l_law_cells : K.lookup f_law_cells = some ⟨oc_law_cells, od_law_cells, .func (PySem.W.fnOf "_law_cells" "_law_cells" (defArgs s_law_cells) (defBody s_law_cells) (defScope s_law_cells) .none kV_law_cells dc_law_cells pm_law_cells an_law_cells cd_law_cells ct_law_cells), sl_law_cells⟩) (c_law_cells : PySem.W.codeIn K cd_law_cells "_law_cells" = true) (k_law_cells : PySem.W.keepIn K (.ref f_law_cells) = true)
    {f_law_expression : Addr} {od_law_expression an_law_expression : Option Addr} {sl_law_expression : Array (Option Value)} {oc_law_expression kV_law_expression dc_law_expression pm_law_expression cd_law_expression ct_law_expression : Value}
    (a_law_expression : PySem.W.nsIn K mainGlobals "_law_expression" = some (some (.ref f_law_expression))) (l_law_expression : K.lookup f_law_expression = some ⟨oc_law_expression, od_law_expression, .func (PySem.W.fnOf "_law_expression" "_law_expression" (defArgs s_law_expression) (defBody s_law_expression) (defScope s_law_expression) .none kV_law_expression dc_law_expression pm_law_expression an_law_expression cd_law_expression ct_law_expression), sl_law_expression⟩) (c_law_expression : PySem.W.codeIn K cd_law_expression "_law_expression" = true) (k_law_expression : PySem.W.keepIn K (.ref f_law_expression) = true)
    {f_law_test : Addr} {od_law_test an_law_test : Option Addr} {sl_law_test : Array (Option Value)} {oc_law_test kV_law_test dc_law_test pm_law_test cd_law_test ct_law_test : Value}
    (a_law_test : PySem.W.nsIn K mainGlobals "_law_test" = some (some (.ref f_law_test))) (l_law_test : K.lookup f_law_test = some ⟨oc_law_test, od_law_test, .func (PySem.W.fnOf "_law_test" "_law_test" (defArgs s_law_test) (defBody s_law_test) (defScope s_law_test) .none kV_law_test dc_law_test pm_law_test an_law_test cd_law_test ct_law_test), sl_law_test⟩) (c_law_test : PySem.W.codeIn K cd_law_test "_law_test" = true) (k_law_test : PySem.W.keepIn K (.ref f_law_test) = true)
    {f_law_put_drawn : Addr} {od_law_put_drawn an_law_put_drawn : Option Addr} {sl_law_put_drawn : Array (Option Value)} {oc_law_put_drawn kV_law_put_drawn dc_law_put_drawn pm_law_put_drawn cd_law_put_drawn ct_law_put_drawn : Value}
    (a_law_put_drawn : PySem.W.nsIn K mainGlobals "_law_put_drawn" = some (some (.ref f_law_put_drawn))) (l_law_put_drawn : K.lookup f_law_put_drawn = some ⟨oc_law_put_drawn, od_law_put_drawn, .func (PySem.W.fnOf "_law_put_drawn" "_law_put_drawn" (defArgs s_law_put_drawn) (defBody s_law_put_drawn) (defScope s_law_put_drawn) .none kV_law_put_drawn dc_law_put_drawn pm_law_put_drawn an_law_put_drawn cd_law_put_drawn ct_law_put_drawn), sl_law_put_drawn⟩) (c_law_put_drawn : PySem.W.codeIn K cd_law_put_drawn "_law_put_drawn" = true) (k_law_put_drawn : PySem.W.keepIn K (.ref f_law_put_drawn) = true)
    {f_law_body : Addr} {od_law_body an_law_body : Option Addr} {sl_law_body : Array (Option Value)} {oc_law_body kV_law_body dc_law_body pm_law_body cd_law_body ct_law_body : Value}
    (a_law_body : PySem.W.nsIn K mainGlobals "_law_body" = some (some (.ref f_law_body))) (l_law_body : K.lookup f_law_body = some ⟨oc_law_body, od_law_body, .func (PySem.W.fnOf "_law_body" "_law_body" (defArgs s_law_body) (defBody s_law_body) (defScope s_law_body) .none kV_law_body dc_law_body pm_law_body an_law_body cd_law_body ct_law_body), sl_law_body⟩) (c_law_body : PySem.W.codeIn K cd_law_body "_law_body" = true) (k_law_body : PySem.W.keepIn K (.ref f_law_body) = true)
    {f_law_parts : Addr} {od_law_parts an_law_parts : Option Addr} {sl_law_parts : Array (Option Value)} {oc_law_parts kV_law_parts dc_law_parts pm_law_parts cd_law_parts ct_law_parts : Value}
    (a_law_parts : PySem.W.nsIn K mainGlobals "_law_parts" = some (some (.ref f_law_parts))) (l_law_parts : K.lookup f_law_parts = some ⟨oc_law_parts, od_law_parts, .func (PySem.W.fnOf "_law_parts" "_law_parts" (defArgs s_law_parts) (defBody s_law_parts) (defScope s_law_parts) .none kV_law_parts dc_law_parts pm_law_parts an_law_parts cd_law_parts ct_law_parts), sl_law_parts⟩) (c_law_parts : PySem.W.codeIn K cd_law_parts "_law_parts" = true) (k_law_parts : PySem.W.keepIn K (.ref f_law_parts) = true)
    {f_law_value : Addr} {od_law_value an_law_value : Option Addr} {sl_law_value : Array (Option Value)} {oc_law_value kV_law_value dc_law_value pm_law_value cd_law_value ct_law_value : Value}
    (a_law_value : PySem.W.nsIn K mainGlobals "_law_value" = some (some (.ref f_law_value))) (l_law_value : K.lookup f_law_value = some ⟨oc_law_value, od_law_value, .func (PySem.W.fnOf "_law_value" "_law_value" (defArgs s_law_value) (defBody s_law_value) (defScope s_law_value) .none kV_law_value dc_law_value pm_law_value an_law_value cd_law_value ct_law_value), sl_law_value⟩) (c_law_value : PySem.W.codeIn K cd_law_value "_law_value" = true) (k_law_value : PySem.W.keepIn K (.ref f_law_value) = true)
    {f_law_so : Addr} {od_law_so an_law_so : Option Addr} {sl_law_so : Array (Option Value)} {oc_law_so kV_law_so dc_law_so pm_law_so cd_law_so ct_law_so : Value}
    (a_law_so : PySem.W.nsIn K mainGlobals "_law_so" = some (some (.ref f_law_so))) (l_law_so : K.lookup f_law_so = some ⟨oc_law_so, od_law_so, .func (PySem.W.fnOf "_law_so" "_law_so" (defArgs s_law_so) (defBody s_law_so) (defScope s_law_so) .none kV_law_so dc_law_so pm_law_so an_law_so cd_law_so ct_law_so), sl_law_so⟩) (c_law_so : PySem.W.codeIn K cd_law_so "_law_so" = true) (k_law_so : PySem.W.keepIn K (.ref f_law_so) = true)
    {f_law_content : Addr} {od_law_content an_law_content : Option Addr} {sl_law_content : Array (Option Value)} {oc_law_content kV_law_content dc_law_content pm_law_content cd_law_content ct_law_content : Value}
    (a_law_content : PySem.W.nsIn K mainGlobals "_law_content" = some (some (.ref f_law_content))) (l_law_content : K.lookup f_law_content = some ⟨oc_law_content, od_law_content, .func (PySem.W.fnOf "_law_content" "_law_content" (defArgs s_law_content) (defBody s_law_content) (defScope s_law_content) .none kV_law_content dc_law_content pm_law_content an_law_content cd_law_content ct_law_content), sl_law_content⟩) (c_law_content : PySem.W.codeIn K cd_law_content "_law_content" = true) (k_law_content : PySem.W.keepIn K (.ref f_law_content) = true)
    {f_law_told : Addr} {od_law_told an_law_told : Option Addr} {sl_law_told : Array (Option Value)} {oc_law_told kV_law_told dc_law_told pm_law_told cd_law_told ct_law_told : Value}
    (a_law_told : PySem.W.nsIn K mainGlobals "_law_told" = some (some (.ref f_law_told))) (l_law_told : K.lookup f_law_told = some ⟨oc_law_told, od_law_told, .func (PySem.W.fnOf "_law_told" "_law_told" (defArgs s_law_told) (defBody s_law_told) (defScope s_law_told) .none kV_law_told dc_law_told pm_law_told an_law_told cd_law_told ct_law_told), sl_law_told⟩) (c_law_told : PySem.W.codeIn K cd_law_told "_law_told" = true) (k_law_told : PySem.W.keepIn K (.ref f_law_told) = true)
    {f_law_said : Addr} {od_law_said an_law_said : Option Addr} {sl_law_said : Array (Option Value)} {oc_law_said kV_law_said dc_law_said pm_law_said cd_law_said ct_law_said : Value}
    (a_law_said : PySem.W.nsIn K mainGlobals "_law_said" = some (some (.ref f_law_said))) (l_law_said : K.lookup f_law_said = some ⟨oc_law_said, od_law_said, .func (PySem.W.fnOf "_law_said" "_law_said" (defArgs s_law_said) (defBody s_law_said) (defScope s_law_said) .none kV_law_said dc_law_said pm_law_said an_law_said cd_law_said ct_law_said), sl_law_said⟩) (c_law_said : PySem.W.codeIn K cd_law_said "_law_said" = true) (k_law_said : PySem.W.keepIn K (.ref f_law_said) = true)
    {f_law : Addr} {od_law an_law : Option Addr} {sl_law : Array (Option Value)} {oc_law kV_law dc_law pm_law cd_law ct_law : Value}
    (a_law : PySem.W.nsIn K mainGlobals "law" = some (some (.ref f_law))) (l_law : K.lookup f_law = some ⟨oc_law, od_law, .func (PySem.W.fnOf "law" "law" (defArgs s_law) (defBody s_law) (defScope s_law) .none kV_law dc_law pm_law an_law cd_law ct_law), sl_law⟩) (c_law : PySem.W.codeIn K cd_law "law" = true) (k_law : PySem.W.keepIn K (.ref f_law) = true)
    {C_Module : Addr} (n_Module : PySem.W.nsIn K mainGlobals "Module" = some (some (.ref C_Module))) (pg_Module : PySem.W.plainGet K C_Module Str.empty = true) (hd_Module : PySem.W.hasDictIn K C_Module = true) (po_Module : PySem.W.plainOver K C_Module = true) (sa_Module : PySem.W.findIn K (.ref C_Module) "__setattr__" = some (some (.builtin "object.__setattr__"))) (mk_Module : PySem.W.makesIn K C_Module = true) (kc_Module : PySem.W.keepIn K (.ref C_Module) = true)
    (nf_Module_cells : PySem.W.findIn K (.ref C_Module) "cells" = some none)
    (nf_Module_handles : PySem.W.findIn K (.ref C_Module) "handles" = some none)
    (nf_Module_operations : PySem.W.findIn K (.ref C_Module) "operations" = some none)
    (nf_Module_promise : PySem.W.findIn K (.ref C_Module) "promise" = some none)
    (nf_Module_start : PySem.W.findIn K (.ref C_Module) "start" = some none)
    (nf_Module_inputs : PySem.W.findIn K (.ref C_Module) "inputs" = some none)
    (nf_Module_sizes : PySem.W.findIn K (.ref C_Module) "sizes" = some none)
    (nf_Module_bodies : PySem.W.findIn K (.ref C_Module) "bodies" = some none)
    {f_Module_init : Addr} {od_Module_init an_Module_init : Option Addr} {sl_Module_init : Array (Option Value)} {oc_Module_init kV_Module_init dc_Module_init pm_Module_init cd_Module_init ct_Module_init : Value}
    (a_Module_init : PySem.W.findIn K (.ref C_Module) "__init__" = some (some (.ref f_Module_init))) (i_Module_init : PySem.W.isFn K (.ref f_Module_init) = true) (l_Module_init : K.lookup f_Module_init = some ⟨oc_Module_init, od_Module_init, .func (PySem.W.fnOf "__init__" "Module.__init__" (defArgs s_Module_init) (defBody s_Module_init) (defScope s_Module_init) .none kV_Module_init dc_Module_init pm_Module_init an_Module_init cd_Module_init ct_Module_init), sl_Module_init⟩) (c_Module_init : PySem.W.codeIn K cd_Module_init "Module.__init__" = true) (k_Module_init : PySem.W.keepIn K (.ref f_Module_init) = true)
    {f_Module_evaluate : Addr} {od_Module_evaluate an_Module_evaluate : Option Addr} {sl_Module_evaluate : Array (Option Value)} {oc_Module_evaluate kV_Module_evaluate dc_Module_evaluate pm_Module_evaluate cd_Module_evaluate ct_Module_evaluate : Value} {T_Module_evaluate : Addr} {odT_Module_evaluate : Option Addr} {slT_Module_evaluate : Array (Option Value)} {ocT_Module_evaluate : Value} {nT_Module_evaluate : Nat} {tT0_Module_evaluate : Tok}
    (a_Module_evaluate : PySem.W.findIn K (.ref C_Module) "evaluate" = some (some (.ref f_Module_evaluate))) (i_Module_evaluate : PySem.W.isFn K (.ref f_Module_evaluate) = true) (l_Module_evaluate : K.lookup f_Module_evaluate = some ⟨oc_Module_evaluate, od_Module_evaluate, .func (PySem.W.fnOf "evaluate" "Module.evaluate" (defArgs s_Module_evaluate) (defBody s_Module_evaluate) (defScope s_Module_evaluate) (.ref T_Module_evaluate) kV_Module_evaluate dc_Module_evaluate pm_Module_evaluate an_Module_evaluate cd_Module_evaluate ct_Module_evaluate), sl_Module_evaluate⟩) (c_Module_evaluate : PySem.W.codeIn K cd_Module_evaluate "Module.evaluate" = true) (k_Module_evaluate : PySem.W.keepIn K (.ref f_Module_evaluate) = true)
    (lT_Module_evaluate : K.lookup T_Module_evaluate = some ⟨ocT_Module_evaluate, odT_Module_evaluate, .seq #[Value.int 0 tT0_Module_evaluate] nT_Module_evaluate, slT_Module_evaluate⟩)
    {f_Module_holds : Addr} {od_Module_holds an_Module_holds : Option Addr} {sl_Module_holds : Array (Option Value)} {oc_Module_holds kV_Module_holds dc_Module_holds pm_Module_holds cd_Module_holds ct_Module_holds : Value} {T_Module_holds : Addr} {odT_Module_holds : Option Addr} {slT_Module_holds : Array (Option Value)} {ocT_Module_holds : Value} {nT_Module_holds : Nat} {tT0_Module_holds : Tok}
    (a_Module_holds : PySem.W.findIn K (.ref C_Module) "holds" = some (some (.ref f_Module_holds))) (i_Module_holds : PySem.W.isFn K (.ref f_Module_holds) = true) (l_Module_holds : K.lookup f_Module_holds = some ⟨oc_Module_holds, od_Module_holds, .func (PySem.W.fnOf "holds" "Module.holds" (defArgs s_Module_holds) (defBody s_Module_holds) (defScope s_Module_holds) (.ref T_Module_holds) kV_Module_holds dc_Module_holds pm_Module_holds an_Module_holds cd_Module_holds ct_Module_holds), sl_Module_holds⟩) (c_Module_holds : PySem.W.codeIn K cd_Module_holds "Module.holds" = true) (k_Module_holds : PySem.W.keepIn K (.ref f_Module_holds) = true)
    (lT_Module_holds : K.lookup T_Module_holds = some ⟨ocT_Module_holds, odT_Module_holds, .seq #[Value.int 0 tT0_Module_holds] nT_Module_holds, slT_Module_holds⟩)
    {t_MOST_NUMBER : Tok} (g_MOST_NUMBER : PySem.W.nsIn K mainGlobals "MOST_NUMBER" = some (some (.int 20 t_MOST_NUMBER)))
    {t_MOST_SIZE : Tok} (g_MOST_SIZE : PySem.W.nsIn K mainGlobals "MOST_SIZE" = some (some (.int 9 t_MOST_SIZE)))
    {t_MOST_HANDLES : Tok} (g_MOST_HANDLES : PySem.W.nsIn K mainGlobals "MOST_HANDLES" = some (some (.int 3 t_MOST_HANDLES)))
    {t_MOST_INPUTS : Tok} (g_MOST_INPUTS : PySem.W.nsIn K mainGlobals "MOST_INPUTS" = some (some (.int 4 t_MOST_INPUTS)))
    (z_all : PySem.W.nsIn K mainGlobals "all" = some none)
    (z_bool : PySem.W.nsIn K mainGlobals "bool" = some none)
    (z_dict : PySem.W.nsIn K mainGlobals "dict" = some none)
    (z_enumerate : PySem.W.nsIn K mainGlobals "enumerate" = some none)
    (z_int : PySem.W.nsIn K mainGlobals "int" = some none)
    (z_isinstance : PySem.W.nsIn K mainGlobals "isinstance" = some none)
    (z_len : PySem.W.nsIn K mainGlobals "len" = some none)
    (z_list : PySem.W.nsIn K mainGlobals "list" = some none)
    (z_max : PySem.W.nsIn K mainGlobals "max" = some none)
    (z_range : PySem.W.nsIn K mainGlobals "range" = some none)
    (z_repr : PySem.W.nsIn K mainGlobals "repr" = some none)
    (z_sorted : PySem.W.nsIn K mainGlobals "sorted" = some none)
    (z_str : PySem.W.nsIn K mainGlobals "str" = some none)
    (z_tuple : PySem.W.nsIn K mainGlobals "tuple" = some none)
    : ∃ fd : FuncData, (∀ (s : Shared) (v : Value), BindsTo s fd ⟨[v], []⟩ [("_law_script", v)]) ∧
      ∀ base : Heap, K.In base → base.Ns mainGlobals mg → FnG l.prog w K mg base CX0 31 fa fd ["_law_script"] (sp_law K) := by
  have e := hfa.symm.trans (PySem.W.mg_of X G a_law)
  cases e
  refine ⟨PySem.W.fnOf "law" "law" (defArgs s_law) (defBody s_law) (defScope s_law) .none kV_law dc_law pm_law an_law cd_law ct_law, fun s v => .of_eq rfl, fun base _ _ => ?_⟩
  have F_is_int := fun_mk (st := s_is_int) l_is_int c_is_int k_is_int
  have F_is_pair := fun_mk (st := s_is_pair) l_is_pair c_is_pair k_is_pair
  have F_is_cell := fun_mk (st := s_is_cell) l_is_cell c_is_cell k_is_cell
  have F_is_name := fun_mk (st := s_is_name) l_is_name c_is_name k_is_name
  have F_ascends := fun_mk (st := s_ascends) l_ascends c_ascends k_ascends
  have F_begins_with_word := fun_mk (st := s_begins_with_word) l_begins_with_word c_begins_with_word k_begins_with_word
  have F_is_cell_in := fun_mk (st := s_is_cell_in) l_is_cell_in c_is_cell_in k_is_cell_in
  have F_is_expression := fun_mk (st := s_is_expression) l_is_expression c_is_expression k_is_expression
  have F_is_test := fun_mk (st := s_is_test) l_is_test c_is_test k_is_test
  have F_are_sized_cells := fun_mk (st := s_are_sized_cells) l_are_sized_cells c_are_sized_cells k_are_sized_cells
  have F_are_handles := fun_mk (st := s_are_handles) l_are_handles c_are_handles k_are_handles
  have F_are_operations := fun_mk (st := s_are_operations) l_are_operations c_are_operations k_are_operations
  have F_are_handles_of := fun_mk (st := s_are_handles_of) l_are_handles_of c_are_handles_of k_are_handles_of
  have F_are_put_writes := fun_mk (st := s_are_put_writes) l_are_put_writes c_are_put_writes k_are_put_writes
  have F_is_put := fun_mk (st := s_is_put) l_is_put c_is_put k_is_put
  have F_is_statement := fun_mk (st := s_is_statement) l_is_statement c_is_statement k_is_statement
  have F_is_body := fun_mk (st := s_is_body) l_is_body c_is_body k_is_body
  have F_is_promise := fun_mk (st := s_is_promise) l_is_promise c_is_promise k_is_promise
  have F_check_module := fun_mk (st := s_check_module) l_check_module c_check_module k_check_module
  have F_value_of := fun_mk (st := s_value_of) l_value_of c_value_of k_value_of
  have F_truth_of := fun_mk (st := s_truth_of) l_truth_of c_truth_of k_truth_of
  have F_law_deck := fun_mk (st := s_law_deck) l_law_deck c_law_deck k_law_deck
  have F_law_draw := fun_mk (st := s_law_draw) l_law_draw c_law_draw k_law_draw
  have F_law_pick := fun_mk (st := s_law_pick) l_law_pick c_law_pick k_law_pick
  have F_law_words := fun_mk (st := s_law_words) l_law_words c_law_words k_law_words
  have F_law_cells := fun_mk (st := s_law_cells) l_law_cells c_law_cells k_law_cells
  have F_law_expression := fun_mk (st := s_law_expression) l_law_expression c_law_expression k_law_expression
  have F_law_test := fun_mk (st := s_law_test) l_law_test c_law_test k_law_test
  have F_law_put_drawn := fun_mk (st := s_law_put_drawn) l_law_put_drawn c_law_put_drawn k_law_put_drawn
  have F_law_body := fun_mk (st := s_law_body) l_law_body c_law_body k_law_body
  have F_law_parts := fun_mk (st := s_law_parts) l_law_parts c_law_parts k_law_parts
  have F_law_value := fun_mk (st := s_law_value) l_law_value c_law_value k_law_value
  have F_law_so := fun_mk (st := s_law_so) l_law_so c_law_so k_law_so
  have F_law_content := fun_mk (st := s_law_content) l_law_content c_law_content k_law_content
  have F_law_told := fun_mk (st := s_law_told) l_law_told c_law_told k_law_told
  have F_law_said := fun_mk (st := s_law_said) l_law_said c_law_said k_law_said
  have F_law := fun_mk (st := s_law) l_law c_law k_law
  have cl_Module : Cls K C_Module := ⟨pg_Module, hd_Module, po_Module, sa_Module⟩
  have F_Module_init := fun_mk (st := s_Module_init) l_Module_init c_Module_init k_Module_init
  have F_Module_evaluate := funG_mk (st := s_Module_evaluate) (dvs := [V.int 0]) (its := [Value.int 0 tT0_Module_evaluate]) l_Module_evaluate c_Module_evaluate k_Module_evaluate lT_Module_evaluate rfl (by simp) (.cons ⟨_, rfl⟩ .nil)
  have F_Module_holds := funG_mk (st := s_Module_holds) (dvs := [V.int 0]) (its := [Value.int 0 tT0_Module_holds]) l_Module_holds c_Module_holds k_Module_holds lT_Module_holds rfl (by simp) (.cons ⟨_, rfl⟩ .nil)
  have c_MOST_NUMBER := PySem.W.mg_of X G g_MOST_NUMBER
  have c_MOST_SIZE := PySem.W.mg_of X G g_MOST_SIZE
  have c_MOST_HANDLES := PySem.W.mg_of X G g_MOST_HANDLES
  have c_MOST_INPUTS := PySem.W.mg_of X G g_MOST_INPUTS
  have z_all := PySem.W.mg_none_of X G z_all
  have z_bool := PySem.W.mg_none_of X G z_bool
  have z_dict := PySem.W.mg_none_of X G z_dict
  have z_enumerate := PySem.W.mg_none_of X G z_enumerate
  have z_int := PySem.W.mg_none_of X G z_int
  have z_isinstance := PySem.W.mg_none_of X G z_isinstance
  have z_len := PySem.W.mg_none_of X G z_len
  have z_list := PySem.W.mg_none_of X G z_list
  have z_max := PySem.W.mg_none_of X G z_max
  have z_range := PySem.W.mg_none_of X G z_range
  have z_repr := PySem.W.mg_none_of X G z_repr
  have z_sorted := PySem.W.mg_none_of X G z_sorted
  have z_str := PySem.W.mg_none_of X G z_str
  have z_tuple := PySem.W.mg_none_of X G z_tuple
  have D_is_int : Has l.prog w K mg base 1 "is_int" ["thing"] (spA K (aTells isInt)) := has F_is_int (PySem.W.mg_of X G a_is_int) (ok_is_int F_is_int z_isinstance z_int z_bool) (fun _ _ _ _ _ _ us hl => match us, hl with | [_], _ => rfl) (fun _ _ _ _ _ _ us hl => match us, hl with | [_], _ => rfl)
  have D_is_pair : Has l.prog w K mg base 1 "is_pair" ["thing"] (spA K (aTells isPair)) := has F_is_pair (PySem.W.mg_of X G a_is_pair) (ok_is_pair F_is_pair z_isinstance z_tuple z_len) (fun _ _ _ _ _ _ us hl => match us, hl with | [_], _ => rfl) (fun _ _ _ _ _ _ us hl => match us, hl with | [_], _ => rfl)
  have D_is_cell : Has l.prog w K mg base 2 "is_cell" ["thing"] (spA K (aTells isCell)) := has F_is_cell (PySem.W.mg_of X G a_is_cell) (ok_is_cell (k := 0) F_is_cell D_is_pair D_is_int) (fun _ _ _ _ _ _ us hl => match us, hl with | [_], _ => rfl) (fun _ _ _ _ _ _ us hl => match us, hl with | [_], _ => rfl)
  have D_is_name : Has l.prog w K mg base 1 "is_name" ["thing"] (spA K (aTells isName)) := has F_is_name (PySem.W.mg_of X G a_is_name) (ok_is_name F_is_name z_isinstance z_str z_len) (fun _ _ _ _ _ _ us hl => match us, hl with | [_], _ => rfl) (fun _ _ _ _ _ _ us hl => match us, hl with | [_], _ => rfl)
  have D_ascends : Has l.prog w K mg base 1 "ascends" ["row"] (spA K aAsc) := has F_ascends (PySem.W.mg_of X G a_ascends) (ok_ascends F_ascends z_all z_range z_len) (fun _ _ _ _ _ _ us hl => match us, hl with | [_], _ => rfl) (fun _ _ _ _ _ _ us hl => match us, hl with | [_], _ => rfl)
  have D_begins_with_word : Has l.prog w K mg base 1 "begins_with_word" ["thing"] (spA K (aTells startsW)) := has F_begins_with_word (PySem.W.mg_of X G a_begins_with_word) (ok_begins_with_word F_begins_with_word z_isinstance z_str z_tuple z_len) (fun _ _ _ _ _ _ us hl => match us, hl with | [_], _ => rfl) (fun _ _ _ _ _ _ us hl => match us, hl with | [_], _ => rfl)
  have D_is_cell_in : Has l.prog w K mg base 3 "is_cell_in" ["thing", "cells"] (spA K (fun ds M Q => ∃ d cs, ds = [d, .dT cs] ∧ Fine d ∧ Q (.bl (isCellIn cs d)) M)) := has F_is_cell_in (PySem.W.mg_of X G a_is_cell_in) (ok_is_cell_in F_is_cell_in D_is_cell) (fun _ _ _ _ _ _ us hl => match us, hl with | [_, _], _ => rfl) (fun _ _ _ _ _ _ us hl => match us, hl with | [_, _], _ => rfl)
  have RE : ∀ n : Nat, n ≤ 30 → Has l.prog w K mg base (n + 3) "is_expression" ["thing", "cells", "has_input"] (spA K (aBelow (fun n => aIsE (fun cs inp => exprD cs inp n) n) n)) ∧ Has l.prog w K mg base (n + 3) "is_test" ["thing", "cells", "has_input"] (spA K (aBelow (fun n => aIsE (fun cs inp => testD cs inp n) n) n)) := by
    intro n
    induction n with
    | zero => exact fun _ => ⟨has F_is_expression (PySem.W.mg_of X G a_is_expression) (fnNone) (fun _ _ _ _ _ _ us hl => match us, hl with | [_, _, _], _ => rfl) (fun _ _ _ _ _ _ us hl => match us, hl with | [_, _, _], _ => rfl), has F_is_test (PySem.W.mg_of X G a_is_test) (fnNone) (fun _ _ _ _ _ _ us hl => match us, hl with | [_, _, _], _ => rfl) (fun _ _ _ _ _ _ us hl => match us, hl with | [_, _, _], _ => rfl)⟩
    | succ n ih => exact fun hn => have ih := ih (by omega); ⟨has F_is_expression (PySem.W.mg_of X G a_is_expression) (ok_is_expression D_is_int D_begins_with_word D_is_cell_in ih.1 ih.2 F_is_expression z_len c_MOST_NUMBER) (fun _ _ _ _ _ _ us hl => match us, hl with | [_, _, _], _ => rfl) (fun _ _ _ _ _ _ us hl => match us, hl with | [_, _, _], _ => rfl), has F_is_test (PySem.W.mg_of X G a_is_test) (ok_is_test D_begins_with_word ih.1 ih.2 F_is_test z_len) (fun _ _ _ _ _ _ us hl => match us, hl with | [_, _, _], _ => rfl) (fun _ _ _ _ _ _ us hl => match us, hl with | [_, _, _], _ => rfl)⟩
  have DE : ∀ n : Nat, n ≤ 29 → Has l.prog w K mg base (n + 4) "is_expression" ["thing", "cells", "has_input"] (spA K ((fun n => aIsE (fun cs inp => exprD cs inp n) n) n)) := fun n hn => (RE (n + 1) (by omega)).1
  have DT : ∀ n : Nat, n ≤ 29 → Has l.prog w K mg base (n + 4) "is_test" ["thing", "cells", "has_input"] (spA K ((fun n => aIsE (fun cs inp => testD cs inp n) n) n)) := fun n hn => (RE (n + 1) (by omega)).2
  have D_are_sized_cells : Has l.prog w K mg base 3 "are_sized_cells" ["thing"] (spA K (aTells sizedD)) := has F_are_sized_cells (PySem.W.mg_of X G a_are_sized_cells) (ok_are_sized_cells F_are_sized_cells D_is_int D_is_cell D_ascends z_isinstance z_tuple z_len c_MOST_SIZE) (fun _ _ _ _ _ _ us hl => match us, hl with | [_], _ => rfl) (fun _ _ _ _ _ _ us hl => match us, hl with | [_], _ => rfl)
  have D_are_handles : Has l.prog w K mg base 2 "are_handles" ["thing"] (spA K (aTells handlesD)) := has F_are_handles (PySem.W.mg_of X G a_are_handles) (ok_are_handles F_are_handles D_is_name D_ascends z_isinstance z_tuple z_len z_all c_MOST_HANDLES) (fun _ _ _ _ _ _ us hl => match us, hl with | [_], _ => rfl) (fun _ _ _ _ _ _ us hl => match us, hl with | [_], _ => rfl)
  have D_are_operations : Has l.prog w K mg base 2 "are_operations" ["thing"] (spA K (aTells opsD)) := has F_are_operations (PySem.W.mg_of X G a_are_operations) (ok_are_operations F_are_operations D_is_int D_is_name D_ascends z_isinstance z_tuple z_len c_MOST_INPUTS) (fun _ _ _ _ _ _ us hl => match us, hl with | [_], _ => rfl) (fun _ _ _ _ _ _ us hl => match us, hl with | [_], _ => rfl)
  have D_are_handles_of : Has l.prog w K mg base 2 "are_handles_of" ["thing", "handles"] (spA K (fun ds M Q => ∃ d hs, ds = [d, .tup hs] ∧ Fine d ∧ Hands hs ∧ Q (.bl (handlesOfD hs d)) M)) := has F_are_handles_of (PySem.W.mg_of X G a_are_handles_of) (ok_are_handles_of F_are_handles_of D_ascends z_isinstance z_tuple z_all) (fun _ _ _ _ _ _ us hl => match us, hl with | [_, _], _ => rfl) (fun _ _ _ _ _ _ us hl => match us, hl with | [_, _], _ => rfl)
  have DW : ∀ n : Nat, n ≤ 29 → Has l.prog w K mg base (n + 5) "are_put_writes" ["thing", "cells"] (spA K fun ds M Q => ∃ d cs, ds = [d, .dT cs] ∧ Fine d ∧ (py d).depth ≤ n ∧ Q (.bl (writesD cs n d)) M) := fun n hn => has F_are_put_writes (PySem.W.mg_of X G a_are_put_writes) (ok_are_put_writes D_is_pair D_is_cell_in (DE n hn) D_ascends F_are_put_writes z_isinstance z_tuple z_len) (fun _ _ _ _ _ _ us hl => match us, hl with | [_, _], _ => rfl) (fun _ _ _ _ _ _ us hl => match us, hl with | [_, _], _ => rfl)
  have DP : ∀ n : Nat, n ≤ 29 → Has l.prog w K mg base (n + 6) "is_put" ["thing", "cells", "handles"] (spA K (aPut n)) := fun n hn => has F_is_put (PySem.W.mg_of X G a_is_put) (ok_is_put (DW n hn) D_are_handles_of F_is_put z_len) (fun _ _ _ _ _ _ us hl => match us, hl with | [_, _, _], _ => rfl) (fun _ _ _ _ _ _ us hl => match us, hl with | [_, _, _], _ => rfl)
  have DP' : ∀ n : Nat, n ≤ 30 → Has l.prog w K mg base (n + 6) "is_put" ["thing", "cells", "handles"] (spA K (aBelow aPut n)) := fun n hn => match n, hn with
    | 0, _ => has F_is_put (PySem.W.mg_of X G a_is_put) fnNone (fun _ _ _ _ _ _ us hl => match us, hl with | [_, _, _], _ => rfl) (fun _ _ _ _ _ _ us hl => match us, hl with | [_, _, _], _ => rfl)
    | m + 1, hn => (DP m (by omega)).up (by omega)
  have RS : ∀ n : Nat, n ≤ 30 → Has l.prog w K mg base (n + 6) "is_statement" ["thing", "cells", "handles"] (spA K (aBelow (fun n => aIsS (fun cs hs => stmtD cs hs n) n) n)) ∧ Has l.prog w K mg base (n + 6) "is_body" ["thing", "cells", "handles"] (spA K (aBelow (fun n => aIsS (fun cs hs => bodyD cs hs n) n) n)) := by
    intro n
    induction n with
    | zero => exact fun _ => ⟨has F_is_statement (PySem.W.mg_of X G a_is_statement) (fnNone) (fun _ _ _ _ _ _ us hl => match us, hl with | [_, _, _], _ => rfl) (fun _ _ _ _ _ _ us hl => match us, hl with | [_, _, _], _ => rfl), has F_is_body (PySem.W.mg_of X G a_is_body) (fnNone) (fun _ _ _ _ _ _ us hl => match us, hl with | [_, _, _], _ => rfl) (fun _ _ _ _ _ _ us hl => match us, hl with | [_, _, _], _ => rfl)⟩
    | succ n ih => exact fun hn => have ih := ih (by omega); ⟨has F_is_statement (PySem.W.mg_of X G a_is_statement) (ok_is_statement D_begins_with_word (DP' n (by omega)) ((RE n (by omega)).2.up (by omega)) ih.2 F_is_statement z_len) (fun _ _ _ _ _ _ us hl => match us, hl with | [_, _, _], _ => rfl) (fun _ _ _ _ _ _ us hl => match us, hl with | [_, _, _], _ => rfl), has F_is_body (PySem.W.mg_of X G a_is_body) (ok_is_body ih.1 F_is_body z_isinstance z_tuple z_all) (fun _ _ _ _ _ _ us hl => match us, hl with | [_, _, _], _ => rfl) (fun _ _ _ _ _ _ us hl => match us, hl with | [_, _, _], _ => rfl)⟩
  have D_is_body : Has l.prog w K mg base 27 "is_body" ["thing", "cells", "handles"] (spA K ((fun n => aIsS (fun cs hs => bodyD cs hs n) n) 20)) := (RS 21 (by omega)).2
  have D_is_promise : Has l.prog w K mg base 25 "is_promise" ["thing", "cells"] (spA K (fun ds M Q => ∃ d cs, ds = [d, .dT cs] ∧ Fine d ∧ (py d).depth ≤ 20 ∧ Q (.bl (promiseD cs 20 d)) M)) := has F_is_promise (PySem.W.mg_of X G a_is_promise) (ok_is_promise D_is_pair (DE 20 (by omega)) (DT 20 (by omega)) F_is_promise z_isinstance z_tuple z_all) (fun _ _ _ _ _ _ us hl => match us, hl with | [_, _], _ => rfl) (fun _ _ _ _ _ _ us hl => match us, hl with | [_, _], _ => rfl)
  have D_check_module : Has l.prog w K mg base 28 "check_module" ["cells", "handles", "operations", "promise"] (spA K (aCheck 20)) := has F_check_module (PySem.W.mg_of X G a_check_module) (ok_check_module D_are_sized_cells D_are_handles D_are_operations D_is_body D_is_promise F_check_module z_enumerate) (fun _ _ _ _ _ _ us hl => match us, hl with | [_, _, _, _], _ => rfl) (fun _ _ _ _ _ _ us hl => match us, hl with | [_, _, _, _], _ => rfl)
  have RV : ∀ n : Nat, n ≤ 7 → Has l.prog w K mg base (n) "value_of" ["expression", "values", "number"] (spA K (aBelow aValue n)) ∧ Has l.prog w K mg base (n) "truth_of" ["test", "values", "number"] (spA K (aBelow aTruth n)) := by
    intro n
    induction n with
    | zero => exact fun _ => ⟨has F_value_of (PySem.W.mg_of X G a_value_of) (fnNone) (fun _ _ _ _ _ _ us hl => match us, hl with | [_, _, _], _ => rfl) (fun _ _ _ _ _ _ us hl => match us, hl with | [_, _, _], _ => rfl), has F_truth_of (PySem.W.mg_of X G a_truth_of) (fnNone) (fun _ _ _ _ _ _ us hl => match us, hl with | [_, _, _], _ => rfl) (fun _ _ _ _ _ _ us hl => match us, hl with | [_, _, _], _ => rfl)⟩
    | succ n ih => exact fun hn => have ih := ih (by omega); ⟨has F_value_of (PySem.W.mg_of X G a_value_of) (ok_value_of (by omega) ih.1 ih.2 F_value_of z_isinstance z_int) (fun _ _ _ _ _ _ us hl => match us, hl with | [_, _, _], _ => rfl) (fun _ _ _ _ _ _ us hl => match us, hl with | [_, _, _], _ => rfl), has F_truth_of (PySem.W.mg_of X G a_truth_of) (ok_truth_of (by omega) ih.1 ih.2 F_truth_of) (fun _ _ _ _ _ _ us hl => match us, hl with | [_, _, _], _ => rfl) (fun _ _ _ _ _ _ us hl => match us, hl with | [_, _, _], _ => rfl)⟩
  have RL : ∀ n : Nat, n ≤ 7 → Has l.prog w K mg base (n) "_law_value" ["_law_one", "_law_values", "_law_given"] (spA K (aBelow aValue n)) ∧ Has l.prog w K mg base (n) "_law_so" ["_law_one", "_law_values", "_law_given"] (spA K (aBelow aTruth n)) := by
    intro n
    induction n with
    | zero => exact fun _ => ⟨has F_law_value (PySem.W.mg_of X G a_law_value) (fnNone) (fun _ _ _ _ _ _ us hl => match us, hl with | [_, _, _], _ => rfl) (fun _ _ _ _ _ _ us hl => match us, hl with | [_, _, _], _ => rfl), has F_law_so (PySem.W.mg_of X G a_law_so) (fnNone) (fun _ _ _ _ _ _ us hl => match us, hl with | [_, _, _], _ => rfl) (fun _ _ _ _ _ _ us hl => match us, hl with | [_, _, _], _ => rfl)⟩
    | succ n ih => exact fun hn => have ih := ih (by omega); ⟨has F_law_value (PySem.W.mg_of X G a_law_value) (ok_law_value (by omega) ih.1 ih.2 F_law_value z_isinstance z_int) (fun _ _ _ _ _ _ us hl => match us, hl with | [_, _, _], _ => rfl) (fun _ _ _ _ _ _ us hl => match us, hl with | [_, _, _], _ => rfl), has F_law_so (PySem.W.mg_of X G a_law_so) (ok_law_so (by omega) ih.1 ih.2 F_law_so) (fun _ _ _ _ _ _ us hl => match us, hl with | [_, _, _], _ => rfl) (fun _ _ _ _ _ _ us hl => match us, hl with | [_, _, _], _ => rfl)⟩
  have fk : ∀ f ∈ modNames, FldOk K C_Module f := by
    intro f hf
    simp only [modNames, List.mem_cons, List.not_mem_nil, or_false] at hf
    rcases hf with rfl | rfl | rfl | rfl | rfl | rfl | rfl | rfl
    · exact ⟨cl_Module, nf_Module_cells⟩
    · exact ⟨cl_Module, nf_Module_handles⟩
    · exact ⟨cl_Module, nf_Module_operations⟩
    · exact ⟨cl_Module, nf_Module_promise⟩
    · exact ⟨cl_Module, nf_Module_start⟩
    · exact ⟨cl_Module, nf_Module_inputs⟩
    · exact ⟨cl_Module, nf_Module_sizes⟩
    · exact ⟨cl_Module, nf_Module_bodies⟩
  have D_Module : HasC l.prog w K mg base 29 "Module" C_Module ["self", "cells", "handles", "operations", "promise"] (spA K (aInit K C_Module 20)) := ⟨⟨_, _, ok_Module_init D_check_module fk F_Module_init z_tuple z_range, ⟨mk_Module, a_Module_init, i_Module_init, kc_Module⟩, F_Module_init.binds (fun _ _ _ _ _ _ us hl => match us, hl with | [_, _, _, _, _], _ => rfl)⟩, PySem.W.mg_of X G n_Module⟩
  have O_evaluate := ok_Module_evaluate (n := 5) (P := l.prog) (w := w) (mg := mg) (base := base) (RV 6 (by omega)).1 F_Module_evaluate
  have D2_Module_evaluate : HasM l.prog w K mg base 7 C_Module "evaluate" ["self", "expression", "content", "number"] [V.int 0] (spA K (aEvaluate 5)) := by
    obtain ⟨ds, hb, hv⟩ := F_Module_evaluate.binds (ps := ["self", "expression", "content", "number"]) (by simp) 3 0 rfl fun _ _ _ _ _ _ _ us its h1 h2 => match us, its, h1, h2 with | [_, _, _], [_], _, _ => ⟨_, rfl, rfl⟩
    exact ⟨⟨_, _, ds, O_evaluate, ⟨a_Module_evaluate, i_Module_evaluate, k_Module_evaluate⟩, hb, hv⟩, cl_Module⟩
  have D3_Module_evaluate : HasM l.prog w K mg base 7 C_Module "evaluate" ["self", "expression", "content", "number"] [] (spA K (aEvaluate 5)) := by
    obtain ⟨ds, hb, hv⟩ := F_Module_evaluate.binds (ps := ["self", "expression", "content", "number"]) (by simp) 4 1 rfl fun _ _ _ _ _ _ _ us its h1 h2 => match us, its, h1, h2 with | [_, _, _, _], [_], _, _ => ⟨_, rfl, rfl⟩
    exact ⟨⟨_, _, ds, O_evaluate, ⟨a_Module_evaluate, i_Module_evaluate, k_Module_evaluate⟩, hb, hv⟩, cl_Module⟩
  have DK_Module_evaluate : HasMK l.prog w K mg base 7 C_Module "evaluate" ["self", "expression", "content", "number"] ["number", "content", "expression"] List.reverse (spA K (aEvaluate 5)) := by
    refine ⟨⟨_, _, List.reverse, O_evaluate, ⟨a_Module_evaluate, i_Module_evaluate, k_Module_evaluate⟩, fun s self ws X hl => F_Module_evaluate.kbinds (ps := ["self", "expression", "content", "number"]) (by simp) ["number", "content", "expression"] List.reverse (fun _ _ _ _ _ _ _ _ ws its h1 h2 => match ws, its, h1, h2 with | [_, _, _], [_], _, _ => ⟨_, rfl, rfl⟩) s self ws X hl, fun vs us hl hv => hv.reverse⟩, cl_Module⟩
  have O_holds := ok_Module_holds (n := 5) (P := l.prog) (w := w) (mg := mg) (base := base) (RV 6 (by omega)).2 F_Module_holds
  have D2_Module_holds : HasM l.prog w K mg base 7 C_Module "holds" ["self", "test", "content", "number"] [V.int 0] (spA K (aHolds 5)) := by
    obtain ⟨ds, hb, hv⟩ := F_Module_holds.binds (ps := ["self", "test", "content", "number"]) (by simp) 3 0 rfl fun _ _ _ _ _ _ _ us its h1 h2 => match us, its, h1, h2 with | [_, _, _], [_], _, _ => ⟨_, rfl, rfl⟩
    exact ⟨⟨_, _, ds, O_holds, ⟨a_Module_holds, i_Module_holds, k_Module_holds⟩, hb, hv⟩, cl_Module⟩
  have D3_Module_holds : HasM l.prog w K mg base 7 C_Module "holds" ["self", "test", "content", "number"] [] (spA K (aHolds 5)) := by
    obtain ⟨ds, hb, hv⟩ := F_Module_holds.binds (ps := ["self", "test", "content", "number"]) (by simp) 4 1 rfl fun _ _ _ _ _ _ _ us its h1 h2 => match us, its, h1, h2 with | [_, _, _, _], [_], _, _ => ⟨_, rfl, rfl⟩
    exact ⟨⟨_, _, ds, O_holds, ⟨a_Module_holds, i_Module_holds, k_Module_holds⟩, hb, hv⟩, cl_Module⟩
  have DK_Module_holds : HasMK l.prog w K mg base 7 C_Module "holds" ["self", "test", "content", "number"] ["content", "number", "test"] (fun vs => vs.drop 2 ++ vs.take 2) (spA K (aHolds 5)) := by
    refine ⟨⟨_, _, (fun vs => vs.drop 2 ++ vs.take 2), O_holds, ⟨a_Module_holds, i_Module_holds, k_Module_holds⟩, fun s self ws X hl => F_Module_holds.kbinds (ps := ["self", "test", "content", "number"]) (by simp) ["content", "number", "test"] (fun vs => vs.drop 2 ++ vs.take 2) (fun _ _ _ _ _ _ _ _ ws its h1 h2 => match ws, its, h1, h2 with | [_, _, _], [_], _, _ => ⟨_, rfl, rfl⟩) s self ws X hl, fun vs us hl hv => (hv.drop 2).append (hv.take 2)⟩, cl_Module⟩
  have D_law_draw : Has l.prog w K mg base 1 "_law_draw" ["_law_deck_here", "_law_below"] (spA K aDraw) := has F_law_draw (PySem.W.mg_of X G a_law_draw) (ok_law_draw F_law_draw) (fun _ _ _ _ _ _ us hl => match us, hl with | [_, _], _ => rfl) (fun _ _ _ _ _ _ us hl => match us, hl with | [_, _], _ => rfl)
  have D_law_deck : Has l.prog w K mg base 2 "_law_deck" ["_law_script"] (spA K aDeck) := has F_law_deck (PySem.W.mg_of X G a_law_deck) ((ok_law_deck F_law_deck z_list).up (by omega)) (fun _ _ _ _ _ _ us hl => match us, hl with | [_], _ => rfl) (fun _ _ _ _ _ _ us hl => match us, hl with | [_], _ => rfl)
  have D_law_pick : Has l.prog w K mg base 2 "_law_pick" ["_law_deck_here", "_law_items"] (spA K aPick) := has F_law_pick (PySem.W.mg_of X G a_law_pick) (ok_law_pick F_law_pick z_len D_law_draw) (fun _ _ _ _ _ _ us hl => match us, hl with | [_, _], _ => rfl) (fun _ _ _ _ _ _ us hl => match us, hl with | [_, _], _ => rfl)
  have D_law_words : Has l.prog w K mg base 3 "_law_words" ["_law_deck_here", "_law_many"] (spA K aWords) := has F_law_words (PySem.W.mg_of X G a_law_words) (ok_law_words F_law_words z_range z_tuple z_sorted D_law_draw D_law_pick) (fun _ _ _ _ _ _ us hl => match us, hl with | [_, _], _ => rfl) (fun _ _ _ _ _ _ us hl => match us, hl with | [_, _], _ => rfl)
  have D_law_cells : Has l.prog w K mg base 3 "_law_cells" ["_law_deck_here"] (spA K aCells) := has F_law_cells (PySem.W.mg_of X G a_law_cells) (ok_law_cells F_law_cells z_len z_tuple z_sorted D_law_draw D_law_pick) (fun _ _ _ _ _ _ us hl => match us, hl with | [_], _ => rfl) (fun _ _ _ _ _ _ us hl => match us, hl with | [_], _ => rfl)
  have D_law_content : Has l.prog w K mg base 2 "_law_content" ["_law_deck_here", "_law_here"] (spA K aContent) := has F_law_content (PySem.W.mg_of X G a_law_content) (ok_law_content F_law_content z_list z_range z_tuple z_sorted D_law_draw) (fun _ _ _ _ _ _ us hl => match us, hl with | [_, _], _ => rfl) (fun _ _ _ _ _ _ us hl => match us, hl with | [_, _], _ => rfl)
  have RX : ∀ d : Nat, d ≤ 5 → Has l.prog w K mg base (2 * d + 3) "_law_expression" ["_law_deck_here", "_law_here", "_law_deep", "_law_has_input"] (spA K (aExpr d)) ∧ Has l.prog w K mg base (2 * d + 4) "_law_test" ["_law_deck_here", "_law_here", "_law_deep", "_law_has_input"] (spA K (aTestS d)) := by
    intro d
    induction d with
    | zero =>
      intro _
      have e : Has l.prog w K mg base 3 "_law_expression" ["_law_deck_here", "_law_here", "_law_deep", "_law_has_input"] (spA K (aExpr 0)) := has F_law_expression (PySem.W.mg_of X G a_law_expression) (ok_law_expression 0 F_law_expression z_range D_law_draw D_law_pick (has F_law_expression (PySem.W.mg_of X G a_law_expression) (fnNone) (fun _ _ _ _ _ _ us hl => match us, hl with | [_, _, _, _], _ => rfl) (fun _ _ _ _ _ _ us hl => match us, hl with | [_, _, _, _], _ => rfl)) (has F_law_test (PySem.W.mg_of X G a_law_test) (fnNone) (fun _ _ _ _ _ _ us hl => match us, hl with | [_, _, _, _], _ => rfl) (fun _ _ _ _ _ _ us hl => match us, hl with | [_, _, _, _], _ => rfl))) (fun _ _ _ _ _ _ us hl => match us, hl with | [_, _, _, _], _ => rfl) (fun _ _ _ _ _ _ us hl => match us, hl with | [_, _, _, _], _ => rfl)
      exact ⟨e, has F_law_test (PySem.W.mg_of X G a_law_test) (ok_law_test 0 F_law_test z_range z_max D_law_draw e (has F_law_test (PySem.W.mg_of X G a_law_test) (fnNone) (fun _ _ _ _ _ _ us hl => match us, hl with | [_, _, _, _], _ => rfl) (fun _ _ _ _ _ _ us hl => match us, hl with | [_, _, _, _], _ => rfl))) (fun _ _ _ _ _ _ us hl => match us, hl with | [_, _, _, _], _ => rfl) (fun _ _ _ _ _ _ us hl => match us, hl with | [_, _, _, _], _ => rfl)⟩
    | succ d ih =>
      intro hd
      have ih := ih (by omega)
      have e : Has l.prog w K mg base (2 * (d + 1) + 3) "_law_expression" ["_law_deck_here", "_law_here", "_law_deep", "_law_has_input"] (spA K (aExpr (d + 1))) := has F_law_expression (PySem.W.mg_of X G a_law_expression) (ok_law_expression (d + 1) F_law_expression z_range D_law_draw D_law_pick (ih.1.up (by omega)) (ih.2.up (by omega))) (fun _ _ _ _ _ _ us hl => match us, hl with | [_, _, _, _], _ => rfl) (fun _ _ _ _ _ _ us hl => match us, hl with | [_, _, _, _], _ => rfl)
      exact ⟨e, has F_law_test (PySem.W.mg_of X G a_law_test) (ok_law_test (d + 1) F_law_test z_range z_max D_law_draw (ih.1.up (by omega)) (ih.2.up (by omega))) (fun _ _ _ _ _ _ us hl => match us, hl with | [_, _, _, _], _ => rfl) (fun _ _ _ _ _ _ us hl => match us, hl with | [_, _, _, _], _ => rfl)⟩
  have D_law_put_drawn : Has l.prog w K mg base 8 "_law_put_drawn" ["_law_deck_here", "_law_here", "_law_grips"] (spA K aPutS) := has F_law_put_drawn (PySem.W.mg_of X G a_law_put_drawn) (ok_law_put_drawn F_law_put_drawn z_tuple z_list D_law_draw D_law_pick (RX 2 (by omega)).1) (fun _ _ _ _ _ _ us hl => match us, hl with | [_, _, _], _ => rfl) (fun _ _ _ _ _ _ us hl => match us, hl with | [_, _, _], _ => rfl)
  have B0 : Has l.prog w K mg base 9 "_law_body" ["_law_deck_here", "_law_here", "_law_grips", "_law_many", "_law_deep"] (spA K (aBodyS 0)) := has F_law_body (PySem.W.mg_of X G a_law_body) (ok_law_body 0 F_law_body z_tuple z_range D_law_draw D_law_pick (RX 2 (by omega)).2 D_law_put_drawn (has F_law_body (PySem.W.mg_of X G a_law_body) (fnNone) (fun _ _ _ _ _ _ us hl => match us, hl with | [_, _, _, _, _], _ => rfl) (fun _ _ _ _ _ _ us hl => match us, hl with | [_, _, _, _, _], _ => rfl))) (fun _ _ _ _ _ _ us hl => match us, hl with | [_, _, _, _, _], _ => rfl) (fun _ _ _ _ _ _ us hl => match us, hl with | [_, _, _, _, _], _ => rfl)
  have B1 : Has l.prog w K mg base 10 "_law_body" ["_law_deck_here", "_law_here", "_law_grips", "_law_many", "_law_deep"] (spA K (aBodyS 1)) := has F_law_body (PySem.W.mg_of X G a_law_body) (ok_law_body 1 F_law_body z_tuple z_range D_law_draw D_law_pick (RX 2 (by omega)).2 D_law_put_drawn (B0)) (fun _ _ _ _ _ _ us hl => match us, hl with | [_, _, _, _, _], _ => rfl) (fun _ _ _ _ _ _ us hl => match us, hl with | [_, _, _, _, _], _ => rfl)
  have B2 : Has l.prog w K mg base 11 "_law_body" ["_law_deck_here", "_law_here", "_law_grips", "_law_many", "_law_deep"] (spA K (aBodyS 2)) := has F_law_body (PySem.W.mg_of X G a_law_body) (ok_law_body 2 F_law_body z_tuple z_range D_law_draw D_law_pick (RX 2 (by omega)).2 D_law_put_drawn (B1)) (fun _ _ _ _ _ _ us hl => match us, hl with | [_, _, _, _, _], _ => rfl) (fun _ _ _ _ _ _ us hl => match us, hl with | [_, _, _, _, _], _ => rfl)
  have D_law_body : Has l.prog w K mg base 11 "_law_body" ["_law_deck_here", "_law_here", "_law_grips", "_law_many", "_law_deep"] (spA K aBody12) := has F_law_body (PySem.W.mg_of X G a_law_body) (fnOr (FnG.up (ok_law_body 1 F_law_body z_tuple z_range D_law_draw D_law_pick (RX 2 (by omega)).2 D_law_put_drawn B0) (by omega)) (ok_law_body 2 F_law_body z_tuple z_range D_law_draw D_law_pick (RX 2 (by omega)).2 D_law_put_drawn B1)) (fun _ _ _ _ _ _ us hl => match us, hl with | [_, _, _, _, _], _ => rfl) (fun _ _ _ _ _ _ us hl => match us, hl with | [_, _, _, _, _], _ => rfl)
  have D_law_parts : Has l.prog w K mg base 12 "_law_parts" ["_law_deck_here"] (spA K aParts) := has F_law_parts (PySem.W.mg_of X G a_law_parts) (ok_law_parts F_law_parts z_tuple z_range z_len z_int D_law_draw D_law_words D_law_cells (RX 1 (by omega)).1 (RX 2 (by omega)).2 D_law_body) (fun _ _ _ _ _ _ us hl => match us, hl with | [_], _ => rfl) (fun _ _ _ _ _ _ us hl => match us, hl with | [_], _ => rfl)
  have dv0 : ∀ F, RepA K F [V.int 0] [D.int 0] := fun F => .cons (.int 0) .nil
  have D_law_told : Has l.prog w K mg base 8 "_law_told" ["_law_it", "_law_one", "_law_left", "_law_given"] (spA K (aToldS C_Module 5)) := has F_law_told (PySem.W.mg_of X G a_law_told) (ok_law_told F_law_told dv0 D3_Module_evaluate D2_Module_evaluate DK_Module_evaluate) (fun _ _ _ _ _ _ us hl => match us, hl with | [_, _, _, _], _ => rfl) (fun _ _ _ _ _ _ us hl => match us, hl with | [_, _, _, _], _ => rfl)
  have D_law_said : Has l.prog w K mg base 8 "_law_said" ["_law_it", "_law_one", "_law_left", "_law_given"] (spA K (aSaidS C_Module 5)) := has F_law_said (PySem.W.mg_of X G a_law_said) (ok_law_said F_law_said dv0 D3_Module_holds D2_Module_holds DK_Module_holds) (fun _ _ _ _ _ _ us hl => match us, hl with | [_, _, _, _], _ => rfl) (fun _ _ _ _ _ _ us hl => match us, hl with | [_, _, _, _], _ => rfl)
  exact ok_law F_law z_range z_repr z_dict D_law_deck D_law_parts D_law_content D_law_pick (RX 4 (by omega)).1 (RX 4 (by omega)).2 (RL 6 (by omega)).1 (RL 6 (by omega)).2 D_law_told D_law_said fk D_Module dv0 dv0 D2_Module_evaluate D2_Module_holds
end E60
open PySem PySem.W PyProof.Rows
set_option maxRecDepth 100000 in
set_option maxHeartbeats 0 in
theorem PySem.Challenge.cw_heldparts_k60_expressions_evaluated_holds : PySem.Challenge.rw_heldparts_k60_expressions_evaluated.Holds := by
  w_on; o_law; k_head; (case hw => w_witness2)
  k_fill
  refine Lay.walkG (l := PySem.Challenge.rw_heldparts_k60_expressions_evaluated) (n := 63) (k := 31) (x := "_law_script") (spl := E60.sp_law) rfl (by decide) rfl ⟨rfl, by decide, by decide⟩ (fun w h Y => PySem.W.kIn_of Y) ?F E60.law_in
  case F =>
    intro w mg fa h KX G hmg
    refine' E60.all_mk KX G hmg ?a_is_int ?l_is_int ?c_is_int ?k_is_int ?a_is_pair ?l_is_pair ?c_is_pair ?k_is_pair ?a_is_cell ?l_is_cell ?c_is_cell ?k_is_cell ?a_is_name ?l_is_name ?c_is_name ?k_is_name ?a_ascends ?l_ascends ?c_ascends ?k_ascends ?a_begins_with_word ?l_begins_with_word ?c_begins_with_word ?k_begins_with_word ?a_is_cell_in ?l_is_cell_in ?c_is_cell_in ?k_is_cell_in ?a_is_expression ?l_is_expression ?c_is_expression ?k_is_expression ?a_is_test ?l_is_test ?c_is_test ?k_is_test ?a_are_sized_cells ?l_are_sized_cells ?c_are_sized_cells ?k_are_sized_cells ?a_are_handles ?l_are_handles ?c_are_handles ?k_are_handles ?a_are_operations ?l_are_operations ?c_are_operations ?k_are_operations ?a_are_handles_of ?l_are_handles_of ?c_are_handles_of ?k_are_handles_of ?a_are_put_writes ?l_are_put_writes ?c_are_put_writes ?k_are_put_writes ?a_is_put ?l_is_put ?c_is_put ?k_is_put ?a_is_statement ?l_is_statement ?c_is_statement ?k_is_statement ?a_is_body ?l_is_body ?c_is_body ?k_is_body ?a_is_promise ?l_is_promise ?c_is_promise ?k_is_promise ?a_check_module ?l_check_module ?c_check_module ?k_check_module ?a_value_of ?l_value_of ?c_value_of ?k_value_of ?a_truth_of ?l_truth_of ?c_truth_of ?k_truth_of ?a_law_deck ?l_law_deck ?c_law_deck ?k_law_deck ?a_law_draw ?l_law_draw ?c_law_draw ?k_law_draw ?a_law_pick ?l_law_pick ?c_law_pick ?k_law_pick ?a_law_words ?l_law_words ?c_law_words ?k_law_words ?a_law_cells ?l_law_cells ?c_law_cells ?k_law_cells ?a_law_expression ?l_law_expression ?c_law_expression ?k_law_expression ?a_law_test ?l_law_test ?c_law_test ?k_law_test ?a_law_put_drawn ?l_law_put_drawn ?c_law_put_drawn ?k_law_put_drawn ?a_law_body ?l_law_body ?c_law_body ?k_law_body ?a_law_parts ?l_law_parts ?c_law_parts ?k_law_parts ?a_law_value ?l_law_value ?c_law_value ?k_law_value ?a_law_so ?l_law_so ?c_law_so ?k_law_so ?a_law_content ?l_law_content ?c_law_content ?k_law_content ?a_law_told ?l_law_told ?c_law_told ?k_law_told ?a_law_said ?l_law_said ?c_law_said ?k_law_said ?a_law ?l_law ?c_law ?k_law ?n_Module ?pg_Module ?hd_Module ?po_Module ?sa_Module ?mk_Module ?kc_Module ?nf_Module_cells ?nf_Module_handles ?nf_Module_operations ?nf_Module_promise ?nf_Module_start ?nf_Module_inputs ?nf_Module_sizes ?nf_Module_bodies ?a_Module_init ?i_Module_init ?l_Module_init ?c_Module_init ?k_Module_init ?a_Module_evaluate ?i_Module_evaluate ?l_Module_evaluate ?c_Module_evaluate ?k_Module_evaluate ?lT_Module_evaluate ?a_Module_holds ?i_Module_holds ?l_Module_holds ?c_Module_holds ?k_Module_holds ?lT_Module_holds ?g_MOST_NUMBER ?g_MOST_SIZE ?g_MOST_HANDLES ?g_MOST_INPUTS ?z_all ?z_bool ?z_dict ?z_enumerate ?z_int ?z_isinstance ?z_len ?z_list ?z_max ?z_range ?z_repr ?z_sorted ?z_str ?z_tuple
    (case a_is_int => k_is); (case l_is_int => k_is); (case c_is_int => k_is); (case k_is_int => k_is); (case a_is_pair => k_is); (case l_is_pair => k_is); (case c_is_pair => k_is); (case k_is_pair => k_is); (case a_is_cell => k_is); (case l_is_cell => k_is); (case c_is_cell => k_is); (case k_is_cell => k_is); (case a_is_name => k_is); (case l_is_name => k_is); (case c_is_name => k_is); (case k_is_name => k_is); (case a_ascends => k_is); (case l_ascends => k_is); (case c_ascends => k_is); (case k_ascends => k_is); (case a_begins_with_word => k_is); (case l_begins_with_word => k_is); (case c_begins_with_word => k_is); (case k_begins_with_word => k_is); (case a_is_cell_in => k_is); (case l_is_cell_in => k_is); (case c_is_cell_in => k_is); (case k_is_cell_in => k_is); (case a_is_expression => k_is); (case l_is_expression => k_is); (case c_is_expression => k_is); (case k_is_expression => k_is); (case a_is_test => k_is); (case l_is_test => k_is); (case c_is_test => k_is); (case k_is_test => k_is); (case a_are_sized_cells => k_is); (case l_are_sized_cells => k_is); (case c_are_sized_cells => k_is); (case k_are_sized_cells => k_is); (case a_are_handles => k_is); (case l_are_handles => k_is); (case c_are_handles => k_is); (case k_are_handles => k_is); (case a_are_operations => k_is); (case l_are_operations => k_is); (case c_are_operations => k_is); (case k_are_operations => k_is); (case a_are_handles_of => k_is); (case l_are_handles_of => k_is); (case c_are_handles_of => k_is); (case k_are_handles_of => k_is); (case a_are_put_writes => k_is); (case l_are_put_writes => k_is); (case c_are_put_writes => k_is); (case k_are_put_writes => k_is); (case a_is_put => k_is); (case l_is_put => k_is); (case c_is_put => k_is); (case k_is_put => k_is); (case a_is_statement => k_is); (case l_is_statement => k_is); (case c_is_statement => k_is); (case k_is_statement => k_is); (case a_is_body => k_is); (case l_is_body => k_is); (case c_is_body => k_is); (case k_is_body => k_is); (case a_is_promise => k_is); (case l_is_promise => k_is); (case c_is_promise => k_is); (case k_is_promise => k_is); (case a_check_module => k_is); (case l_check_module => k_is); (case c_check_module => k_is); (case k_check_module => k_is); (case a_value_of => k_is); (case l_value_of => k_is); (case c_value_of => k_is); (case k_value_of => k_is); (case a_truth_of => k_is); (case l_truth_of => k_is); (case c_truth_of => k_is); (case k_truth_of => k_is); (case a_law_deck => k_is); (case l_law_deck => k_is); (case c_law_deck => k_is); (case k_law_deck => k_is); (case a_law_draw => k_is); (case l_law_draw => k_is); (case c_law_draw => k_is); (case k_law_draw => k_is); (case a_law_pick => k_is); (case l_law_pick => k_is); (case c_law_pick => k_is); (case k_law_pick => k_is); (case a_law_words => k_is); (case l_law_words => k_is); (case c_law_words => k_is); (case k_law_words => k_is); (case a_law_cells => k_is); (case l_law_cells => k_is); (case c_law_cells => k_is); (case k_law_cells => k_is); (case a_law_expression => k_is); (case l_law_expression => k_is); (case c_law_expression => k_is); (case k_law_expression => k_is); (case a_law_test => k_is); (case l_law_test => k_is); (case c_law_test => k_is); (case k_law_test => k_is); (case a_law_put_drawn => k_is); (case l_law_put_drawn => k_is); (case c_law_put_drawn => k_is); (case k_law_put_drawn => k_is); (case a_law_body => k_is); (case l_law_body => k_is); (case c_law_body => k_is); (case k_law_body => k_is); (case a_law_parts => k_is); (case l_law_parts => k_is); (case c_law_parts => k_is); (case k_law_parts => k_is); (case a_law_value => k_is); (case l_law_value => k_is); (case c_law_value => k_is); (case k_law_value => k_is); (case a_law_so => k_is); (case l_law_so => k_is); (case c_law_so => k_is); (case k_law_so => k_is); (case a_law_content => k_is); (case l_law_content => k_is); (case c_law_content => k_is); (case k_law_content => k_is); (case a_law_told => k_is); (case l_law_told => k_is); (case c_law_told => k_is); (case k_law_told => k_is); (case a_law_said => k_is); (case l_law_said => k_is); (case c_law_said => k_is); (case k_law_said => k_is); (case a_law => k_is); (case l_law => k_is); (case c_law => k_is); (case k_law => k_is); (case n_Module => k_is); (case pg_Module => k_is); (case hd_Module => k_is); (case po_Module => k_is); (case sa_Module => k_is); (case mk_Module => k_is); (case kc_Module => k_is); (case nf_Module_cells => k_is); (case nf_Module_handles => k_is); (case nf_Module_operations => k_is); (case nf_Module_promise => k_is); (case nf_Module_start => k_is); (case nf_Module_inputs => k_is); (case nf_Module_sizes => k_is); (case nf_Module_bodies => k_is); (case a_Module_init => k_is); (case i_Module_init => k_is); (case l_Module_init => k_is); (case c_Module_init => k_is); (case k_Module_init => k_is); (case a_Module_evaluate => k_is); (case i_Module_evaluate => k_is); (case l_Module_evaluate => k_is); (case c_Module_evaluate => k_is); (case k_Module_evaluate => k_is); (case lT_Module_evaluate => k_is); (case a_Module_holds => k_is); (case i_Module_holds => k_is); (case l_Module_holds => k_is); (case c_Module_holds => k_is); (case k_Module_holds => k_is); (case lT_Module_holds => k_is); (case g_MOST_NUMBER => k_is); (case g_MOST_SIZE => k_is); (case g_MOST_HANDLES => k_is); (case g_MOST_INPUTS => k_is); (case z_all => k_is); (case z_bool => k_is); (case z_dict => k_is); (case z_enumerate => k_is); (case z_int => k_is); (case z_isinstance => k_is); (case z_len => k_is); (case z_list => k_is); (case z_max => k_is); (case z_range => k_is); (case z_repr => k_is); (case z_sorted => k_is); (case z_str => k_is); (case z_tuple => k_is)
